/-
  What the document's Grow does where the file is new.
-/
import Derived.Test.YtglfbigklnaegaaRefF
namespace Go.Proofs.Ytglfbigklnaegaa
open Go.RowKit Mem FM
set_option linter.unusedVariables false
set_option maxRecDepth 100000
variable {K : Nat → Prop}

def f0 (nm : ByteArray) : File Sl := ⟨nm.data.toList, [], 0, ⟨none, 0⟩⟩
theorem f0_fresh (nm : ByteArray) (w : World) : RdR (w.alloc (.cells #[.string nm, .slice none 0 0, .int .i64 0] 60)) (some ⟨w.heap.size, 0, none⟩) 1 [f0 nm] := RdR.fresh w (f0 nm)

set_option maxHeartbeats 8000000 in
theorem ref_grow_new_f (X : Nat) (F : Nat → Prop) (v : Value) (fs : List (File Sl)) (s : St) (nm : ByteArray) (A : Option Addr) (n c : Nat) (l : List UInt8) (w : World) (hR : RefF K w F X v fs s) (hs : nm.size ≤ 9223372036854775807) (hp : Steady K F w A n c l) (hr : ready1 nm s.off = 0)
    (hfn : find nm.data.toList fs = none) (hpl : placeOf nm.data.toList fs = -1) (hroom : used s.files + n ≤ s.room) (ho : s.ops + 1 < 1099511627776) (hKb : ∀ k, K k → k < w.heap.size) :
    Calls Try.prog 17 #[.pointer (some ⟨X, 0, none⟩), .string nm, .slice A n c, .bool false] w (RDid K F X (opErr s.fuse) (s.op (grow nm.data.toList l s.files)) w) := by
  obtain ⟨i0, hi0, hz0, hz1, hz2⟩ := info_parts Try.info_byte
  have HI := Lib.hid hi0; have HZ0 := Lib.hid hz0; have HZ1 := Lib.hid hz1; have HZ2 := Lib.hid hz2
  obtain ⟨i1, hi1, hy0, hy1, hy2⟩ := info_parts Try.infoF
  have HI1 := Lib.hid hi1; have HY0 := Lib.hid hy0; have HY1 := Lib.hid hy1; have HY2 := Lib.hid hy2
  clear hi0 hz0 hz1 hz2 hi1 hy0 hy1 hy2
  have HKB := Lib.hid hKb
  clear hKb
  have HR := Lib.hid hR; have HP := Lib.hid hp; have HFN := Lib.hid hfn
  have hmx := hp.rd.max; have hcap := hp.rd.cap
  have HLN := Lib.hid hp.rd.len
  obtain ⟨hok, hoff⟩ := ready_parts hr
  have HNM := Lib.hid (ref_name_any nm w hs)
  have HAT := Lib.hid (ref_at_any X F v fs s nm w hR)
  rw [hok] at HNM
  rw [hpl] at HAT
  have HUS := Lib.hid (fun k => ref_used_any X F v fs s (w.drewN k) (hR.below ⟨rfl, rfl, rfl, Nat.le_refl _, fun _ _ => rfl⟩))
  have HOP := Lib.hid (fun k => ref_op_any X F v fs s (w.drewN k) (hR.below ⟨rfl, rfl, rfl, Nat.le_refl _, fun _ _ => rfl⟩) ho)
  have c1 := hR.1.c1; have c3 := hR.1.c3
  rw [hoff] at c3
  have hbd := hR.2.2.2.2.2.2.2.1.2.1
  have HOE := Lib.hid (show opErr s.fuse = if (s.off || s.fuse == 1) then 10 else 0 by unfold opErr; rw [hoff]; by_cases h : s.fuse = 1 <;> simp [h])
  obtain ⟨A0, c0', rfl, hcc, hccm⟩ := hR.form
  have HO2 := Lib.hid (show ∀ fs', (⟨(s.op s.files).room, fs', (s.op s.files).ops, (s.op s.files).fuse, (s.op s.files).off⟩ : St) = s.op fs' from fun _ => rfl)
  have HORm := Lib.hid (show (s.op s.files).room = s.room ∧ (s.op s.files).files = s.files ∧ (s.op s.files).ops = s.ops + 1 from ⟨rfl, rfl, rfl⟩)
  generalize hbo : (s.off || s.fuse == 1) = bo at *
  generalize hop : s.op s.files = so at *
  obtain ⟨nf, hnf⟩ : ∃ nf, fs.length = nf := ⟨_, rfl⟩
  rw [hnf] at hcc
  have hnn : nf < 1099511627776 := by have := hR.2.2.2.2.2.2.2.1; omega
  have HNF := Lib.hid hnf
  obtain ⟨rm, hrm⟩ : ∃ rm, s.room = rm := ⟨_, rfl⟩
  obtain ⟨us, hus⟩ : ∃ us, used s.files = us := ⟨_, rfl⟩
  rw [hrm] at c1 hbd hroom
  rw [hus] at hroom
  simp only [hus] at HUS
  have hw1 : IntKind.i64.wrap ((rm : Int) - (us : Int)) = (rm : Int) - (us : Int) := IntWalk.i64_in _ (by omega)
  have HRMM := Lib.hid hrm; have HUSS := Lib.hid hus
  clear hR hp hr hpl hok hoff hbo hop hnf hrm hus hfn
  go_enter Try.func17, Try.ntmps17
  go_wp2_with fail
  refine HNM.out.mono ?_
  rintro e w1 ⟨rfl, rfl⟩
  go_wp2_with fail
  refine HAT.out.mono ?_
  rintro e w1' ⟨rfl, rfl⟩
  go_wp2_with fail
  go_quiet ((go_at_call 27; refine Calls.quiet_of_same (HUS.out _)))
  clear hw1
  go_wp2_with fail
  refine (HOP.out nq).mono ?_
  rintro e w2 ⟨rfl, hR2, ht2⟩
  have HR2 := Lib.hid hR2
  have HT2 := Lib.hid (show Turned F w1' w2 from (ht2.more (F' := F) (fun k _ hk => by subst hk; exact HR.out.2.1)).undrewN)
  have d0 := hR2.1.c0
  rw [HNF.out] at d0
  have HX0 := Lib.hid (hR2.2.2.2.2.2.2.2.2 X hR2.2.1)
  have HW2 := Lib.hid hR2.whole
  rw [HNF.out] at HW2
  have HK0 := Lib.hid (show ∀ j (h : j < fs.length), j < 0 → fs[j].name < (f0 nm).name from fun j _ hj => by omega)
  clear hR2 ht2 HUS HOP HNM HAT c1 c3
  go_wp2
  go_loop [12] (fun p => ∃ k : Nat, p = .int .i64 (k : Int) ∧ k ≤ nf ∧ Hid (∀ j (h : j < fs.length), j < k → fs[j].name < (f0 nm).name)) (fun p => nf - (intOf p).toNat)
  case atStart => exact ⟨0, rfl, by omega, HK0⟩
  case round =>
    obtain ⟨k, rfl, hk, HK⟩ := hrel
    by_cases hlt : k < nf
    · have hkx : k < fs.length := by rw [HNF.out]; exact hlt
      obtain ⟨gq, rfl, hgq, _, _, q, _, _⟩ := HR2.out.at_ hkx
      have hil : (k : Int) < (nf : Int) := by omega
      by_cases he : fs[k].name < (f0 nm).name
      · have HK2 := Lib.hid (show ∀ j (h : j < fs.length), j < k + 1 → fs[j].name < (f0 nm).name from fun j h hj => by
          by_cases e : j = k
          · subst e; exact he
          · exact HK.out j h (by omega))
        have hq : Op.bytesLess fs[k].name nm.toList = true := by rw [bytesLess_eq, Lib.toList_data]; simpa [f0] using he
        clear he
        generalize fs[k].name = y at *
        go_wp2
        go_round
        case rel => exact ⟨k + 1, by go_num, by omega, HK2⟩
        case measure => simp [intOf]; omega
      · have HX := Lib.hid (show ∀ h : k < fs.length, (f0 nm).name < fs[k].name from fun _ => lt_of_not he (find_none HFN.out _ (List.getElem_mem hkx)))
        have hq : Op.bytesLess fs[k].name nm.toList = false := by rw [bytesLess_eq, Lib.toList_data]; simpa [f0] using he
        clear he
        obtain ⟨y, hy⟩ : ∃ y, fs[k].name = y := ⟨_, rfl⟩
        rw [hy] at q hq
        clear hy
        go_wp2_with (at_builtin; go_must (refine wpList_appR _ rfl (.tmp 64) (.tmp 70) _ rfl w2.heap.size i1 Try.underlying29 HI1.out HY0.out HY1.out HY2.out (.slice none 0 0) [] (World.ownsRow_nil _ _ _ _) rfl (some ⟨gq, 0, none⟩) k c0' (fs.take k) (HW2.out.upto hk) rfl (by have := HNF.out; simp; omega) (Nat.le_refl _) ?_))
        intro v3 w3 hO3 hg3
        have hb3 : Below w2.heap.size w2 w3 := (Below.refl _ w2).grown hg3 (Nat.le_refl _) (fun k' hk' => by simp [Value.ownBlock] at hk')
        obtain ⟨A3, cc3, hv3⟩ := hO3.form
        have HO3 := Lib.hid hO3; have HB3 := Lib.hid hb3
        have hl3 : (fs.take k).length = k := by have := HNF.out; simp; omega
        rw [hl3] at hv3
        subst hv3
        have hsz3 := hb3.size
        clear hO3 hg3 hb3 hl3
        go_wp2_with (at_builtin; go_must (refine wpList_appR _ rfl (.tmp 72) (.tmp 75) _ rfl w2.heap.size i1 Try.underlying29 HI1.out HY0.out HY1.out HY2.out (.slice A3 k cc3) (fs.take k) (HO3.out.alloc _) rfl (some ⟨w3.heap.size, 0, none⟩) 1 1 [f0 nm] (f0_fresh nm w3) rfl (by have := HNF.out; simp; omega) (by simp; omega) ?_))
        intro v4 w4 hO4 hg4
        have hb4 : Below w2.heap.size w2 w4 := (HB3.out.alloc hsz3 _).grown hg4 (by simp; omega) (fun k' hk' => (HO3.out.lt k' hk').1)
        obtain ⟨A4, cc4, hv4⟩ := hO4.form
        have hl4 : (fs.take k ++ [f0 nm]).length = k + 1 := by have := HNF.out; simp; omega
        rw [hl4] at hv4
        subst hv4
        have d04 : w4.cell? ⟨X, 0, none⟩ = some (.slice (some ⟨gq, 0, none⟩) nf c0') := (hb4.cell (p := ⟨X, 0, none⟩) HX0.out).trans d0
        have HW4 := Lib.hid (HR2.out.below hb4).whole
        rw [HNF.out] at HW4
        have HO4 := Lib.hid hO4; have HB4 := Lib.hid hb4
        have hsz4 := hb4.size
        clear hO4 hg4 hb4 hl4
        go_wp2_with (at_builtin; go_must (refine wpList_appR _ rfl (.tmp 77) (.tmp 83) _ rfl w2.heap.size i1 Try.underlying29 HI1.out HY0.out HY1.out HY2.out (.slice A4 (k + 1) cc4) (fs.take k ++ [f0 nm]) HO4.out rfl _ _ _ (fs.drop k) ?_ rfl (by have := HNF.out; simp; omega) hsz4 ?_))
        · have h0 := HW4.out.from_ hk hcc
          first | exact h0 | (simpa [add_none, show ¬ c0' = k by omega] using h0) | (simpa [add_none, hck] using h0) | (simpa [show nf - k = 0 by omega] using h0) | fail
        intro v5 w5 hO5' hg5
        have hO5 : OwnR w5 w2.heap.size v5 (fs.take k ++ f0 nm :: fs.drop k) := by simpa using hO5'
        clear hO5'
        have hb5 : Below w2.heap.size w2 w5 := HB4.out.grown hg5 hsz4 (fun k' hk' => (HO4.out.lt k' hk').1)
        obtain ⟨A5, cc5, hv5⟩ := hO5.form
        obtain ⟨lsN, hlsN⟩ : ∃ lsN, (fs.take k ++ f0 nm :: fs.drop k) = lsN := ⟨_, rfl⟩
        have hls2 : lsN = ins (f0 nm) fs := by rw [← hlsN, ins_at (f := f0 nm) (by rw [HNF.out]; exact hk) HK.out HX.out]
        have hlk : ∃ h : k < lsN.length, lsN[k] = f0 nm := by
          subst hlsN
          have hlt : k = (fs.take k).length := by have := HNF.out; simp; omega
          refine ⟨by have := HNF.out; simp; omega, ?_⟩
          have e1 : (fs.take k ++ f0 nm :: fs.drop k)[k]? = some (f0 nm) := by
            rw [List.getElem?_append_right (by omega), ← hlt]; simp
          exact (List.getElem?_eq_some_iff.1 e1).2
        have hlset : ∀ f : File Sl, lsN.set k f = fs.take k ++ f :: fs.drop k := by
          intro f
          subst hlsN
          have hlt : k = (fs.take k).length := by have := HNF.out; simp; omega
          rw [List.set_append_right _ _ (by omega), ← hlt]; simp
        rw [hlsN] at hO5 hv5
        have HLSI := Lib.hid hls2
        have hln5 : lsN.length = nf + 1 := by subst hlsN; have := HNF.out; simp; omega
        rw [hln5] at hv5
        subst hv5
        obtain ⟨F6, hR6, ht6, hs6⟩ := HR2.out.relaid hb5 hO5 (by rw [hls2]; exact Rise.ins HR2.out.2.2.2.2.2.1 HFN.out) (fun f hf => by
          rw [← hlsN] at hf
          simp only [List.mem_append, List.mem_cons] at hf
          rcases hf with hf | hf | hf
          · exact HR2.out.2.2.2.2.2.2.1 f (List.mem_of_mem_take hf)
          · subst hf; exact ⟨fun w' _ => Rd.empty (by simp [maxLen, f0]), Nat.le_refl _⟩
          · exact HR2.out.2.2.2.2.2.2.1 f (List.mem_of_mem_drop hf)) (by
          rw [hls2, used_ins]
          have h1 := HR2.out.2.2.2.2.2.2.2.1.1
          rw [← HR2.out.2.2.2.2.1, bare_used] at h1
          simpa [f0] using h1) (by
          have h1 := HR.out.2.2.2.2.2.2.2.1.2.2.2.2
          rw [hln5, HORm.out.2.2]; have := HNF.out; omega)
        have d05 : w5.cell? ⟨X, 0, none⟩ = some (.slice (some ⟨gq, 0, none⟩) nf c0') := (hb5.cell (p := ⟨X, 0, none⟩) HX0.out).trans d0
        have hfz5 : w5.frozen? ⟨X, 0, none⟩ = false := freeAt 0 (HR2.out.below hb5).1
        obtain ⟨hkl, hlk⟩ := hlk
        obtain ⟨g, hA5, hg, _, _, q0, q1, q2⟩ := hR6.at_ hkl
        subst hA5
        have d06 := hR6.1.c0
        rw [hlk] at q1
        have HGW := Lib.hid (show ∀ x : Sl, bare (lsN.set k ⟨lsN[k].name, lsN[k].data ++ l, lsN[k].sure, x⟩) = grow nm.data.toList l s.files from fun x => by
          have hfn : find nm.data.toList s.files = none := by rw [← HR.out.2.2.2.2.1, bare_find, HFN.out]; rfl
          have e1 : (⟨lsN[k].name, lsN[k].data ++ l, lsN[k].sure, x⟩ : File Sl) = ⟨nm.data.toList, l, 0, x⟩ := by rw [hlk]; rfl
          have e2 := ins_at (f := (⟨nm.data.toList, l, 0, x⟩ : File Sl)) (fs := fs) (k := k) (by rw [HNF.out]; exact hk) HK.out HX.out
          unfold grow
          rw [hfn, e1, hlset, ← e2, bare_ins, HR.out.2.2.2.2.1]
          rfl)
        have HLK := Lib.hid hlk; have HKL := Lib.hid hkl
        have HR6 := Lib.hid hR6; have HS6 := Lib.hid hs6; have HT6 := Lib.hid (HT2.out.trans ht6)
        have HSP := Lib.hid (show Spread F F6 w1' from fun k' hk' => (hs6 k' hk').imp id (fun h => Nat.le_trans HT2.out.size h))
        have hkn : (k : Int) < ((nf + 1 : Nat) : Int) := by omega
        have hc5 : nf + 1 ≤ cc5 := by
          obtain ⟨A', c', e, h1, _⟩ := hR6.form
          injection e with _ _ e3
          subst e3
          rw [hln5] at h1; exact h1
        have HXW := Lib.hid (hR6.2.2.2.2.2.2.2.2 X hR6.2.1)
        clear hR6 hs6 ht6 hO5 hg5 hlset hlk hls2 hln5 hlsN hb5 q0 q2 d04
        rw [show (f0 nm).x.A = none from rfl, show (f0 nm).x.c = 0 from rfl, show (f0 nm).data.length = 0 from rfl] at q1
        go_wp2_with (at_builtin; go_must (first | (refine wpList_app _ rfl (.tmp 90) (.tmp 98) _ rfl (w5.setCell ⟨X, 0, none⟩ (.slice (some ⟨g, 0, none⟩) (nf + 1) cc5)).heap.size 0 _ i0 Try.underlying32 HI.out HZ0.out HZ1.out HZ2.out (.slice none 0 0) [] (Own.nil _ _ _) rfl none 0 0 [] (Rd.empty (by simp [maxLen])) rfl (by simp) (Nat.le_refl _) ?_)))
        have hs56 : w5.heap.size = (w5.setCell ⟨X, 0, none⟩ (.slice (some ⟨g, 0, none⟩) (nf + 1) cc5)).heap.size := by simp [World.setCell]
        have HS56 := Lib.hid hs56
        clear hs56
        generalize w5.setCell ⟨X, 0, none⟩ (.slice (some ⟨g, 0, none⟩) (nf + 1) cc5) = w6 at *
        intro v7 w7 hown7 hg7 hat7
        (try rw [HS56.out] at hown7)
        have hb7 : Below w6.heap.size w6 w7 := below_own (Own.nil _ _ 5) (Nat.le_refl _) hg7
        obtain ⟨A7, cc7, hv7, -⟩ := hown7.open_
        subst hv7
        have HO7 := Lib.hid hown7; have HB7 := Lib.hid hb7
        have HP7 := Lib.hid (HP.out.at_ (w' := w7) (HT6.out.trans (Turned.of_below hb7)))
        have hsz7 := hb7.size
        clear hown7 hg7 hat7 hb7
        simp only [List.length_nil] at HO7 ⊢
        go_wp2_with (at_builtin; go_must (refine wpList_app _ rfl (.tmp 100) (.tmp 101) _ rfl w6.heap.size w7.heap.size _ i0 Try.underlying32 HI.out HZ0.out HZ1.out HZ2.out (.slice A7 0 cc7) [] HO7.out rfl _ _ _ l HP7.out rfl ?_ hsz7 ?_))
        · have := HLN.out; simp; omega
        intro v8 w8 hown8 hg8 hat8
        have hb8 : Below w6.heap.size w6 w8 := HB7.out.trans (below_own HO7.out hsz7 hg8)
        obtain ⟨A8, cc8, hv8, -⟩ := hown8.open_
        obtain ⟨L8, hL8⟩ : ∃ L8, l.length = L8 := ⟨_, rfl⟩
        rw [hL8] at hv8
        subst hv8
        have HOW8 := Lib.hid (show Own w8 w6.heap.size 5 (.slice A8 L8 cc8) (lsN[k].data ++ l) from (congrArg (fun f : File Sl => Own w8 w6.heap.size 5 (.slice A8 L8 cc8) (f.data ++ l)) HLK.out).mpr hown8)
        have hfin := HR6.out.grew (i := k) HKL.out hb8 (l := l) (n2 := L8) (c2 := cc8) (A2 := A8) (fun k hk => Nat.lt_of_lt_of_le (HKB.out k hk) HT6.out.size) HOW8.out (by
          have hfn : bare lsN = bare (ins (f0 nm) fs) := by rw [HLSI.out]
          rw [hfn, bare_used, used_ins, HORm.out.1, HRMM.out, ← HLN.out]
          have h3 : used fs = us := by rw [← HUSS.out, ← HR.out.2.2.2.2.1, bare_used]
          rw [h3]
          simp [f0]; omega)
        have d08 : w8.cell? ⟨X, 0, none⟩ = some (.slice (some ⟨g, 0, none⟩) (nf + 1) cc5) := (hb8.cell (p := ⟨X, 0, none⟩) HXW.out).trans d06
        have q18 := (hb8.cell (p := ⟨g, k * 3 + 1, none⟩) hg).trans q1
        have hfz8 : w8.frozen? ⟨g, k * 3 + 1, none⟩ = false := by
          obtain ⟨cur, hh⟩ := row_type (HR6.out.below hb8).2.2.1 rfl
          exact freeAt _ hh
        have HFIN := Lib.hid hfin
        clear hfin hown8 hg8 hat8 hb8 d06 q1 hL8
        cases bo
        · go_wp2
          go_ret
          rw [HOE.out]
          have h9 := HFIN.out.1
          rw [HGW.out, HO2.out] at h9
          exact ⟨rfl, F6, ⟨_, _, h9⟩, HT6.out.trans' HSP.out HFIN.out.2, HSP.out⟩
        · go_wp2
          go_ret
          rw [HOE.out]
          have h9 := HFIN.out.1
          rw [HGW.out, HO2.out] at h9
          exact ⟨rfl, F6, ⟨_, _, h9⟩, HT6.out.trans' HSP.out HFIN.out.2, HSP.out⟩
    · have HX := Lib.hid (show ∀ h : k < fs.length, (f0 nm).name < fs[k].name from fun h => absurd h (by rw [HNF.out]; exact hlt))
      by_cases hck : c0' = k
      · have hck' : k = c0' := hck.symm
        clear hck
        subst hck'
        go_wp2_with (at_builtin; go_must (refine wpList_appR _ rfl (.tmp 64) (.tmp 70) _ rfl w2.heap.size i1 Try.underlying29 HI1.out HY0.out HY1.out HY2.out (.slice none 0 0) [] (World.ownsRow_nil _ _ _ _) rfl A0 k k (fs.take k) (HW2.out.upto hk) rfl (by have := HNF.out; simp; omega) (Nat.le_refl _) ?_))
        intro v3 w3 hO3 hg3
        have hb3 : Below w2.heap.size w2 w3 := (Below.refl _ w2).grown hg3 (Nat.le_refl _) (fun k' hk' => by simp [Value.ownBlock] at hk')
        obtain ⟨A3, cc3, hv3⟩ := hO3.form
        have HO3 := Lib.hid hO3; have HB3 := Lib.hid hb3
        have hl3 : (fs.take k).length = k := by have := HNF.out; simp; omega
        rw [hl3] at hv3
        subst hv3
        have hsz3 := hb3.size
        clear hO3 hg3 hb3 hl3
        go_wp2_with (at_builtin; go_must (refine wpList_appR _ rfl (.tmp 72) (.tmp 75) _ rfl w2.heap.size i1 Try.underlying29 HI1.out HY0.out HY1.out HY2.out (.slice A3 k cc3) (fs.take k) (HO3.out.alloc _) rfl (some ⟨w3.heap.size, 0, none⟩) 1 1 [f0 nm] (f0_fresh nm w3) rfl (by have := HNF.out; simp; omega) (by simp; omega) ?_))
        intro v4 w4 hO4 hg4
        have hb4 : Below w2.heap.size w2 w4 := (HB3.out.alloc hsz3 _).grown hg4 (by simp; omega) (fun k' hk' => (HO3.out.lt k' hk').1)
        obtain ⟨A4, cc4, hv4⟩ := hO4.form
        have hl4 : (fs.take k ++ [f0 nm]).length = k + 1 := by have := HNF.out; simp; omega
        rw [hl4] at hv4
        subst hv4
        have d04 : w4.cell? ⟨X, 0, none⟩ = some (.slice A0 nf k) := (hb4.cell (p := ⟨X, 0, none⟩) HX0.out).trans d0
        have HW4 := Lib.hid (HR2.out.below hb4).whole
        rw [HNF.out] at HW4
        have HO4 := Lib.hid hO4; have HB4 := Lib.hid hb4
        have hsz4 := hb4.size
        clear hO4 hg4 hb4 hl4
        go_wp2_with (at_builtin; go_must (refine wpList_appR _ rfl (.tmp 77) (.tmp 83) _ rfl w2.heap.size i1 Try.underlying29 HI1.out HY0.out HY1.out HY2.out (.slice A4 (k + 1) cc4) (fs.take k ++ [f0 nm]) HO4.out rfl _ _ _ (fs.drop k) ?_ rfl (by have := HNF.out; simp; omega) hsz4 ?_))
        · have h0 := HW4.out.from_ hk hcc
          first | exact h0 | (simpa [add_none, show ¬ k = k by omega] using h0) | (simpa [add_none, hck] using h0) | (simpa [show nf - k = 0 by omega] using h0) | fail
        intro v5 w5 hO5' hg5
        have hO5 : OwnR w5 w2.heap.size v5 (fs.take k ++ f0 nm :: fs.drop k) := by simpa using hO5'
        clear hO5'
        have hb5 : Below w2.heap.size w2 w5 := HB4.out.grown hg5 hsz4 (fun k' hk' => (HO4.out.lt k' hk').1)
        obtain ⟨A5, cc5, hv5⟩ := hO5.form
        obtain ⟨lsN, hlsN⟩ : ∃ lsN, (fs.take k ++ f0 nm :: fs.drop k) = lsN := ⟨_, rfl⟩
        have hls2 : lsN = ins (f0 nm) fs := by rw [← hlsN, ins_at (f := f0 nm) (by rw [HNF.out]; exact hk) HK.out HX.out]
        have hlk : ∃ h : k < lsN.length, lsN[k] = f0 nm := by
          subst hlsN
          have hlt : k = (fs.take k).length := by have := HNF.out; simp; omega
          refine ⟨by have := HNF.out; simp; omega, ?_⟩
          have e1 : (fs.take k ++ f0 nm :: fs.drop k)[k]? = some (f0 nm) := by
            rw [List.getElem?_append_right (by omega), ← hlt]; simp
          exact (List.getElem?_eq_some_iff.1 e1).2
        have hlset : ∀ f : File Sl, lsN.set k f = fs.take k ++ f :: fs.drop k := by
          intro f
          subst hlsN
          have hlt : k = (fs.take k).length := by have := HNF.out; simp; omega
          rw [List.set_append_right _ _ (by omega), ← hlt]; simp
        rw [hlsN] at hO5 hv5
        have HLSI := Lib.hid hls2
        have hln5 : lsN.length = nf + 1 := by subst hlsN; have := HNF.out; simp; omega
        rw [hln5] at hv5
        subst hv5
        obtain ⟨F6, hR6, ht6, hs6⟩ := HR2.out.relaid hb5 hO5 (by rw [hls2]; exact Rise.ins HR2.out.2.2.2.2.2.1 HFN.out) (fun f hf => by
          rw [← hlsN] at hf
          simp only [List.mem_append, List.mem_cons] at hf
          rcases hf with hf | hf | hf
          · exact HR2.out.2.2.2.2.2.2.1 f (List.mem_of_mem_take hf)
          · subst hf; exact ⟨fun w' _ => Rd.empty (by simp [maxLen, f0]), Nat.le_refl _⟩
          · exact HR2.out.2.2.2.2.2.2.1 f (List.mem_of_mem_drop hf)) (by
          rw [hls2, used_ins]
          have h1 := HR2.out.2.2.2.2.2.2.2.1.1
          rw [← HR2.out.2.2.2.2.1, bare_used] at h1
          simpa [f0] using h1) (by
          have h1 := HR.out.2.2.2.2.2.2.2.1.2.2.2.2
          rw [hln5, HORm.out.2.2]; have := HNF.out; omega)
        have d05 : w5.cell? ⟨X, 0, none⟩ = some (.slice A0 nf k) := (hb5.cell (p := ⟨X, 0, none⟩) HX0.out).trans d0
        have hfz5 : w5.frozen? ⟨X, 0, none⟩ = false := freeAt 0 (HR2.out.below hb5).1
        obtain ⟨hkl, hlk⟩ := hlk
        obtain ⟨g, hA5, hg, _, _, q0, q1, q2⟩ := hR6.at_ hkl
        subst hA5
        have d06 := hR6.1.c0
        rw [hlk] at q1
        have HGW := Lib.hid (show ∀ x : Sl, bare (lsN.set k ⟨lsN[k].name, lsN[k].data ++ l, lsN[k].sure, x⟩) = grow nm.data.toList l s.files from fun x => by
          have hfn : find nm.data.toList s.files = none := by rw [← HR.out.2.2.2.2.1, bare_find, HFN.out]; rfl
          have e1 : (⟨lsN[k].name, lsN[k].data ++ l, lsN[k].sure, x⟩ : File Sl) = ⟨nm.data.toList, l, 0, x⟩ := by rw [hlk]; rfl
          have e2 := ins_at (f := (⟨nm.data.toList, l, 0, x⟩ : File Sl)) (fs := fs) (k := k) (by rw [HNF.out]; exact hk) HK.out HX.out
          unfold grow
          rw [hfn, e1, hlset, ← e2, bare_ins, HR.out.2.2.2.2.1]
          rfl)
        have HLK := Lib.hid hlk; have HKL := Lib.hid hkl
        have HR6 := Lib.hid hR6; have HS6 := Lib.hid hs6; have HT6 := Lib.hid (HT2.out.trans ht6)
        have HSP := Lib.hid (show Spread F F6 w1' from fun k' hk' => (hs6 k' hk').imp id (fun h => Nat.le_trans HT2.out.size h))
        have hkn : (k : Int) < ((nf + 1 : Nat) : Int) := by omega
        have hc5 : nf + 1 ≤ cc5 := by
          obtain ⟨A', c', e, h1, _⟩ := hR6.form
          injection e with _ _ e3
          subst e3
          rw [hln5] at h1; exact h1
        have HXW := Lib.hid (hR6.2.2.2.2.2.2.2.2 X hR6.2.1)
        clear hR6 hs6 ht6 hO5 hg5 hlset hlk hls2 hln5 hlsN hb5 q0 q2 d04
        rw [show (f0 nm).x.A = none from rfl, show (f0 nm).x.c = 0 from rfl, show (f0 nm).data.length = 0 from rfl] at q1
        go_wp2_with (at_builtin; go_must (first | (refine wpList_app _ rfl (.tmp 90) (.tmp 98) _ rfl (w5.setCell ⟨X, 0, none⟩ (.slice (some ⟨g, 0, none⟩) (nf + 1) cc5)).heap.size 0 _ i0 Try.underlying32 HI.out HZ0.out HZ1.out HZ2.out (.slice none 0 0) [] (Own.nil _ _ _) rfl none 0 0 [] (Rd.empty (by simp [maxLen])) rfl (by simp) (Nat.le_refl _) ?_)))
        have hs56 : w5.heap.size = (w5.setCell ⟨X, 0, none⟩ (.slice (some ⟨g, 0, none⟩) (nf + 1) cc5)).heap.size := by simp [World.setCell]
        have HS56 := Lib.hid hs56
        clear hs56
        generalize w5.setCell ⟨X, 0, none⟩ (.slice (some ⟨g, 0, none⟩) (nf + 1) cc5) = w6 at *
        intro v7 w7 hown7 hg7 hat7
        (try rw [HS56.out] at hown7)
        have hb7 : Below w6.heap.size w6 w7 := below_own (Own.nil _ _ 5) (Nat.le_refl _) hg7
        obtain ⟨A7, cc7, hv7, -⟩ := hown7.open_
        subst hv7
        have HO7 := Lib.hid hown7; have HB7 := Lib.hid hb7
        have HP7 := Lib.hid (HP.out.at_ (w' := w7) (HT6.out.trans (Turned.of_below hb7)))
        have hsz7 := hb7.size
        clear hown7 hg7 hat7 hb7
        simp only [List.length_nil] at HO7 ⊢
        go_wp2_with (at_builtin; go_must (refine wpList_app _ rfl (.tmp 100) (.tmp 101) _ rfl w6.heap.size w7.heap.size _ i0 Try.underlying32 HI.out HZ0.out HZ1.out HZ2.out (.slice A7 0 cc7) [] HO7.out rfl _ _ _ l HP7.out rfl ?_ hsz7 ?_))
        · have := HLN.out; simp; omega
        intro v8 w8 hown8 hg8 hat8
        have hb8 : Below w6.heap.size w6 w8 := HB7.out.trans (below_own HO7.out hsz7 hg8)
        obtain ⟨A8, cc8, hv8, -⟩ := hown8.open_
        obtain ⟨L8, hL8⟩ : ∃ L8, l.length = L8 := ⟨_, rfl⟩
        rw [hL8] at hv8
        subst hv8
        have HOW8 := Lib.hid (show Own w8 w6.heap.size 5 (.slice A8 L8 cc8) (lsN[k].data ++ l) from (congrArg (fun f : File Sl => Own w8 w6.heap.size 5 (.slice A8 L8 cc8) (f.data ++ l)) HLK.out).mpr hown8)
        have hfin := HR6.out.grew (i := k) HKL.out hb8 (l := l) (n2 := L8) (c2 := cc8) (A2 := A8) (fun k hk => Nat.lt_of_lt_of_le (HKB.out k hk) HT6.out.size) HOW8.out (by
          have hfn : bare lsN = bare (ins (f0 nm) fs) := by rw [HLSI.out]
          rw [hfn, bare_used, used_ins, HORm.out.1, HRMM.out, ← HLN.out]
          have h3 : used fs = us := by rw [← HUSS.out, ← HR.out.2.2.2.2.1, bare_used]
          rw [h3]
          simp [f0]; omega)
        have d08 : w8.cell? ⟨X, 0, none⟩ = some (.slice (some ⟨g, 0, none⟩) (nf + 1) cc5) := (hb8.cell (p := ⟨X, 0, none⟩) HXW.out).trans d06
        have q18 := (hb8.cell (p := ⟨g, k * 3 + 1, none⟩) hg).trans q1
        have hfz8 : w8.frozen? ⟨g, k * 3 + 1, none⟩ = false := by
          obtain ⟨cur, hh⟩ := row_type (HR6.out.below hb8).2.2.1 rfl
          exact freeAt _ hh
        have HFIN := Lib.hid hfin
        clear hfin hown8 hg8 hat8 hb8 d06 q1 hL8
        cases bo
        · go_wp2
          go_ret
          rw [HOE.out]
          have h9 := HFIN.out.1
          rw [HGW.out, HO2.out] at h9
          exact ⟨rfl, F6, ⟨_, _, h9⟩, HT6.out.trans' HSP.out HFIN.out.2, HSP.out⟩
        · go_wp2
          go_ret
          rw [HOE.out]
          have h9 := HFIN.out.1
          rw [HGW.out, HO2.out] at h9
          exact ⟨rfl, F6, ⟨_, _, h9⟩, HT6.out.trans' HSP.out HFIN.out.2, HSP.out⟩
      · obtain ⟨gq, rfl⟩ : ∃ gq, A0 = some ⟨gq, 0, none⟩ := by
          rcases HR2.out.2.2.1.2 with ⟨h1, h0⟩ | ⟨g, cap, cur, h1, _⟩
          · injection h1 with e1 e2 e3
            have := HNF.out; omega
          · injection h1 with e1 e2 e3
            exact ⟨g, e1⟩
        go_wp2_with (at_builtin; go_must (refine wpList_appR _ rfl (.tmp 64) (.tmp 70) _ rfl w2.heap.size i1 Try.underlying29 HI1.out HY0.out HY1.out HY2.out (.slice none 0 0) [] (World.ownsRow_nil _ _ _ _) rfl (some ⟨gq, 0, none⟩) k c0' (fs.take k) (HW2.out.upto hk) rfl (by have := HNF.out; simp; omega) (Nat.le_refl _) ?_))
        intro v3 w3 hO3 hg3
        have hb3 : Below w2.heap.size w2 w3 := (Below.refl _ w2).grown hg3 (Nat.le_refl _) (fun k' hk' => by simp [Value.ownBlock] at hk')
        obtain ⟨A3, cc3, hv3⟩ := hO3.form
        have HO3 := Lib.hid hO3; have HB3 := Lib.hid hb3
        have hl3 : (fs.take k).length = k := by have := HNF.out; simp; omega
        rw [hl3] at hv3
        subst hv3
        have hsz3 := hb3.size
        clear hO3 hg3 hb3 hl3
        go_wp2_with (at_builtin; go_must (refine wpList_appR _ rfl (.tmp 72) (.tmp 75) _ rfl w2.heap.size i1 Try.underlying29 HI1.out HY0.out HY1.out HY2.out (.slice A3 k cc3) (fs.take k) (HO3.out.alloc _) rfl (some ⟨w3.heap.size, 0, none⟩) 1 1 [f0 nm] (f0_fresh nm w3) rfl (by have := HNF.out; simp; omega) (by simp; omega) ?_))
        intro v4 w4 hO4 hg4
        have hb4 : Below w2.heap.size w2 w4 := (HB3.out.alloc hsz3 _).grown hg4 (by simp; omega) (fun k' hk' => (HO3.out.lt k' hk').1)
        obtain ⟨A4, cc4, hv4⟩ := hO4.form
        have hl4 : (fs.take k ++ [f0 nm]).length = k + 1 := by have := HNF.out; simp; omega
        rw [hl4] at hv4
        subst hv4
        have d04 : w4.cell? ⟨X, 0, none⟩ = some (.slice (some ⟨gq, 0, none⟩) nf c0') := (hb4.cell (p := ⟨X, 0, none⟩) HX0.out).trans d0
        have HW4 := Lib.hid (HR2.out.below hb4).whole
        rw [HNF.out] at HW4
        have HO4 := Lib.hid hO4; have HB4 := Lib.hid hb4
        have hsz4 := hb4.size
        clear hO4 hg4 hb4 hl4
        go_wp2_with (at_builtin; go_must (refine wpList_appR _ rfl (.tmp 77) (.tmp 83) _ rfl w2.heap.size i1 Try.underlying29 HI1.out HY0.out HY1.out HY2.out (.slice A4 (k + 1) cc4) (fs.take k ++ [f0 nm]) HO4.out rfl _ _ _ (fs.drop k) ?_ rfl (by have := HNF.out; simp; omega) hsz4 ?_))
        · have h0 := HW4.out.from_ hk hcc
          first | exact h0 | (simpa [add_none, show ¬ c0' = k by omega] using h0) | (simpa [add_none, hck] using h0) | (simpa [show nf - k = 0 by omega] using h0) | fail
        intro v5 w5 hO5' hg5
        have hO5 : OwnR w5 w2.heap.size v5 (fs.take k ++ f0 nm :: fs.drop k) := by simpa using hO5'
        clear hO5'
        have hb5 : Below w2.heap.size w2 w5 := HB4.out.grown hg5 hsz4 (fun k' hk' => (HO4.out.lt k' hk').1)
        obtain ⟨A5, cc5, hv5⟩ := hO5.form
        obtain ⟨lsN, hlsN⟩ : ∃ lsN, (fs.take k ++ f0 nm :: fs.drop k) = lsN := ⟨_, rfl⟩
        have hls2 : lsN = ins (f0 nm) fs := by rw [← hlsN, ins_at (f := f0 nm) (by rw [HNF.out]; exact hk) HK.out HX.out]
        have hlk : ∃ h : k < lsN.length, lsN[k] = f0 nm := by
          subst hlsN
          have hlt : k = (fs.take k).length := by have := HNF.out; simp; omega
          refine ⟨by have := HNF.out; simp; omega, ?_⟩
          have e1 : (fs.take k ++ f0 nm :: fs.drop k)[k]? = some (f0 nm) := by
            rw [List.getElem?_append_right (by omega), ← hlt]; simp
          exact (List.getElem?_eq_some_iff.1 e1).2
        have hlset : ∀ f : File Sl, lsN.set k f = fs.take k ++ f :: fs.drop k := by
          intro f
          subst hlsN
          have hlt : k = (fs.take k).length := by have := HNF.out; simp; omega
          rw [List.set_append_right _ _ (by omega), ← hlt]; simp
        rw [hlsN] at hO5 hv5
        have HLSI := Lib.hid hls2
        have hln5 : lsN.length = nf + 1 := by subst hlsN; have := HNF.out; simp; omega
        rw [hln5] at hv5
        subst hv5
        obtain ⟨F6, hR6, ht6, hs6⟩ := HR2.out.relaid hb5 hO5 (by rw [hls2]; exact Rise.ins HR2.out.2.2.2.2.2.1 HFN.out) (fun f hf => by
          rw [← hlsN] at hf
          simp only [List.mem_append, List.mem_cons] at hf
          rcases hf with hf | hf | hf
          · exact HR2.out.2.2.2.2.2.2.1 f (List.mem_of_mem_take hf)
          · subst hf; exact ⟨fun w' _ => Rd.empty (by simp [maxLen, f0]), Nat.le_refl _⟩
          · exact HR2.out.2.2.2.2.2.2.1 f (List.mem_of_mem_drop hf)) (by
          rw [hls2, used_ins]
          have h1 := HR2.out.2.2.2.2.2.2.2.1.1
          rw [← HR2.out.2.2.2.2.1, bare_used] at h1
          simpa [f0] using h1) (by
          have h1 := HR.out.2.2.2.2.2.2.2.1.2.2.2.2
          rw [hln5, HORm.out.2.2]; have := HNF.out; omega)
        have d05 : w5.cell? ⟨X, 0, none⟩ = some (.slice (some ⟨gq, 0, none⟩) nf c0') := (hb5.cell (p := ⟨X, 0, none⟩) HX0.out).trans d0
        have hfz5 : w5.frozen? ⟨X, 0, none⟩ = false := freeAt 0 (HR2.out.below hb5).1
        obtain ⟨hkl, hlk⟩ := hlk
        obtain ⟨g, hA5, hg, _, _, q0, q1, q2⟩ := hR6.at_ hkl
        subst hA5
        have d06 := hR6.1.c0
        rw [hlk] at q1
        have HGW := Lib.hid (show ∀ x : Sl, bare (lsN.set k ⟨lsN[k].name, lsN[k].data ++ l, lsN[k].sure, x⟩) = grow nm.data.toList l s.files from fun x => by
          have hfn : find nm.data.toList s.files = none := by rw [← HR.out.2.2.2.2.1, bare_find, HFN.out]; rfl
          have e1 : (⟨lsN[k].name, lsN[k].data ++ l, lsN[k].sure, x⟩ : File Sl) = ⟨nm.data.toList, l, 0, x⟩ := by rw [hlk]; rfl
          have e2 := ins_at (f := (⟨nm.data.toList, l, 0, x⟩ : File Sl)) (fs := fs) (k := k) (by rw [HNF.out]; exact hk) HK.out HX.out
          unfold grow
          rw [hfn, e1, hlset, ← e2, bare_ins, HR.out.2.2.2.2.1]
          rfl)
        have HLK := Lib.hid hlk; have HKL := Lib.hid hkl
        have HR6 := Lib.hid hR6; have HS6 := Lib.hid hs6; have HT6 := Lib.hid (HT2.out.trans ht6)
        have HSP := Lib.hid (show Spread F F6 w1' from fun k' hk' => (hs6 k' hk').imp id (fun h => Nat.le_trans HT2.out.size h))
        have hkn : (k : Int) < ((nf + 1 : Nat) : Int) := by omega
        have hc5 : nf + 1 ≤ cc5 := by
          obtain ⟨A', c', e, h1, _⟩ := hR6.form
          injection e with _ _ e3
          subst e3
          rw [hln5] at h1; exact h1
        have HXW := Lib.hid (hR6.2.2.2.2.2.2.2.2 X hR6.2.1)
        clear hR6 hs6 ht6 hO5 hg5 hlset hlk hls2 hln5 hlsN hb5 q0 q2 d04
        rw [show (f0 nm).x.A = none from rfl, show (f0 nm).x.c = 0 from rfl, show (f0 nm).data.length = 0 from rfl] at q1
        go_wp2_with (at_builtin; go_must (first | (refine wpList_app _ rfl (.tmp 90) (.tmp 98) _ rfl (w5.setCell ⟨X, 0, none⟩ (.slice (some ⟨g, 0, none⟩) (nf + 1) cc5)).heap.size 0 _ i0 Try.underlying32 HI.out HZ0.out HZ1.out HZ2.out (.slice none 0 0) [] (Own.nil _ _ _) rfl none 0 0 [] (Rd.empty (by simp [maxLen])) rfl (by simp) (Nat.le_refl _) ?_)))
        have hs56 : w5.heap.size = (w5.setCell ⟨X, 0, none⟩ (.slice (some ⟨g, 0, none⟩) (nf + 1) cc5)).heap.size := by simp [World.setCell]
        have HS56 := Lib.hid hs56
        clear hs56
        generalize w5.setCell ⟨X, 0, none⟩ (.slice (some ⟨g, 0, none⟩) (nf + 1) cc5) = w6 at *
        intro v7 w7 hown7 hg7 hat7
        (try rw [HS56.out] at hown7)
        have hb7 : Below w6.heap.size w6 w7 := below_own (Own.nil _ _ 5) (Nat.le_refl _) hg7
        obtain ⟨A7, cc7, hv7, -⟩ := hown7.open_
        subst hv7
        have HO7 := Lib.hid hown7; have HB7 := Lib.hid hb7
        have HP7 := Lib.hid (HP.out.at_ (w' := w7) (HT6.out.trans (Turned.of_below hb7)))
        have hsz7 := hb7.size
        clear hown7 hg7 hat7 hb7
        simp only [List.length_nil] at HO7 ⊢
        go_wp2_with (at_builtin; go_must (refine wpList_app _ rfl (.tmp 100) (.tmp 101) _ rfl w6.heap.size w7.heap.size _ i0 Try.underlying32 HI.out HZ0.out HZ1.out HZ2.out (.slice A7 0 cc7) [] HO7.out rfl _ _ _ l HP7.out rfl ?_ hsz7 ?_))
        · have := HLN.out; simp; omega
        intro v8 w8 hown8 hg8 hat8
        have hb8 : Below w6.heap.size w6 w8 := HB7.out.trans (below_own HO7.out hsz7 hg8)
        obtain ⟨A8, cc8, hv8, -⟩ := hown8.open_
        obtain ⟨L8, hL8⟩ : ∃ L8, l.length = L8 := ⟨_, rfl⟩
        rw [hL8] at hv8
        subst hv8
        have HOW8 := Lib.hid (show Own w8 w6.heap.size 5 (.slice A8 L8 cc8) (lsN[k].data ++ l) from (congrArg (fun f : File Sl => Own w8 w6.heap.size 5 (.slice A8 L8 cc8) (f.data ++ l)) HLK.out).mpr hown8)
        have hfin := HR6.out.grew (i := k) HKL.out hb8 (l := l) (n2 := L8) (c2 := cc8) (A2 := A8) (fun k hk => Nat.lt_of_lt_of_le (HKB.out k hk) HT6.out.size) HOW8.out (by
          have hfn : bare lsN = bare (ins (f0 nm) fs) := by rw [HLSI.out]
          rw [hfn, bare_used, used_ins, HORm.out.1, HRMM.out, ← HLN.out]
          have h3 : used fs = us := by rw [← HUSS.out, ← HR.out.2.2.2.2.1, bare_used]
          rw [h3]
          simp [f0]; omega)
        have d08 : w8.cell? ⟨X, 0, none⟩ = some (.slice (some ⟨g, 0, none⟩) (nf + 1) cc5) := (hb8.cell (p := ⟨X, 0, none⟩) HXW.out).trans d06
        have q18 := (hb8.cell (p := ⟨g, k * 3 + 1, none⟩) hg).trans q1
        have hfz8 : w8.frozen? ⟨g, k * 3 + 1, none⟩ = false := by
          obtain ⟨cur, hh⟩ := row_type (HR6.out.below hb8).2.2.1 rfl
          exact freeAt _ hh
        have HFIN := Lib.hid hfin
        clear hfin hown8 hg8 hat8 hb8 d06 q1 hL8
        cases bo
        · go_wp2
          go_ret
          rw [HOE.out]
          have h9 := HFIN.out.1
          rw [HGW.out, HO2.out] at h9
          exact ⟨rfl, F6, ⟨_, _, h9⟩, HT6.out.trans' HSP.out HFIN.out.2, HSP.out⟩
        · go_wp2
          go_ret
          rw [HOE.out]
          have h9 := HFIN.out.1
          rw [HGW.out, HO2.out] at h9
          exact ⟨rfl, F6, ⟨_, _, h9⟩, HT6.out.trans' HSP.out HFIN.out.2, HSP.out⟩

set_option maxHeartbeats 8000000 in
theorem ref_grow_new_t (X : Nat) (F : Nat → Prop) (v : Value) (fs : List (File Sl)) (s : St) (nm : ByteArray) (A : Option Addr) (n c : Nat) (l : List UInt8) (w : World) (hR : RefF K w F X v fs s) (hs : nm.size ≤ 9223372036854775807) (hp : Steady K F w A n c l) (hr : ready1 nm s.off = 0)
    (hfn : find nm.data.toList fs = none) (hpl : placeOf nm.data.toList fs = -1) (hroom : used s.files + n ≤ s.room) (ho : s.ops + 1 < 1099511627776) (hKb : ∀ k, K k → k < w.heap.size) :
    Calls Try.prog 17 #[.pointer (some ⟨X, 0, none⟩), .string nm, .slice A n c, .bool true] w (RDid K F X (opErr s.fuse) (s.op (grow nm.data.toList l s.files)) w) := by
  obtain ⟨i0, hi0, hz0, hz1, hz2⟩ := info_parts Try.info_byte
  have HI := Lib.hid hi0; have HZ0 := Lib.hid hz0; have HZ1 := Lib.hid hz1; have HZ2 := Lib.hid hz2
  obtain ⟨i1, hi1, hy0, hy1, hy2⟩ := info_parts Try.infoF
  have HI1 := Lib.hid hi1; have HY0 := Lib.hid hy0; have HY1 := Lib.hid hy1; have HY2 := Lib.hid hy2
  clear hi0 hz0 hz1 hz2 hi1 hy0 hy1 hy2
  have HKB := Lib.hid hKb
  clear hKb
  have HR := Lib.hid hR; have HP := Lib.hid hp; have HFN := Lib.hid hfn
  have hmx := hp.rd.max; have hcap := hp.rd.cap
  have HLN := Lib.hid hp.rd.len
  obtain ⟨hok, hoff⟩ := ready_parts hr
  have HNM := Lib.hid (ref_name_any nm w hs)
  have HAT := Lib.hid (ref_at_any X F v fs s nm w hR)
  rw [hok] at HNM
  rw [hpl] at HAT
  have HUS := Lib.hid (fun k => ref_used_any X F v fs s (w.drewN k) (hR.below ⟨rfl, rfl, rfl, Nat.le_refl _, fun _ _ => rfl⟩))
  have HOP := Lib.hid (fun k => ref_op_any X F v fs s (w.drewN k) (hR.below ⟨rfl, rfl, rfl, Nat.le_refl _, fun _ _ => rfl⟩) ho)
  have c1 := hR.1.c1; have c3 := hR.1.c3
  rw [hoff] at c3
  have hbd := hR.2.2.2.2.2.2.2.1.2.1
  have HOE := Lib.hid (show opErr s.fuse = if (s.off || s.fuse == 1) then 10 else 0 by unfold opErr; rw [hoff]; by_cases h : s.fuse = 1 <;> simp [h])
  obtain ⟨A0, c0', rfl, hcc, hccm⟩ := hR.form
  have HO2 := Lib.hid (show ∀ fs', (⟨(s.op s.files).room, fs', (s.op s.files).ops, (s.op s.files).fuse, (s.op s.files).off⟩ : St) = s.op fs' from fun _ => rfl)
  have HORm := Lib.hid (show (s.op s.files).room = s.room ∧ (s.op s.files).files = s.files ∧ (s.op s.files).ops = s.ops + 1 from ⟨rfl, rfl, rfl⟩)
  generalize hbo : (s.off || s.fuse == 1) = bo at *
  generalize hop : s.op s.files = so at *
  obtain ⟨nf, hnf⟩ : ∃ nf, fs.length = nf := ⟨_, rfl⟩
  rw [hnf] at hcc
  have hnn : nf < 1099511627776 := by have := hR.2.2.2.2.2.2.2.1; omega
  have HNF := Lib.hid hnf
  obtain ⟨rm, hrm⟩ : ∃ rm, s.room = rm := ⟨_, rfl⟩
  obtain ⟨us, hus⟩ : ∃ us, used s.files = us := ⟨_, rfl⟩
  rw [hrm] at c1 hbd hroom
  rw [hus] at hroom
  simp only [hus] at HUS
  have hw1 : IntKind.i64.wrap ((rm : Int) - (us : Int)) = (rm : Int) - (us : Int) := IntWalk.i64_in _ (by omega)
  have HRMM := Lib.hid hrm; have HUSS := Lib.hid hus
  clear hR hp hr hpl hok hoff hbo hop hnf hrm hus hfn
  go_enter Try.func17, Try.ntmps17
  go_wp2_with fail
  refine HNM.out.mono ?_
  rintro e w1 ⟨rfl, rfl⟩
  go_wp2_with fail
  refine HAT.out.mono ?_
  rintro e w1' ⟨rfl, rfl⟩
  go_wp2_with fail
  go_quiet ((go_at_call 27; refine Calls.quiet_of_same (HUS.out _)))
  clear hw1
  go_wp2_with fail
  refine (HOP.out nq).mono ?_
  rintro e w2 ⟨rfl, hR2, ht2⟩
  have HR2 := Lib.hid hR2
  have HT2 := Lib.hid (show Turned F w1' w2 from (ht2.more (F' := F) (fun k _ hk => by subst hk; exact HR.out.2.1)).undrewN)
  have d0 := hR2.1.c0
  rw [HNF.out] at d0
  have HX0 := Lib.hid (hR2.2.2.2.2.2.2.2.2 X hR2.2.1)
  have HW2 := Lib.hid hR2.whole
  rw [HNF.out] at HW2
  have HK0 := Lib.hid (show ∀ j (h : j < fs.length), j < 0 → fs[j].name < (f0 nm).name from fun j _ hj => by omega)
  clear hR2 ht2 HUS HOP HNM HAT c1 c3
  go_wp2
  go_loop [12] (fun p => ∃ k : Nat, p = .int .i64 (k : Int) ∧ k ≤ nf ∧ Hid (∀ j (h : j < fs.length), j < k → fs[j].name < (f0 nm).name)) (fun p => nf - (intOf p).toNat)
  case atStart => exact ⟨0, rfl, by omega, HK0⟩
  case round =>
    obtain ⟨k, rfl, hk, HK⟩ := hrel
    by_cases hlt : k < nf
    · have hkx : k < fs.length := by rw [HNF.out]; exact hlt
      obtain ⟨gq, rfl, hgq, _, _, q, _, _⟩ := HR2.out.at_ hkx
      have hil : (k : Int) < (nf : Int) := by omega
      by_cases he : fs[k].name < (f0 nm).name
      · have HK2 := Lib.hid (show ∀ j (h : j < fs.length), j < k + 1 → fs[j].name < (f0 nm).name from fun j h hj => by
          by_cases e : j = k
          · subst e; exact he
          · exact HK.out j h (by omega))
        have hq : Op.bytesLess fs[k].name nm.toList = true := by rw [bytesLess_eq, Lib.toList_data]; simpa [f0] using he
        clear he
        generalize fs[k].name = y at *
        go_wp2
        go_round
        case rel => exact ⟨k + 1, by go_num, by omega, HK2⟩
        case measure => simp [intOf]; omega
      · have HX := Lib.hid (show ∀ h : k < fs.length, (f0 nm).name < fs[k].name from fun _ => lt_of_not he (find_none HFN.out _ (List.getElem_mem hkx)))
        have hq : Op.bytesLess fs[k].name nm.toList = false := by rw [bytesLess_eq, Lib.toList_data]; simpa [f0] using he
        clear he
        obtain ⟨y, hy⟩ : ∃ y, fs[k].name = y := ⟨_, rfl⟩
        rw [hy] at q hq
        clear hy
        go_wp2_with (at_builtin; go_must (refine wpList_appR _ rfl (.tmp 64) (.tmp 70) _ rfl w2.heap.size i1 Try.underlying29 HI1.out HY0.out HY1.out HY2.out (.slice none 0 0) [] (World.ownsRow_nil _ _ _ _) rfl (some ⟨gq, 0, none⟩) k c0' (fs.take k) (HW2.out.upto hk) rfl (by have := HNF.out; simp; omega) (Nat.le_refl _) ?_))
        intro v3 w3 hO3 hg3
        have hb3 : Below w2.heap.size w2 w3 := (Below.refl _ w2).grown hg3 (Nat.le_refl _) (fun k' hk' => by simp [Value.ownBlock] at hk')
        obtain ⟨A3, cc3, hv3⟩ := hO3.form
        have HO3 := Lib.hid hO3; have HB3 := Lib.hid hb3
        have hl3 : (fs.take k).length = k := by have := HNF.out; simp; omega
        rw [hl3] at hv3
        subst hv3
        have hsz3 := hb3.size
        clear hO3 hg3 hb3 hl3
        go_wp2_with (at_builtin; go_must (refine wpList_appR _ rfl (.tmp 72) (.tmp 75) _ rfl w2.heap.size i1 Try.underlying29 HI1.out HY0.out HY1.out HY2.out (.slice A3 k cc3) (fs.take k) (HO3.out.alloc _) rfl (some ⟨w3.heap.size, 0, none⟩) 1 1 [f0 nm] (f0_fresh nm w3) rfl (by have := HNF.out; simp; omega) (by simp; omega) ?_))
        intro v4 w4 hO4 hg4
        have hb4 : Below w2.heap.size w2 w4 := (HB3.out.alloc hsz3 _).grown hg4 (by simp; omega) (fun k' hk' => (HO3.out.lt k' hk').1)
        obtain ⟨A4, cc4, hv4⟩ := hO4.form
        have hl4 : (fs.take k ++ [f0 nm]).length = k + 1 := by have := HNF.out; simp; omega
        rw [hl4] at hv4
        subst hv4
        have d04 : w4.cell? ⟨X, 0, none⟩ = some (.slice (some ⟨gq, 0, none⟩) nf c0') := (hb4.cell (p := ⟨X, 0, none⟩) HX0.out).trans d0
        have HW4 := Lib.hid (HR2.out.below hb4).whole
        rw [HNF.out] at HW4
        have HO4 := Lib.hid hO4; have HB4 := Lib.hid hb4
        have hsz4 := hb4.size
        clear hO4 hg4 hb4 hl4
        go_wp2_with (at_builtin; go_must (refine wpList_appR _ rfl (.tmp 77) (.tmp 83) _ rfl w2.heap.size i1 Try.underlying29 HI1.out HY0.out HY1.out HY2.out (.slice A4 (k + 1) cc4) (fs.take k ++ [f0 nm]) HO4.out rfl _ _ _ (fs.drop k) ?_ rfl (by have := HNF.out; simp; omega) hsz4 ?_))
        · have h0 := HW4.out.from_ hk hcc
          first | exact h0 | (simpa [add_none, show ¬ c0' = k by omega] using h0) | (simpa [add_none, hck] using h0) | (simpa [show nf - k = 0 by omega] using h0) | fail
        intro v5 w5 hO5' hg5
        have hO5 : OwnR w5 w2.heap.size v5 (fs.take k ++ f0 nm :: fs.drop k) := by simpa using hO5'
        clear hO5'
        have hb5 : Below w2.heap.size w2 w5 := HB4.out.grown hg5 hsz4 (fun k' hk' => (HO4.out.lt k' hk').1)
        obtain ⟨A5, cc5, hv5⟩ := hO5.form
        obtain ⟨lsN, hlsN⟩ : ∃ lsN, (fs.take k ++ f0 nm :: fs.drop k) = lsN := ⟨_, rfl⟩
        have hls2 : lsN = ins (f0 nm) fs := by rw [← hlsN, ins_at (f := f0 nm) (by rw [HNF.out]; exact hk) HK.out HX.out]
        have hlk : ∃ h : k < lsN.length, lsN[k] = f0 nm := by
          subst hlsN
          have hlt : k = (fs.take k).length := by have := HNF.out; simp; omega
          refine ⟨by have := HNF.out; simp; omega, ?_⟩
          have e1 : (fs.take k ++ f0 nm :: fs.drop k)[k]? = some (f0 nm) := by
            rw [List.getElem?_append_right (by omega), ← hlt]; simp
          exact (List.getElem?_eq_some_iff.1 e1).2
        have hlset : ∀ f : File Sl, lsN.set k f = fs.take k ++ f :: fs.drop k := by
          intro f
          subst hlsN
          have hlt : k = (fs.take k).length := by have := HNF.out; simp; omega
          rw [List.set_append_right _ _ (by omega), ← hlt]; simp
        rw [hlsN] at hO5 hv5
        have HLSI := Lib.hid hls2
        have hln5 : lsN.length = nf + 1 := by subst hlsN; have := HNF.out; simp; omega
        rw [hln5] at hv5
        subst hv5
        obtain ⟨F6, hR6, ht6, hs6⟩ := HR2.out.relaid hb5 hO5 (by rw [hls2]; exact Rise.ins HR2.out.2.2.2.2.2.1 HFN.out) (fun f hf => by
          rw [← hlsN] at hf
          simp only [List.mem_append, List.mem_cons] at hf
          rcases hf with hf | hf | hf
          · exact HR2.out.2.2.2.2.2.2.1 f (List.mem_of_mem_take hf)
          · subst hf; exact ⟨fun w' _ => Rd.empty (by simp [maxLen, f0]), Nat.le_refl _⟩
          · exact HR2.out.2.2.2.2.2.2.1 f (List.mem_of_mem_drop hf)) (by
          rw [hls2, used_ins]
          have h1 := HR2.out.2.2.2.2.2.2.2.1.1
          rw [← HR2.out.2.2.2.2.1, bare_used] at h1
          simpa [f0] using h1) (by
          have h1 := HR.out.2.2.2.2.2.2.2.1.2.2.2.2
          rw [hln5, HORm.out.2.2]; have := HNF.out; omega)
        have d05 : w5.cell? ⟨X, 0, none⟩ = some (.slice (some ⟨gq, 0, none⟩) nf c0') := (hb5.cell (p := ⟨X, 0, none⟩) HX0.out).trans d0
        have hfz5 : w5.frozen? ⟨X, 0, none⟩ = false := freeAt 0 (HR2.out.below hb5).1
        obtain ⟨hkl, hlk⟩ := hlk
        obtain ⟨g, hA5, hg, _, _, q0, q1, q2⟩ := hR6.at_ hkl
        subst hA5
        have d06 := hR6.1.c0
        rw [hlk] at q1
        have HGW := Lib.hid (show ∀ x : Sl, bare (lsN.set k ⟨lsN[k].name, lsN[k].data ++ l, lsN[k].sure, x⟩) = grow nm.data.toList l s.files from fun x => by
          have hfn : find nm.data.toList s.files = none := by rw [← HR.out.2.2.2.2.1, bare_find, HFN.out]; rfl
          have e1 : (⟨lsN[k].name, lsN[k].data ++ l, lsN[k].sure, x⟩ : File Sl) = ⟨nm.data.toList, l, 0, x⟩ := by rw [hlk]; rfl
          have e2 := ins_at (f := (⟨nm.data.toList, l, 0, x⟩ : File Sl)) (fs := fs) (k := k) (by rw [HNF.out]; exact hk) HK.out HX.out
          unfold grow
          rw [hfn, e1, hlset, ← e2, bare_ins, HR.out.2.2.2.2.1]
          rfl)
        have HLK := Lib.hid hlk; have HKL := Lib.hid hkl
        have HR6 := Lib.hid hR6; have HS6 := Lib.hid hs6; have HT6 := Lib.hid (HT2.out.trans ht6)
        have HSP := Lib.hid (show Spread F F6 w1' from fun k' hk' => (hs6 k' hk').imp id (fun h => Nat.le_trans HT2.out.size h))
        have hkn : (k : Int) < ((nf + 1 : Nat) : Int) := by omega
        have hc5 : nf + 1 ≤ cc5 := by
          obtain ⟨A', c', e, h1, _⟩ := hR6.form
          injection e with _ _ e3
          subst e3
          rw [hln5] at h1; exact h1
        have HXW := Lib.hid (hR6.2.2.2.2.2.2.2.2 X hR6.2.1)
        clear hR6 hs6 ht6 hO5 hg5 hlset hlk hls2 hln5 hlsN hb5 q0 q2 d04
        rw [show (f0 nm).x.A = none from rfl, show (f0 nm).x.c = 0 from rfl, show (f0 nm).data.length = 0 from rfl] at q1
        go_wp2_with (at_builtin; go_must (first | (refine wpList_app _ rfl (.tmp 90) (.tmp 98) _ rfl (w5.setCell ⟨X, 0, none⟩ (.slice (some ⟨g, 0, none⟩) (nf + 1) cc5)).heap.size 0 _ i0 Try.underlying32 HI.out HZ0.out HZ1.out HZ2.out (.slice none 0 0) [] (Own.nil _ _ _) rfl none 0 0 [] (Rd.empty (by simp [maxLen])) rfl (by simp) (Nat.le_refl _) ?_)))
        have hs56 : w5.heap.size = (w5.setCell ⟨X, 0, none⟩ (.slice (some ⟨g, 0, none⟩) (nf + 1) cc5)).heap.size := by simp [World.setCell]
        have HS56 := Lib.hid hs56
        clear hs56
        generalize w5.setCell ⟨X, 0, none⟩ (.slice (some ⟨g, 0, none⟩) (nf + 1) cc5) = w6 at *
        intro v7 w7 hown7 hg7 hat7
        (try rw [HS56.out] at hown7)
        have hb7 : Below w6.heap.size w6 w7 := below_own (Own.nil _ _ 5) (Nat.le_refl _) hg7
        obtain ⟨A7, cc7, hv7, -⟩ := hown7.open_
        subst hv7
        have HO7 := Lib.hid hown7; have HB7 := Lib.hid hb7
        have HP7 := Lib.hid (HP.out.at_ (w' := w7) (HT6.out.trans (Turned.of_below hb7)))
        have hsz7 := hb7.size
        clear hown7 hg7 hat7 hb7
        simp only [List.length_nil] at HO7 ⊢
        go_wp2_with (at_builtin; go_must (refine wpList_app _ rfl (.tmp 100) (.tmp 101) _ rfl w6.heap.size w7.heap.size _ i0 Try.underlying32 HI.out HZ0.out HZ1.out HZ2.out (.slice A7 0 cc7) [] HO7.out rfl _ _ _ l HP7.out rfl ?_ hsz7 ?_))
        · have := HLN.out; simp; omega
        intro v8 w8 hown8 hg8 hat8
        have hb8 : Below w6.heap.size w6 w8 := HB7.out.trans (below_own HO7.out hsz7 hg8)
        obtain ⟨A8, cc8, hv8, -⟩ := hown8.open_
        obtain ⟨L8, hL8⟩ : ∃ L8, l.length = L8 := ⟨_, rfl⟩
        rw [hL8] at hv8
        subst hv8
        have HOW8 := Lib.hid (show Own w8 w6.heap.size 5 (.slice A8 L8 cc8) (lsN[k].data ++ l) from (congrArg (fun f : File Sl => Own w8 w6.heap.size 5 (.slice A8 L8 cc8) (f.data ++ l)) HLK.out).mpr hown8)
        have hfin := HR6.out.grew (i := k) HKL.out hb8 (l := l) (n2 := L8) (c2 := cc8) (A2 := A8) (fun k hk => Nat.lt_of_lt_of_le (HKB.out k hk) HT6.out.size) HOW8.out (by
          have hfn : bare lsN = bare (ins (f0 nm) fs) := by rw [HLSI.out]
          rw [hfn, bare_used, used_ins, HORm.out.1, HRMM.out, ← HLN.out]
          have h3 : used fs = us := by rw [← HUSS.out, ← HR.out.2.2.2.2.1, bare_used]
          rw [h3]
          simp [f0]; omega)
        have d08 : w8.cell? ⟨X, 0, none⟩ = some (.slice (some ⟨g, 0, none⟩) (nf + 1) cc5) := (hb8.cell (p := ⟨X, 0, none⟩) HXW.out).trans d06
        have q18 := (hb8.cell (p := ⟨g, k * 3 + 1, none⟩) hg).trans q1
        have hfz8 : w8.frozen? ⟨g, k * 3 + 1, none⟩ = false := by
          obtain ⟨cur, hh⟩ := row_type (HR6.out.below hb8).2.2.1 rfl
          exact freeAt _ hh
        have HFIN := Lib.hid hfin
        clear hfin hown8 hg8 hat8 hb8 d06 q1 hL8
        cases bo
        · go_wp2
          go_ret
          rw [HOE.out]
          have h9 := HFIN.out.1
          rw [HGW.out, HO2.out] at h9
          exact ⟨rfl, F6, ⟨_, _, h9⟩, HT6.out.trans' HSP.out HFIN.out.2, HSP.out⟩
        · go_wp2
          go_ret
          rw [HOE.out]
          have h9 := HFIN.out.1
          rw [HGW.out, HO2.out] at h9
          exact ⟨rfl, F6, ⟨_, _, h9⟩, HT6.out.trans' HSP.out HFIN.out.2, HSP.out⟩
    · have HX := Lib.hid (show ∀ h : k < fs.length, (f0 nm).name < fs[k].name from fun h => absurd h (by rw [HNF.out]; exact hlt))
      by_cases hck : c0' = k
      · have hck' : k = c0' := hck.symm
        clear hck
        subst hck'
        go_wp2_with (at_builtin; go_must (refine wpList_appR _ rfl (.tmp 64) (.tmp 70) _ rfl w2.heap.size i1 Try.underlying29 HI1.out HY0.out HY1.out HY2.out (.slice none 0 0) [] (World.ownsRow_nil _ _ _ _) rfl A0 k k (fs.take k) (HW2.out.upto hk) rfl (by have := HNF.out; simp; omega) (Nat.le_refl _) ?_))
        intro v3 w3 hO3 hg3
        have hb3 : Below w2.heap.size w2 w3 := (Below.refl _ w2).grown hg3 (Nat.le_refl _) (fun k' hk' => by simp [Value.ownBlock] at hk')
        obtain ⟨A3, cc3, hv3⟩ := hO3.form
        have HO3 := Lib.hid hO3; have HB3 := Lib.hid hb3
        have hl3 : (fs.take k).length = k := by have := HNF.out; simp; omega
        rw [hl3] at hv3
        subst hv3
        have hsz3 := hb3.size
        clear hO3 hg3 hb3 hl3
        go_wp2_with (at_builtin; go_must (refine wpList_appR _ rfl (.tmp 72) (.tmp 75) _ rfl w2.heap.size i1 Try.underlying29 HI1.out HY0.out HY1.out HY2.out (.slice A3 k cc3) (fs.take k) (HO3.out.alloc _) rfl (some ⟨w3.heap.size, 0, none⟩) 1 1 [f0 nm] (f0_fresh nm w3) rfl (by have := HNF.out; simp; omega) (by simp; omega) ?_))
        intro v4 w4 hO4 hg4
        have hb4 : Below w2.heap.size w2 w4 := (HB3.out.alloc hsz3 _).grown hg4 (by simp; omega) (fun k' hk' => (HO3.out.lt k' hk').1)
        obtain ⟨A4, cc4, hv4⟩ := hO4.form
        have hl4 : (fs.take k ++ [f0 nm]).length = k + 1 := by have := HNF.out; simp; omega
        rw [hl4] at hv4
        subst hv4
        have d04 : w4.cell? ⟨X, 0, none⟩ = some (.slice A0 nf k) := (hb4.cell (p := ⟨X, 0, none⟩) HX0.out).trans d0
        have HW4 := Lib.hid (HR2.out.below hb4).whole
        rw [HNF.out] at HW4
        have HO4 := Lib.hid hO4; have HB4 := Lib.hid hb4
        have hsz4 := hb4.size
        clear hO4 hg4 hb4 hl4
        go_wp2_with (at_builtin; go_must (refine wpList_appR _ rfl (.tmp 77) (.tmp 83) _ rfl w2.heap.size i1 Try.underlying29 HI1.out HY0.out HY1.out HY2.out (.slice A4 (k + 1) cc4) (fs.take k ++ [f0 nm]) HO4.out rfl _ _ _ (fs.drop k) ?_ rfl (by have := HNF.out; simp; omega) hsz4 ?_))
        · have h0 := HW4.out.from_ hk hcc
          first | exact h0 | (simpa [add_none, show ¬ k = k by omega] using h0) | (simpa [add_none, hck] using h0) | (simpa [show nf - k = 0 by omega] using h0) | fail
        intro v5 w5 hO5' hg5
        have hO5 : OwnR w5 w2.heap.size v5 (fs.take k ++ f0 nm :: fs.drop k) := by simpa using hO5'
        clear hO5'
        have hb5 : Below w2.heap.size w2 w5 := HB4.out.grown hg5 hsz4 (fun k' hk' => (HO4.out.lt k' hk').1)
        obtain ⟨A5, cc5, hv5⟩ := hO5.form
        obtain ⟨lsN, hlsN⟩ : ∃ lsN, (fs.take k ++ f0 nm :: fs.drop k) = lsN := ⟨_, rfl⟩
        have hls2 : lsN = ins (f0 nm) fs := by rw [← hlsN, ins_at (f := f0 nm) (by rw [HNF.out]; exact hk) HK.out HX.out]
        have hlk : ∃ h : k < lsN.length, lsN[k] = f0 nm := by
          subst hlsN
          have hlt : k = (fs.take k).length := by have := HNF.out; simp; omega
          refine ⟨by have := HNF.out; simp; omega, ?_⟩
          have e1 : (fs.take k ++ f0 nm :: fs.drop k)[k]? = some (f0 nm) := by
            rw [List.getElem?_append_right (by omega), ← hlt]; simp
          exact (List.getElem?_eq_some_iff.1 e1).2
        have hlset : ∀ f : File Sl, lsN.set k f = fs.take k ++ f :: fs.drop k := by
          intro f
          subst hlsN
          have hlt : k = (fs.take k).length := by have := HNF.out; simp; omega
          rw [List.set_append_right _ _ (by omega), ← hlt]; simp
        rw [hlsN] at hO5 hv5
        have HLSI := Lib.hid hls2
        have hln5 : lsN.length = nf + 1 := by subst hlsN; have := HNF.out; simp; omega
        rw [hln5] at hv5
        subst hv5
        obtain ⟨F6, hR6, ht6, hs6⟩ := HR2.out.relaid hb5 hO5 (by rw [hls2]; exact Rise.ins HR2.out.2.2.2.2.2.1 HFN.out) (fun f hf => by
          rw [← hlsN] at hf
          simp only [List.mem_append, List.mem_cons] at hf
          rcases hf with hf | hf | hf
          · exact HR2.out.2.2.2.2.2.2.1 f (List.mem_of_mem_take hf)
          · subst hf; exact ⟨fun w' _ => Rd.empty (by simp [maxLen, f0]), Nat.le_refl _⟩
          · exact HR2.out.2.2.2.2.2.2.1 f (List.mem_of_mem_drop hf)) (by
          rw [hls2, used_ins]
          have h1 := HR2.out.2.2.2.2.2.2.2.1.1
          rw [← HR2.out.2.2.2.2.1, bare_used] at h1
          simpa [f0] using h1) (by
          have h1 := HR.out.2.2.2.2.2.2.2.1.2.2.2.2
          rw [hln5, HORm.out.2.2]; have := HNF.out; omega)
        have d05 : w5.cell? ⟨X, 0, none⟩ = some (.slice A0 nf k) := (hb5.cell (p := ⟨X, 0, none⟩) HX0.out).trans d0
        have hfz5 : w5.frozen? ⟨X, 0, none⟩ = false := freeAt 0 (HR2.out.below hb5).1
        obtain ⟨hkl, hlk⟩ := hlk
        obtain ⟨g, hA5, hg, _, _, q0, q1, q2⟩ := hR6.at_ hkl
        subst hA5
        have d06 := hR6.1.c0
        rw [hlk] at q1
        have HGW := Lib.hid (show ∀ x : Sl, bare (lsN.set k ⟨lsN[k].name, lsN[k].data ++ l, lsN[k].sure, x⟩) = grow nm.data.toList l s.files from fun x => by
          have hfn : find nm.data.toList s.files = none := by rw [← HR.out.2.2.2.2.1, bare_find, HFN.out]; rfl
          have e1 : (⟨lsN[k].name, lsN[k].data ++ l, lsN[k].sure, x⟩ : File Sl) = ⟨nm.data.toList, l, 0, x⟩ := by rw [hlk]; rfl
          have e2 := ins_at (f := (⟨nm.data.toList, l, 0, x⟩ : File Sl)) (fs := fs) (k := k) (by rw [HNF.out]; exact hk) HK.out HX.out
          unfold grow
          rw [hfn, e1, hlset, ← e2, bare_ins, HR.out.2.2.2.2.1]
          rfl)
        have HLK := Lib.hid hlk; have HKL := Lib.hid hkl
        have HR6 := Lib.hid hR6; have HS6 := Lib.hid hs6; have HT6 := Lib.hid (HT2.out.trans ht6)
        have HSP := Lib.hid (show Spread F F6 w1' from fun k' hk' => (hs6 k' hk').imp id (fun h => Nat.le_trans HT2.out.size h))
        have hkn : (k : Int) < ((nf + 1 : Nat) : Int) := by omega
        have hc5 : nf + 1 ≤ cc5 := by
          obtain ⟨A', c', e, h1, _⟩ := hR6.form
          injection e with _ _ e3
          subst e3
          rw [hln5] at h1; exact h1
        have HXW := Lib.hid (hR6.2.2.2.2.2.2.2.2 X hR6.2.1)
        clear hR6 hs6 ht6 hO5 hg5 hlset hlk hls2 hln5 hlsN hb5 q0 q2 d04
        rw [show (f0 nm).x.A = none from rfl, show (f0 nm).x.c = 0 from rfl, show (f0 nm).data.length = 0 from rfl] at q1
        go_wp2_with (at_builtin; go_must (first | (refine wpList_app _ rfl (.tmp 90) (.tmp 98) _ rfl (w5.setCell ⟨X, 0, none⟩ (.slice (some ⟨g, 0, none⟩) (nf + 1) cc5)).heap.size 0 _ i0 Try.underlying32 HI.out HZ0.out HZ1.out HZ2.out (.slice none 0 0) [] (Own.nil _ _ _) rfl none 0 0 [] (Rd.empty (by simp [maxLen])) rfl (by simp) (Nat.le_refl _) ?_)))
        have hs56 : w5.heap.size = (w5.setCell ⟨X, 0, none⟩ (.slice (some ⟨g, 0, none⟩) (nf + 1) cc5)).heap.size := by simp [World.setCell]
        have HS56 := Lib.hid hs56
        clear hs56
        generalize w5.setCell ⟨X, 0, none⟩ (.slice (some ⟨g, 0, none⟩) (nf + 1) cc5) = w6 at *
        intro v7 w7 hown7 hg7 hat7
        (try rw [HS56.out] at hown7)
        have hb7 : Below w6.heap.size w6 w7 := below_own (Own.nil _ _ 5) (Nat.le_refl _) hg7
        obtain ⟨A7, cc7, hv7, -⟩ := hown7.open_
        subst hv7
        have HO7 := Lib.hid hown7; have HB7 := Lib.hid hb7
        have HP7 := Lib.hid (HP.out.at_ (w' := w7) (HT6.out.trans (Turned.of_below hb7)))
        have hsz7 := hb7.size
        clear hown7 hg7 hat7 hb7
        simp only [List.length_nil] at HO7 ⊢
        go_wp2_with (at_builtin; go_must (refine wpList_app _ rfl (.tmp 100) (.tmp 101) _ rfl w6.heap.size w7.heap.size _ i0 Try.underlying32 HI.out HZ0.out HZ1.out HZ2.out (.slice A7 0 cc7) [] HO7.out rfl _ _ _ l HP7.out rfl ?_ hsz7 ?_))
        · have := HLN.out; simp; omega
        intro v8 w8 hown8 hg8 hat8
        have hb8 : Below w6.heap.size w6 w8 := HB7.out.trans (below_own HO7.out hsz7 hg8)
        obtain ⟨A8, cc8, hv8, -⟩ := hown8.open_
        obtain ⟨L8, hL8⟩ : ∃ L8, l.length = L8 := ⟨_, rfl⟩
        rw [hL8] at hv8
        subst hv8
        have HOW8 := Lib.hid (show Own w8 w6.heap.size 5 (.slice A8 L8 cc8) (lsN[k].data ++ l) from (congrArg (fun f : File Sl => Own w8 w6.heap.size 5 (.slice A8 L8 cc8) (f.data ++ l)) HLK.out).mpr hown8)
        have hfin := HR6.out.grew (i := k) HKL.out hb8 (l := l) (n2 := L8) (c2 := cc8) (A2 := A8) (fun k hk => Nat.lt_of_lt_of_le (HKB.out k hk) HT6.out.size) HOW8.out (by
          have hfn : bare lsN = bare (ins (f0 nm) fs) := by rw [HLSI.out]
          rw [hfn, bare_used, used_ins, HORm.out.1, HRMM.out, ← HLN.out]
          have h3 : used fs = us := by rw [← HUSS.out, ← HR.out.2.2.2.2.1, bare_used]
          rw [h3]
          simp [f0]; omega)
        have d08 : w8.cell? ⟨X, 0, none⟩ = some (.slice (some ⟨g, 0, none⟩) (nf + 1) cc5) := (hb8.cell (p := ⟨X, 0, none⟩) HXW.out).trans d06
        have q18 := (hb8.cell (p := ⟨g, k * 3 + 1, none⟩) hg).trans q1
        have hfz8 : w8.frozen? ⟨g, k * 3 + 1, none⟩ = false := by
          obtain ⟨cur, hh⟩ := row_type (HR6.out.below hb8).2.2.1 rfl
          exact freeAt _ hh
        have HFIN := Lib.hid hfin
        clear hfin hown8 hg8 hat8 hb8 d06 q1 hL8
        cases bo
        · go_wp2
          go_ret
          rw [HOE.out]
          have h9 := HFIN.out.1
          rw [HGW.out, HO2.out] at h9
          exact ⟨rfl, F6, ⟨_, _, h9⟩, HT6.out.trans' HSP.out HFIN.out.2, HSP.out⟩
        · go_wp2
          go_ret
          rw [HOE.out]
          have h9 := HFIN.out.1
          rw [HGW.out, HO2.out] at h9
          exact ⟨rfl, F6, ⟨_, _, h9⟩, HT6.out.trans' HSP.out HFIN.out.2, HSP.out⟩
      · obtain ⟨gq, rfl⟩ : ∃ gq, A0 = some ⟨gq, 0, none⟩ := by
          rcases HR2.out.2.2.1.2 with ⟨h1, h0⟩ | ⟨g, cap, cur, h1, _⟩
          · injection h1 with e1 e2 e3
            have := HNF.out; omega
          · injection h1 with e1 e2 e3
            exact ⟨g, e1⟩
        go_wp2_with (at_builtin; go_must (refine wpList_appR _ rfl (.tmp 64) (.tmp 70) _ rfl w2.heap.size i1 Try.underlying29 HI1.out HY0.out HY1.out HY2.out (.slice none 0 0) [] (World.ownsRow_nil _ _ _ _) rfl (some ⟨gq, 0, none⟩) k c0' (fs.take k) (HW2.out.upto hk) rfl (by have := HNF.out; simp; omega) (Nat.le_refl _) ?_))
        intro v3 w3 hO3 hg3
        have hb3 : Below w2.heap.size w2 w3 := (Below.refl _ w2).grown hg3 (Nat.le_refl _) (fun k' hk' => by simp [Value.ownBlock] at hk')
        obtain ⟨A3, cc3, hv3⟩ := hO3.form
        have HO3 := Lib.hid hO3; have HB3 := Lib.hid hb3
        have hl3 : (fs.take k).length = k := by have := HNF.out; simp; omega
        rw [hl3] at hv3
        subst hv3
        have hsz3 := hb3.size
        clear hO3 hg3 hb3 hl3
        go_wp2_with (at_builtin; go_must (refine wpList_appR _ rfl (.tmp 72) (.tmp 75) _ rfl w2.heap.size i1 Try.underlying29 HI1.out HY0.out HY1.out HY2.out (.slice A3 k cc3) (fs.take k) (HO3.out.alloc _) rfl (some ⟨w3.heap.size, 0, none⟩) 1 1 [f0 nm] (f0_fresh nm w3) rfl (by have := HNF.out; simp; omega) (by simp; omega) ?_))
        intro v4 w4 hO4 hg4
        have hb4 : Below w2.heap.size w2 w4 := (HB3.out.alloc hsz3 _).grown hg4 (by simp; omega) (fun k' hk' => (HO3.out.lt k' hk').1)
        obtain ⟨A4, cc4, hv4⟩ := hO4.form
        have hl4 : (fs.take k ++ [f0 nm]).length = k + 1 := by have := HNF.out; simp; omega
        rw [hl4] at hv4
        subst hv4
        have d04 : w4.cell? ⟨X, 0, none⟩ = some (.slice (some ⟨gq, 0, none⟩) nf c0') := (hb4.cell (p := ⟨X, 0, none⟩) HX0.out).trans d0
        have HW4 := Lib.hid (HR2.out.below hb4).whole
        rw [HNF.out] at HW4
        have HO4 := Lib.hid hO4; have HB4 := Lib.hid hb4
        have hsz4 := hb4.size
        clear hO4 hg4 hb4 hl4
        go_wp2_with (at_builtin; go_must (refine wpList_appR _ rfl (.tmp 77) (.tmp 83) _ rfl w2.heap.size i1 Try.underlying29 HI1.out HY0.out HY1.out HY2.out (.slice A4 (k + 1) cc4) (fs.take k ++ [f0 nm]) HO4.out rfl _ _ _ (fs.drop k) ?_ rfl (by have := HNF.out; simp; omega) hsz4 ?_))
        · have h0 := HW4.out.from_ hk hcc
          first | exact h0 | (simpa [add_none, show ¬ c0' = k by omega] using h0) | (simpa [add_none, hck] using h0) | (simpa [show nf - k = 0 by omega] using h0) | fail
        intro v5 w5 hO5' hg5
        have hO5 : OwnR w5 w2.heap.size v5 (fs.take k ++ f0 nm :: fs.drop k) := by simpa using hO5'
        clear hO5'
        have hb5 : Below w2.heap.size w2 w5 := HB4.out.grown hg5 hsz4 (fun k' hk' => (HO4.out.lt k' hk').1)
        obtain ⟨A5, cc5, hv5⟩ := hO5.form
        obtain ⟨lsN, hlsN⟩ : ∃ lsN, (fs.take k ++ f0 nm :: fs.drop k) = lsN := ⟨_, rfl⟩
        have hls2 : lsN = ins (f0 nm) fs := by rw [← hlsN, ins_at (f := f0 nm) (by rw [HNF.out]; exact hk) HK.out HX.out]
        have hlk : ∃ h : k < lsN.length, lsN[k] = f0 nm := by
          subst hlsN
          have hlt : k = (fs.take k).length := by have := HNF.out; simp; omega
          refine ⟨by have := HNF.out; simp; omega, ?_⟩
          have e1 : (fs.take k ++ f0 nm :: fs.drop k)[k]? = some (f0 nm) := by
            rw [List.getElem?_append_right (by omega), ← hlt]; simp
          exact (List.getElem?_eq_some_iff.1 e1).2
        have hlset : ∀ f : File Sl, lsN.set k f = fs.take k ++ f :: fs.drop k := by
          intro f
          subst hlsN
          have hlt : k = (fs.take k).length := by have := HNF.out; simp; omega
          rw [List.set_append_right _ _ (by omega), ← hlt]; simp
        rw [hlsN] at hO5 hv5
        have HLSI := Lib.hid hls2
        have hln5 : lsN.length = nf + 1 := by subst hlsN; have := HNF.out; simp; omega
        rw [hln5] at hv5
        subst hv5
        obtain ⟨F6, hR6, ht6, hs6⟩ := HR2.out.relaid hb5 hO5 (by rw [hls2]; exact Rise.ins HR2.out.2.2.2.2.2.1 HFN.out) (fun f hf => by
          rw [← hlsN] at hf
          simp only [List.mem_append, List.mem_cons] at hf
          rcases hf with hf | hf | hf
          · exact HR2.out.2.2.2.2.2.2.1 f (List.mem_of_mem_take hf)
          · subst hf; exact ⟨fun w' _ => Rd.empty (by simp [maxLen, f0]), Nat.le_refl _⟩
          · exact HR2.out.2.2.2.2.2.2.1 f (List.mem_of_mem_drop hf)) (by
          rw [hls2, used_ins]
          have h1 := HR2.out.2.2.2.2.2.2.2.1.1
          rw [← HR2.out.2.2.2.2.1, bare_used] at h1
          simpa [f0] using h1) (by
          have h1 := HR.out.2.2.2.2.2.2.2.1.2.2.2.2
          rw [hln5, HORm.out.2.2]; have := HNF.out; omega)
        have d05 : w5.cell? ⟨X, 0, none⟩ = some (.slice (some ⟨gq, 0, none⟩) nf c0') := (hb5.cell (p := ⟨X, 0, none⟩) HX0.out).trans d0
        have hfz5 : w5.frozen? ⟨X, 0, none⟩ = false := freeAt 0 (HR2.out.below hb5).1
        obtain ⟨hkl, hlk⟩ := hlk
        obtain ⟨g, hA5, hg, _, _, q0, q1, q2⟩ := hR6.at_ hkl
        subst hA5
        have d06 := hR6.1.c0
        rw [hlk] at q1
        have HGW := Lib.hid (show ∀ x : Sl, bare (lsN.set k ⟨lsN[k].name, lsN[k].data ++ l, lsN[k].sure, x⟩) = grow nm.data.toList l s.files from fun x => by
          have hfn : find nm.data.toList s.files = none := by rw [← HR.out.2.2.2.2.1, bare_find, HFN.out]; rfl
          have e1 : (⟨lsN[k].name, lsN[k].data ++ l, lsN[k].sure, x⟩ : File Sl) = ⟨nm.data.toList, l, 0, x⟩ := by rw [hlk]; rfl
          have e2 := ins_at (f := (⟨nm.data.toList, l, 0, x⟩ : File Sl)) (fs := fs) (k := k) (by rw [HNF.out]; exact hk) HK.out HX.out
          unfold grow
          rw [hfn, e1, hlset, ← e2, bare_ins, HR.out.2.2.2.2.1]
          rfl)
        have HLK := Lib.hid hlk; have HKL := Lib.hid hkl
        have HR6 := Lib.hid hR6; have HS6 := Lib.hid hs6; have HT6 := Lib.hid (HT2.out.trans ht6)
        have HSP := Lib.hid (show Spread F F6 w1' from fun k' hk' => (hs6 k' hk').imp id (fun h => Nat.le_trans HT2.out.size h))
        have hkn : (k : Int) < ((nf + 1 : Nat) : Int) := by omega
        have hc5 : nf + 1 ≤ cc5 := by
          obtain ⟨A', c', e, h1, _⟩ := hR6.form
          injection e with _ _ e3
          subst e3
          rw [hln5] at h1; exact h1
        have HXW := Lib.hid (hR6.2.2.2.2.2.2.2.2 X hR6.2.1)
        clear hR6 hs6 ht6 hO5 hg5 hlset hlk hls2 hln5 hlsN hb5 q0 q2 d04
        rw [show (f0 nm).x.A = none from rfl, show (f0 nm).x.c = 0 from rfl, show (f0 nm).data.length = 0 from rfl] at q1
        go_wp2_with (at_builtin; go_must (first | (refine wpList_app _ rfl (.tmp 90) (.tmp 98) _ rfl (w5.setCell ⟨X, 0, none⟩ (.slice (some ⟨g, 0, none⟩) (nf + 1) cc5)).heap.size 0 _ i0 Try.underlying32 HI.out HZ0.out HZ1.out HZ2.out (.slice none 0 0) [] (Own.nil _ _ _) rfl none 0 0 [] (Rd.empty (by simp [maxLen])) rfl (by simp) (Nat.le_refl _) ?_)))
        have hs56 : w5.heap.size = (w5.setCell ⟨X, 0, none⟩ (.slice (some ⟨g, 0, none⟩) (nf + 1) cc5)).heap.size := by simp [World.setCell]
        have HS56 := Lib.hid hs56
        clear hs56
        generalize w5.setCell ⟨X, 0, none⟩ (.slice (some ⟨g, 0, none⟩) (nf + 1) cc5) = w6 at *
        intro v7 w7 hown7 hg7 hat7
        (try rw [HS56.out] at hown7)
        have hb7 : Below w6.heap.size w6 w7 := below_own (Own.nil _ _ 5) (Nat.le_refl _) hg7
        obtain ⟨A7, cc7, hv7, -⟩ := hown7.open_
        subst hv7
        have HO7 := Lib.hid hown7; have HB7 := Lib.hid hb7
        have HP7 := Lib.hid (HP.out.at_ (w' := w7) (HT6.out.trans (Turned.of_below hb7)))
        have hsz7 := hb7.size
        clear hown7 hg7 hat7 hb7
        simp only [List.length_nil] at HO7 ⊢
        go_wp2_with (at_builtin; go_must (refine wpList_app _ rfl (.tmp 100) (.tmp 101) _ rfl w6.heap.size w7.heap.size _ i0 Try.underlying32 HI.out HZ0.out HZ1.out HZ2.out (.slice A7 0 cc7) [] HO7.out rfl _ _ _ l HP7.out rfl ?_ hsz7 ?_))
        · have := HLN.out; simp; omega
        intro v8 w8 hown8 hg8 hat8
        have hb8 : Below w6.heap.size w6 w8 := HB7.out.trans (below_own HO7.out hsz7 hg8)
        obtain ⟨A8, cc8, hv8, -⟩ := hown8.open_
        obtain ⟨L8, hL8⟩ : ∃ L8, l.length = L8 := ⟨_, rfl⟩
        rw [hL8] at hv8
        subst hv8
        have HOW8 := Lib.hid (show Own w8 w6.heap.size 5 (.slice A8 L8 cc8) (lsN[k].data ++ l) from (congrArg (fun f : File Sl => Own w8 w6.heap.size 5 (.slice A8 L8 cc8) (f.data ++ l)) HLK.out).mpr hown8)
        have hfin := HR6.out.grew (i := k) HKL.out hb8 (l := l) (n2 := L8) (c2 := cc8) (A2 := A8) (fun k hk => Nat.lt_of_lt_of_le (HKB.out k hk) HT6.out.size) HOW8.out (by
          have hfn : bare lsN = bare (ins (f0 nm) fs) := by rw [HLSI.out]
          rw [hfn, bare_used, used_ins, HORm.out.1, HRMM.out, ← HLN.out]
          have h3 : used fs = us := by rw [← HUSS.out, ← HR.out.2.2.2.2.1, bare_used]
          rw [h3]
          simp [f0]; omega)
        have d08 : w8.cell? ⟨X, 0, none⟩ = some (.slice (some ⟨g, 0, none⟩) (nf + 1) cc5) := (hb8.cell (p := ⟨X, 0, none⟩) HXW.out).trans d06
        have q18 := (hb8.cell (p := ⟨g, k * 3 + 1, none⟩) hg).trans q1
        have hfz8 : w8.frozen? ⟨g, k * 3 + 1, none⟩ = false := by
          obtain ⟨cur, hh⟩ := row_type (HR6.out.below hb8).2.2.1 rfl
          exact freeAt _ hh
        have HFIN := Lib.hid hfin
        clear hfin hown8 hg8 hat8 hb8 d06 q1 hL8
        cases bo
        · go_wp2
          go_ret
          rw [HOE.out]
          have h9 := HFIN.out.1
          rw [HGW.out, HO2.out] at h9
          exact ⟨rfl, F6, ⟨_, _, h9⟩, HT6.out.trans' HSP.out HFIN.out.2, HSP.out⟩
        · go_wp2
          go_ret
          rw [HOE.out]
          have h9 := HFIN.out.1
          rw [HGW.out, HO2.out] at h9
          exact ⟨rfl, F6, ⟨_, _, h9⟩, HT6.out.trans' HSP.out HFIN.out.2, HSP.out⟩
end Go.Proofs.Ytglfbigklnaegaa
