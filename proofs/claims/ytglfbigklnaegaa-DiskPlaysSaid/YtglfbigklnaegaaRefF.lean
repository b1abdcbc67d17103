/-
  What the document's Grow does, by contracts.
-/
import Derived.Test.YtglfbigklnaegaaRefE
namespace Go.Proofs.Ytglfbigklnaegaa
open Go.RowKit Mem FM
set_option linter.unusedVariables false
set_option maxRecDepth 100000
variable {K : Nat → Prop}

theorem ins_at {Y : Type} {f : File Y} : ∀ {fs : List (File Y)} {k : Nat}, k ≤ fs.length → (∀ j (h : j < fs.length), j < k → fs[j].name < f.name) → (∀ h : k < fs.length, f.name < fs[k].name) → ins f fs = fs.take k ++ f :: fs.drop k := by
  intro fs
  induction fs with
  | nil => intro k hk _ _; simp at hk; subst hk; rfl
  | cons g r ih =>
    intro k hk h1 h2
    cases k with
    | zero =>
      have := h2 (by simp)
      simp only [List.getElem_cons_zero] at this
      unfold ins
      rw [if_pos this]; rfl
    | succ k =>
      have h0 := h1 0 (by simp) (by omega)
      simp only [List.getElem_cons_zero] at h0
      unfold ins
      rw [if_neg (fun e => lt_irrefl _ (lt_trans h0 e)), ih (k := k) (by simpa using hk) (fun j hj hjk => h1 (j + 1) (by simpa using hj) (by omega)) (fun h => h2 (by simpa using h))]
      rfl

/-- a file has grown, in its place -/
theorem RefF.grew {w w2 : World} {F : Nat → Prop} {X g n c i n2 c2 : Nat} {A2 : Option Addr} {l : List UInt8} {fs : List (File Sl)} {s : St} (h : RefF K w F X (.slice (some ⟨g, 0, none⟩) n c) fs s) (hi : i < fs.length) (hb : Below w.heap.size w w2)
    (hKb : ∀ k, K k → k < w.heap.size) (hown : Own w2 w.heap.size 5 (.slice A2 n2 c2) (fs[i].data ++ l)) (hus : used s.files + l.length ≤ s.room) :
    RefF K (w2.setCell ⟨g, i * 3 + 1, none⟩ (.slice A2 n2 c2)) F X (.slice (some ⟨g, 0, none⟩) n c) (fs.set i ⟨fs[i].name, fs[i].data ++ l, fs[i].sure, ⟨A2, c2⟩⟩) ⟨s.room, bare (fs.set i ⟨fs[i].name, fs[i].data ++ l, fs[i].sure, ⟨A2, c2⟩⟩), s.ops, s.fuse, s.off⟩ ∧ Turned F w (w2.setCell ⟨g, i * 3 + 1, none⟩ (.slice A2 n2 c2)) := by
  obtain ⟨A', c', hv, hrd⟩ := hown.open_
  injection hv with e1 e2 e3
  subst e1 e2 e3
  have h2 := h.below hb
  have hst : Steady K F w2 A2 (fs[i].data ++ l).length c2 (fs[i].data ++ l) := fun w3 h3 => by
    have := hown.turned h3 (fun k hk hF => by
      have := (hown.lt k hk).1
      rcases hF with hF | hF
      · have := h.2.2.2.2.2.2.2.2 k hF; omega
      · have := hKb k hF; omega)
    obtain ⟨A', c', hv, hrd⟩ := this.open_
    injection hv with e1 e2 e3
    subst e1 e3
    exact hrd
  have hup := h2.upd (i := i) (j := i * 3 + 1) (f := ⟨fs[i].name, fs[i].data ++ l, fs[i].sure, ⟨A2, c2⟩⟩) hi rfl (rcells_data fs i hi (fs[i].data ++ l) ⟨A2, c2⟩) hst (by have := (h.2.2.2.2.2.2.1 fs[i] (List.getElem_mem hi)).2; simp; omega) (by
    have h1 := used_upd (f := (⟨fs[i].name, fs[i].data ++ l, fs[i].sure, ⟨A2, c2⟩⟩ : File Sl)) hi
    have h3 := h.2.2.2.2.1
    rw [← h3, bare_used] at hus
    simp only [List.length_append] at h1
    omega)
  exact ⟨hup.1, (Turned.of_below hb).trans hup.2⟩

theorem ready_parts {nm : ByteArray} {off : Bool} (h : ready1 nm off = 0) : nameOk nm = true ∧ off = false := by
  unfold ready1 at h
  cases hq : off
  · refine ⟨?_, rfl⟩
    cases hn : nameOk nm
    · rw [hn, hq] at h; simp at h
    · rfl
  · rw [hq] at h; split at h <;> simp at h

set_option maxHeartbeats 4000000 in
theorem ref_grow_old (X : Nat) (F : Nat → Prop) (v : Value) (fs : List (File Sl)) (s : St) (nm : ByteArray) (A : Option Addr) (n c : Nat) (l : List UInt8) (w : World) (hR : RefF K w F X v fs s) (hs : nm.size ≤ 9223372036854775807) (hp : Steady K F w A n c l) (hr : ready1 nm s.off = 0)
    (i : Nat) (hi : i < fs.length) (hnm : fs[i].name = nm.data.toList) (hpl : placeOf nm.data.toList fs = (i : Int)) (hroom : used s.files + n ≤ s.room) (ho : s.ops + 1 < 1099511627776) (hKb : ∀ k, K k → k < w.heap.size) :
    Calls Try.prog 17 #[.pointer (some ⟨X, 0, none⟩), .string nm, .slice A n c, .bool false] w (RDid K F X (opErr s.fuse) (s.op (grow nm.data.toList l s.files)) w) := by
  obtain ⟨i0, hi0, hz0, hz1, hz2⟩ := info_parts Try.info_byte
  have HI := Lib.hid hi0; have HZ0 := Lib.hid hz0; have HZ1 := Lib.hid hz1; have HZ2 := Lib.hid hz2
  clear hi0 hz0 hz1 hz2
  have HKB := Lib.hid hKb
  clear hKb
  have HR := Lib.hid hR; have HP := Lib.hid hp
  have hmx := hp.rd.max; have hcap := hp.rd.cap
  have HLN := Lib.hid hp.rd.len
  obtain ⟨hok, hoff⟩ := ready_parts hr
  have HNM := Lib.hid (ref_name_any nm w hs)
  have HAT := Lib.hid (ref_at_any X F v fs s nm w hR)
  rw [hok] at HNM
  rw [hpl] at HAT
  have HUS := Lib.hid (fun k => ref_used_any X F v fs s (w.drewN k) (hR.below ⟨rfl, rfl, rfl, Nat.le_refl _, fun _ _ => rfl⟩))
  have HOP := Lib.hid (fun k => ref_op_any X F v fs s (w.drewN k) (hR.below ⟨rfl, rfl, rfl, Nat.le_refl _, fun _ _ => rfl⟩) ho)
  have c1 := hR.1.c1; have c3 := hR.1.c3
  rw [hoff] at c3
  have HGR := Lib.hid (show ∀ x : Sl, bare (fs.set i ⟨fs[i].name, fs[i].data ++ l, fs[i].sure, x⟩) = grow nm.data.toList l s.files by
    intro x
    have hri : Rise (bare fs) := by
      unfold Rise bare
      exact List.pairwise_map.2 hR.2.2.2.2.2.1
    have hib : i < (bare fs).length := by simpa [bare] using hi
    have hfi : find nm.data.toList s.files = some fs[i].bare := by
      rw [← hR.2.2.2.2.1, bare_find, ← hnm, find_of_mem hR.2.2.2.2.2.1 (List.getElem_mem hi)]; rfl
    unfold grow
    rw [hfi]
    simp only
    rw [← hR.2.2.2.2.1, set_idx hri hib (by simpa [bare, File.bare] using hnm), bare_upd]
    rfl)
  have hbd := hR.2.2.2.2.2.2.2.1.2.1
  have HUL := Lib.hid (show fs[i].data.length ≤ used s.files by
    have := used_mem (List.getElem_mem hi)
    rwa [← bare_used, hR.2.2.2.2.1] at this)
  have HRO := Lib.hid hroom
  have HOE := Lib.hid (show opErr s.fuse = if (s.off || s.fuse == 1) then 10 else 0 by unfold opErr; rw [hoff]; by_cases h : s.fuse = 1 <;> simp [h])
  obtain ⟨A0, c0', rfl, hcc, hccm⟩ := hR.form
  obtain ⟨g, rfl, _⟩ := hR.at_ hi
  have HO2 := Lib.hid (show ∀ fs', (⟨(s.op s.files).room, fs', (s.op s.files).ops, (s.op s.files).fuse, (s.op s.files).off⟩ : St) = s.op fs' from fun _ => rfl)
  have HORm := Lib.hid (show (s.op s.files).room = s.room ∧ (s.op s.files).files = s.files from ⟨rfl, rfl⟩)
  generalize hbo : (s.off || s.fuse == 1) = bo at *
  generalize hop : s.op s.files = so at *
  have HSO := Lib.hid hop
  obtain ⟨nf, hnf⟩ : ∃ nf, fs.length = nf := ⟨_, rfl⟩
  have hin : (i : Int) < (nf : Int) := by omega
  rw [hnf] at hcc
  have HNF := Lib.hid hnf
  obtain ⟨rm, hrm⟩ : ∃ rm, s.room = rm := ⟨_, rfl⟩
  obtain ⟨us, hus⟩ : ∃ us, used s.files = us := ⟨_, rfl⟩
  rw [hrm] at c1 hbd hroom
  rw [hus] at hroom
  simp only [hus] at HUS
  have hw1 : IntKind.i64.wrap ((rm : Int) - (us : Int)) = (rm : Int) - (us : Int) := IntWalk.i64_in _ (by omega)
  have HRMM := Lib.hid hrm; have HUSS := Lib.hid hus
  clear hR hp hr hpl hok hoff hbo hop hnf hrm hus
  go_enter Try.func17, Try.ntmps17
  go_wp2_with fail
  refine HNM.out.mono ?_
  rintro e w1 ⟨rfl, rfl⟩
  go_wp2_with fail
  refine HAT.out.mono ?_
  rintro e w1' ⟨rfl, rfl⟩
  go_wp2_with fail
  go_quiet ((go_at_call 27; refine Calls.quiet_of_same (HUS.out _)))
  clear hw1
  go_wp2_with fail
  refine (HOP.out nq).mono ?_
  rintro e w2 ⟨rfl, hR2, ht2⟩
  have HR2 := Lib.hid hR2
  have HT2 := Lib.hid (show Turned F w1' w2 from (ht2.more (F' := F) (fun k _ hk => by subst hk; exact HR.out.2.1)).undrewN)
  have d0 := hR2.1.c0
  rw [HNF.out] at d0
  obtain ⟨g', e', hg, _, _, q0, q1, q2⟩ := hR2.at_ hi
  injection e' with e'
  injection e' with e' _ _
  subst e'
  have HRD := Lib.hid (hR2.2.2.2.2.2.2.1 fs[i] (List.getElem_mem hi)).1.rd
  obtain ⟨L, hL⟩ : ∃ L, fs[i].data.length = L := ⟨_, rfl⟩
  have HL := Lib.hid hL
  rw [hL] at q1 HRD
  have hLl : L + n ≤ 67108864 := by have h1 := HUL.out; rw [hL, HUSS.out] at h1; omega
  clear hR2 ht2 hL
  go_wp2_with (at_builtin; go_must (refine wpList_app _ rfl (.tmp 90) (.tmp 98) _ rfl w2.heap.size w2.heap.size _ i0 Try.underlying32 HI.out HZ0.out HZ1.out HZ2.out (.slice none 0 0) [] (Own.nil _ _ _) rfl _ _ _ fs[i].data HRD.out rfl ?_ (Nat.le_refl _) ?_))
  · have := HL.out; simp; omega
  intro v1 w3 hown1 hg1 hat1
  have hb1 : Below w2.heap.size w2 w3 := below_own (Own.nil _ _ 5) (Nat.le_refl _) hg1
  obtain ⟨A1, cc1, hv1, -⟩ := hown1.open_
  rw [HL.out] at hv1
  subst hv1
  have HO1 := Lib.hid hown1; have HB1 := Lib.hid hb1
  have HP3 := Lib.hid (HP.out.at_ (w' := w3) (HT2.out.trans (Turned.of_below hb1)))
  have hsz := hb1.size
  clear hown1 hg1 hat1 hb1
  go_wp2_with (at_builtin; go_must (refine wpList_app _ rfl (.tmp 100) (.tmp 101) _ rfl w2.heap.size w3.heap.size _ i0 Try.underlying32 HI.out HZ0.out HZ1.out HZ2.out (.slice A1 L cc1) fs[i].data HO1.out rfl _ _ _ l HP3.out rfl ?_ hsz ?_))
  · have := HL.out; have := HLN.out; omega
  intro v2 w4 hown2 hg2 hat2
  have hb2 : Below w2.heap.size w2 w4 := HB1.out.trans (below_own HO1.out hsz hg2)
  obtain ⟨A2, cc2, hv2, -⟩ := hown2.open_
  obtain ⟨L2, hL2⟩ : ∃ L2, (fs[i].data ++ l).length = L2 := ⟨_, rfl⟩
  rw [hL2] at hv2
  subst hv2
  have hfin := HR2.out.grew (i := i) hi hb2 (fun k hk => Nat.lt_of_lt_of_le (HKB.out k hk) HT2.out.size) hown2 (by rw [HORm.out.1, HORm.out.2, HUSS.out, HRMM.out, ← HLN.out]; exact hroom)
  have d0' : w4.cell? ⟨X, 0, none⟩ = some (.slice (some ⟨g, 0, none⟩) nf c0') := (hb2.cell (p := ⟨X, 0, none⟩) (HR2.out.2.2.2.2.2.2.2.2 X HR2.out.2.1)).trans d0
  have q1' := (hb2.cell (p := ⟨g, i * 3 + 1, none⟩) hg).trans q1
  have hfz : w4.frozen? ⟨g, i * 3 + 1, none⟩ = false := by
    obtain ⟨cur, hh⟩ := row_type (HR2.out.below hb2).2.2.1 rfl
    exact freeAt _ hh
  have HFIN := Lib.hid hfin
  clear hfin hown2 hg2 hat2 hb2 d0 q1 q0 q2 hL2
  cases bo
  · go_wp2
    go_ret
    rw [HOE.out]
    have h9 := HFIN.out.1
    rw [HGR.out, HO2.out] at h9
    exact ⟨rfl, F, ⟨_, _, h9⟩, HT2.out.trans HFIN.out.2, Spread.refl _ _⟩
  · go_wp2
    go_ret
    rw [HOE.out]
    have h9 := HFIN.out.1
    rw [HGR.out, HO2.out] at h9
    exact ⟨rfl, F, ⟨_, _, h9⟩, HT2.out.trans HFIN.out.2, Spread.refl _ _⟩
end Go.Proofs.Ytglfbigklnaegaa
