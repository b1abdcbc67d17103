/-
  What Restart does, by contract.
-/
import Derived.Test.YtbhginnfkmajgaaDiskI
import Derived.Deep.RegionWith
namespace Go.Proofs.Ytbhginnfkmajgaa
open Go.RowKit Mem FM Go.Maps Go.Sort Go.Shelf

def lostF (k : Int) (f : File Unit) : File Unit := ⟨f.name, f.data.take (left f.data.length f.sure k), left f.data.length f.sure k, ()⟩
def restartFs (ks : List Int) (fs : List (File Unit)) : List (File Unit) := fs.mapIdx fun j f => lostF (ks[j]?.getD 0) f
def mid (ks : List Int) (fs : List (File Unit)) (i : Nat) : List (File Unit) := restartFs ks (fs.take i) ++ fs.drop i
def St.with_ (s : St) (fs : List (File Unit)) : St := ⟨s.room, fs, s.ops, s.fuse, s.off⟩
def restarted (s : St) (ks : List Int) : St := ⟨s.room, restartFs ks s.files, s.ops, 0, false⟩

theorem mid_zero (ks : List Int) (fs : List (File Unit)) : mid ks fs 0 = fs := by simp [mid, restartFs]
theorem mid_end (ks : List Int) (fs : List (File Unit)) {i : Nat} (h : fs.length ≤ i) : mid ks fs i = restartFs ks fs := by
  simp [mid, List.take_of_length_le h, List.drop_eq_nil_of_le h]
theorem mid_at (ks : List Int) {fs : List (File Unit)} {i : Nat} (h : i < fs.length) : mid ks fs i = restartFs ks (fs.take i) ++ fs[i] :: fs.drop (i + 1) := by
  unfold mid; rw [List.drop_eq_getElem_cons h]
theorem mid_succ (ks : List Int) {fs : List (File Unit)} {i : Nat} (h : i < fs.length) : mid ks fs (i + 1) = restartFs ks (fs.take i) ++ lostF (ks[i]?.getD 0) fs[i] :: fs.drop (i + 1) := by
  unfold mid
  rw [List.take_succ_eq_append_getElem h]
  unfold restartFs
  rw [List.mapIdx_concat]
  simp [List.length_take, Nat.min_eq_left (Nat.le_of_lt h)]
theorem set_at {a r : List (File Unit)} {f f' : File Unit} (h : Rise (a ++ f :: r)) : set f.name (fun _ => f') (a ++ f :: r) = a ++ f' :: r := by
  obtain ⟨h1, h2, h3⟩ := List.pairwise_append.1 h
  obtain ⟨h4, h5⟩ := List.pairwise_cons.1 h2
  have hset : ∀ l : List (File Unit), (∀ g ∈ l, g.name ≠ f.name) → set f.name (fun _ => f') l = l := fun l hl =>
    (List.map_congr_left fun g hg => if_neg (hl g hg)).trans (List.map_id l)
  have e1 : set f.name (fun _ => f') (a ++ f :: r) = set f.name (fun _ => f') a ++ set f.name (fun _ => f') (f :: r) := List.map_append
  have e2 : set f.name (fun _ => f') (f :: r) = f' :: set f.name (fun _ => f') r := by unfold FM.set; rw [List.map_cons, if_pos rfl]
  rw [e1, e2, hset a (fun g hg e => by have := h3 g hg f (by simp); rw [e] at this; exact FM.lt_irrefl _ this), hset r (fun g hg e => by have := h4 g hg; rw [e] at this; exact FM.lt_irrefl _ this)]
theorem DiskAt.rise {w : World} {F : Nat → Prop} {D : Nat} {s : St} (h : DiskAt w F D s) : Rise s.files := by
  obtain ⟨b, nn, cs, _, _, hfs, _, hcs, _⟩ := h
  rw [← hcs]
  unfold bare
  exact List.pairwise_map.2 hfs.rise

theorem ownsRow_read {w : World} {base n : Nat} {e : TypeId} {v : Value} {xs : List Value} (h : w.ownsRow base e 1 v n xs) :
    ∃ A c, v = .slice A n c ∧ n ≤ c ∧ c ≤ 9223372036854775807 ∧ (0 < n → ∃ b, A = some ⟨b, 0, none⟩ ∧ base ≤ b ∧ b < w.heap.size ∧ ∀ j, j < n → w.cell? ⟨b, j, none⟩ = xs[j]?) := by
  have hx := h
  rcases h.2 with ⟨rfl, h0⟩ | ⟨g, cap, cur, rfl, hg, hh, hnc, hcm, hsz, htk⟩
  · exact ⟨none, 0, by rw [h0], by omega, by omega, fun hp => by omega⟩
  · refine ⟨_, cap, rfl, hnc, by simpa only [maxLen] using hcm, fun _ => ⟨g, rfl, hg, heapLt hh, fun j hj => ?_⟩⟩
    rw [cellAt j hh, ← htk, List.getElem?_take, if_pos (by omega)]
    simp

/-- one file has lost what it loses -/
theorem FilesAt.lost {w w' : World} {F : Nat → Prop} {b nn : Nat} {cs : List (File Spot)} {cf : File Spot} {k : Int} {A : Option Addr} {c : Nat}
    (hfs : FilesAt w F b nn cs) (hcf : find cf.name cs = some cf) (hv : cf.x.v = .slice A cf.data.length c)
    (hh : w'.heap[cf.x.g]? = some (.cells #[.slice A (left cf.data.length cf.sure k) c, .int .i64 (left cf.data.length cf.sure k : Nat)] 67 (0, 0))) (ht : Turned (· = cf.x.g) w w') :
    FilesAt w' F b nn (set cf.name (fun _ => ⟨cf.name, cf.data.take (left cf.data.length cf.sure k), left cf.data.length cf.sure k, ⟨cf.x.g, .slice A (left cf.data.length cf.sure k) c⟩⟩) cs) := by
  have hat := hfs.mem hcf
  obtain ⟨g1, g2, g3, g4, g5, g6, g7⟩ := hat
  obtain ⟨l1, l2⟩ := left_le (keep := k) g5
  have hob : ∀ m : Nat, (Value.slice A m c).ownBlock = cf.x.v.ownBlock := fun m => by rw [hv]; cases A <;> rfl
  refine hfs.change hcf rfl rfl ⟨hh, g2, ?_, fun k hk => g4 k (by rw [← hob]; exact hk), by simp; omega, by simp; omega, g7⟩ (ht.more fun k _ e => .inl e) (fun _ h => h) (fun k hk => .inl (by rw [← hob]; exact hk))
  have h3 := g3.turned ht (fun k hk e => own_ne_file (hfs.mem hcf) g3 (by rw [hk, e]))
  rw [hv] at h3
  exact h3.cut l2

set_option maxRecDepth 100000 in
set_option maxHeartbeats 2000000 in
theorem restart_gen (D B : Nat) (F : Nat → Prop) (s : St) (A : Option Addr) (n c : Nat) (ks : List Int) (w : World) (h : DiskAt w F D s) (hr : RdV w B A n c (ks.map (Value.int .i64))) (hB : B ≤ w.heap.size) (hfar : 0 < n → ∀ a, A = some a → ¬ F a.block)
    (hks : ∀ k ∈ ks, -9223372036854775808 ≤ k ∧ k ≤ 9223372036854775807) :
    Calls Try.prog 12 #[.pointer (some ⟨D, 0, none⟩), .slice A n c] w (Did F D 0 (restarted s ks) w) := by
  have HNM := Lib.hid (names_any D F s w h)
  have hnc := hr.2.1
  have hcm : c ≤ 9223372036854775807 := hr.2.2.1
  have HN := Lib.hid hr.1
  have HD0 := Lib.hid h
  have HRISE := Lib.hid h.rise
  have HFL := Lib.hid (show ∀ k, F k → k < w.heap.size by obtain ⟨_, _, _, _, _, _, _, _, _, _, _, _, h⟩ := h; exact h)
  have HFD := Lib.hid (show F D by obtain ⟨_, _, _, _, h, _⟩ := h; exact h)
  clear h
  go_enter Try.func12, Try.ntmps12
  go_wp2_with fail
  refine HNM.out.mono ?_
  rintro e w1 ⟨v, rfl, hrow, hb1⟩
  obtain ⟨Av, cv, rfl, hcv, hcvm, hcells⟩ := ownsRow_read hrow
  have HD1 := Lib.hid (HD0.out.far (G := fun k => w.heap.size ≤ k) ⟨hb1.os, hb1.tape, hb1.output, hb1.size, fun k hk _ => hb1.block k hk⟩ (fun k hk h => by have := HFL.out k hk; omega))
  have HT1 := Lib.hid (show Turned F w w1 from ⟨hb1.os, hb1.tape, hb1.output, hb1.size, fun k hk _ => hb1.block k hk⟩)
  have HC := Lib.hid hcells
  have HRK := Lib.hid hr
  clear hrow hb1 hcells HNM hr
  generalize hNN : s.files.length = N at *
  have HNN := Lib.hid hNN
  clear hNN
  go_wp2_with fail
  go_loopw [13] (fun p wr => ∃ i : Nat, p = .int .i64 i ∧ i ≤ N ∧ Hid (DiskAt wr F D (s.with_ (mid ks s.files i))) ∧ Hid (Turned F w1 wr)) (fun p _ => N - (intOf p).toNat)
  case atStart => exact ⟨0, rfl, Nat.zero_le _, Lib.hid (by rw [mid_zero]; exact HD1.out), Lib.hid (Turned.refl _ _)⟩
  case round =>
    obtain ⟨i, rfl, hi, HDI, HTI⟩ := hrel
    by_cases hlt : i < N
    · have hlt' : i < s.files.length := by rw [HNN.out]; exact hlt
      obtain ⟨vb, hAv, hvb1, hvb2, hvc⟩ := HC.out (by omega)
      subst hAv
      have hcell : wr.cell? ⟨vb, i, none⟩ = some (encStr (s.files[i]'hlt').name) := by
        rw [HTI.out.cell (p := ⟨vb, i, none⟩) hvb2 (fun hF => by have := HFL.out _ hF; simp only at this; omega), hvc i hlt]
        simp [names, hlt']
      have HR2 := Lib.hid HDI.out.rise
      obtain ⟨b, nn, cs, hdb, hFD', hfs, hnn, hcs, hu, hroom, hfuse, hops0, hFlt⟩ := HDI.out
      have hff : find (s.files[i]'hlt').name (mid ks s.files i) = some (s.files[i]'hlt') := find_of_mem HR2.out (by show _ ∈ mid ks s.files i; rw [mid_at ks hlt']; exact List.mem_append_right _ List.mem_cons_self)
      have HSET := Lib.hid (show set (s.files[i]'hlt').name (fun _ => lostF (ks[i]?.getD 0) (s.files[i]'hlt')) (mid ks s.files i) = mid ks s.files (i + 1) by
        have := HR2.out
        simp only [St.with_] at this
        rw [mid_at ks hlt'] at this ⊢
        rw [set_at this, mid_succ ks hlt'])
      have hcs' : bare cs = mid ks s.files i := hcs
      rw [← hcs', bare_find] at hff
      generalize (s.files[i]'hlt') = f at *
      cases hcf : find f.name cs with
      | none => rw [hcf] at hff; cases hff
      | some cf =>
        rw [hcf] at hff
        injection hff with hff
        have hnm : cf.name = f.name := by rw [← hff]; rfl
        have hnl : f.name.length ≤ 32 := by
          have := (hfs.mem hcf).2.2.2.2.2.2
          rw [hnm] at this; exact this
        have hlook := (show FilesAt wr.drew F b nn cs from hfs).look ⟨f.name.toArray⟩ (by show f.name.toArray.size ≤ _; simp; omega)
        simp only [hcf] at hlook
        obtain ⟨g1, g2, g3, g4, g5, g6, g7⟩ := hfs.mem hcf
        obtain ⟨A1, c1, hv1, hrd1⟩ := g3.open_
        have hc1 := hrd1.cap
        have hc1m := hrd1.max
        rw [hv1] at g1
        have HG1 := Lib.hid g1
        have p1 := hdb.c1; have p2 := hdb.c2
        have hgD : cf.x.g ≠ D := db_ne_file hdb (hfs.mem hcf)
        have HC1 := Lib.hid (fun w2 (ht : Turned (· = cf.x.g) wr.drew w2) => (hdb.turned (Turned.undrew ht) (fun e => hgD e.symm)).c1)
        have HC2 := Lib.hid (fun w2 (ht : Turned (· = cf.x.g) wr.drew w2) => (hdb.turned (Turned.undrew ht) (fun e => hgD e.symm)).free 1)
        have HDB := Lib.hid hdb; have HFS := Lib.hid hfs; have HCF := Lib.hid hcf; have HCS := Lib.hid hcs; have HFF := Lib.hid hff; have HNMQ := Lib.hid hnm; have HV1 := Lib.hid hv1
        have hlu : cf.data.length ≤ used (s.with_ (mid ks s.files i)).files := by
          have := used_mem (find_name hcf).2
          rw [← bare_used, hcs] at this
          exact this
        have hrm' : (s.with_ (mid ks s.files i)).room ≤ 67108864 := hroom
        generalize hus : used (s.with_ (mid ks s.files i)).files = us at *
        have HUS := Lib.hid hus
        have hee : encStr f.name = .string ⟨f.name.toArray⟩ := rfl
        rw [hee] at hcell
        generalize hkm : ks[i]?.getD 0 = km at *
        have hkb : -9223372036854775808 ≤ km ∧ km ≤ 9223372036854775807 := by
          rw [← hkm]
          cases hx : ks[i]? with
          | none => simp
          | some k => exact hks k (List.mem_of_getElem? hx)
        obtain ⟨hk1, hk2⟩ := hkb
        obtain ⟨l1, l2⟩ := left_le (n := cf.data.length) (keep := km) g5
        have HKM := Lib.hid hkm
        have hw9 : IntKind.i64.wrap ((us : Int) - ((cf.data.length - left cf.data.length cf.sure km : Nat) : Int)) = ((us - (cf.data.length - left cf.data.length cf.sure km) : Nat) : Int) := by
          rw [IntWalk.i64_in _ (by omega)]; omega
        have HEND := Lib.hid (show ∀ w2 : World, w2.heap[cf.x.g]? = some (.cells #[.slice A1 (left cf.data.length cf.sure km) c1, .int .i64 ((left cf.data.length cf.sure km : Nat) : Int)] 67 (0, 0)) → Turned (· = cf.x.g) wr.drew w2 →
            ∃ i' : Nat, Value.int .i64 ((i : Int) + 1) = .int .i64 (i' : Int) ∧ i' ≤ N ∧ Hid (DiskAt (w2.setCell ⟨D, 1, none⟩ (.int .i64 ((us - (cf.data.length - left cf.data.length cf.sure km) : Nat) : Int))) F D (s.with_ (mid ks s.files i'))) ∧
              Hid (Turned F w1 (w2.setCell ⟨D, 1, none⟩ (.int .i64 ((us - (cf.data.length - left cf.data.length cf.sure km) : Nat) : Int)))) by
          intro w2 hh2 ht2
          have ht2 := Turned.undrew ht2
          have hcfn : find cf.name cs = some cf := by rw [hnm]; exact hcf
          have hfs2 := hfs.lost (k := km) hcfn hv1 hh2 ht2
          have hdb2 := hdb.turned ht2 (fun e => hgD e.symm)
          have ht3 := (Turned.refl (· = D) w2).setCell (p := ⟨D, 1, none⟩) (.inl rfl) (.int .i64 ((us - (cf.data.length - left cf.data.length cf.sure km) : Nat) : Int))
          have hb : bare (set cf.name (fun _ => (⟨cf.name, cf.data.take (left cf.data.length cf.sure km), left cf.data.length cf.sure km, ⟨cf.x.g, .slice A1 (left cf.data.length cf.sure km) c1⟩⟩ : File Spot)) cs) = mid ks s.files (i + 1) := by
            rw [bare_set _ _ (fun _ => lostF km f) (fun _ => by rw [← hff]; rfl), hnm, hcs', HSET.out]
          have hus2 : used (mid ks s.files (i + 1)) = us - (cf.data.length - left cf.data.length cf.sure km) := by
            have := used_set (hh := fun _ => (⟨cf.name, cf.data.take (left cf.data.length cf.sure km), left cf.data.length cf.sure km, ⟨cf.x.g, .slice A1 (left cf.data.length cf.sure km) c1⟩⟩ : File Spot)) hfs.rise hcfn
            rw [← bare_used, hb, ← bare_used cs, hcs', show used (mid ks s.files i) = us from hus] at this
            simp only [List.length_take] at this
            omega
          have hdb3 := hdb2.s1 ((us - (cf.data.length - left cf.data.length cf.sure km) : Nat) : Int)
          refine ⟨i + 1, by simp, by omega, Lib.hid (DiskAt.mk' (s := s.with_ (mid ks s.files (i + 1))) hdb2 hfs2 ht3 ?_ hFD' hnn hb ?_ hrm' hfuse hops0 (fun k hk => Nat.lt_of_lt_of_le (hFlt k hk) ht2.size)), Lib.hid ?_⟩
          · show DB _ D _ ((used (mid ks s.files (i + 1)) : Nat) : Int) _ _ _ _
            rw [hus2]; exact hdb3
          · show used (mid ks s.files (i + 1)) ≤ s.room
            rw [hus2]
            have : us ≤ s.room := hu
            omega
          · exact (HTI.out.trans (ht2.more fun k _ e => by rw [e]; exact g2)).trans (ht3.more fun k _ e => by rw [e]; exact hFD'))
        clear hdb hfs hcf hcs hff hnm hv1 hrd1 g1 g3 g4 hnn hfuse hops0 hFlt hus hee hvc hcs' hroom hkm
        by_cases hin : i < n
        · obtain ⟨kb, koff, hA, hkB, hkc⟩ := HRK.out.2.2.2 (by omega)
          have hkcell : wr.cell? ⟨kb, koff + i, none⟩ = some (.int .i64 km) := by
            have e1 := HTI.out.cell (p := ⟨kb, koff + i, none⟩) (show kb < _ by have := HT1.out.size; omega) (hfar (by omega) _ hA : ¬ F (⟨kb, koff, none⟩ : Addr).block)
            have e2 := HT1.out.cell (p := ⟨kb, koff + i, none⟩) (show kb < _ by omega) (hfar (by omega) _ hA : ¬ F (⟨kb, koff, none⟩ : Addr).block)
            rw [e1, e2, hkc i hin]
            have := HN.out
            have hil : i < ks.length := by simp at this; omega
            rw [← HKM.out]
            simp [hil]
          subst hA
          clear hkc hfar HRK
          go_wp2_with fail
          go_region_with (go_at_call 28; refine (lose_any cf.x.g A1 cf.data.length c1 cf.sure km wr.drew hc1 hc1m g5 hk1 hk2 HG1.out).mono ?_; rintro e w2 ⟨rfl, hh2, ht2⟩; have q1 := HC1.out _ ht2; have q2 := HC2.out _ ht2; have HH2 := Lib.hid hh2; have HT2 := Lib.hid ht2; clear hh2 ht2)
          all_goals (go_wp2; go_roundw; (case rel => exact HEND.out w2 HH2.out HT2.out); (case measure => simp [intOf]; omega))
        · clear hfar HRK
          have hkm0 : km = 0 := by
            rw [← HKM.out]
            have := HN.out
            have hil : ks.length ≤ i := by simp at this; omega
            simp [hil]
          subst hkm0
          go_wp2_with fail
          go_region_with (go_at_call 28; refine (lose_any cf.x.g A1 cf.data.length c1 cf.sure 0 wr.drew hc1 hc1m g5 hk1 hk2 HG1.out).mono ?_; rintro e w2 ⟨rfl, hh2, ht2⟩; have q1 := HC1.out _ ht2; have q2 := HC2.out _ ht2; have HH2 := Lib.hid hh2; have HT2 := Lib.hid ht2; clear hh2 ht2)
          all_goals (go_wp2; go_roundw; (case rel => exact HEND.out w2 HH2.out HT2.out); (case measure => simp [intOf]; omega))
    · have hiN : i = N := by omega
      subst hiN
      have HM := Lib.hid (mid_end ks s.files (i := i) (by rw [HNN.out]; exact Nat.le_refl _))
      obtain ⟨b, nn, cs, hdb, hFD', hfs, hnn, hcs, hu, hroom, hfuse, hops0, hFlt⟩ := HDI.out
      have p4 := hdb.c4; have f4 := hdb.free 4
      have hdb1 := hdb.s4 0
      have p5 := hdb1.c5; have f5 := hdb1.free 5
      have HDB := Lib.hid hdb; have HDB2 := Lib.hid (hdb1.s5 false); have HFS := Lib.hid hfs; have HCS := Lib.hid hcs
      have HT3 := Lib.hid (((Turned.refl (· = D) wr).setCell (p := ⟨D, 4, none⟩) (.inl rfl) (.int .i64 0)).setCell (p := ⟨D, 5, none⟩) (.inl rfl) (.bool false))
      clear hdb hdb1 hfs hcs
      go_wp2
      go_ret
      have hcs' : bare cs = restartFs ks s.files := by rw [← HM.out]; exact HCS.out
      refine ⟨rfl, F, DiskAt.mk' (s := restarted s ks) HDB.out HFS.out HT3.out ?_ hFD' hnn hcs' ?_ hroom (Nat.zero_le _) hops0 hFlt, (HT1.out.trans HTI.out).trans (HT3.out.more fun k _ e => by rw [e]; exact hFD'), Spread.refl F w⟩
      · show DB _ D _ ((used (restartFs ks s.files) : Nat) : Int) _ _ _ _
        rw [← HM.out]; exact HDB2.out
      · show used (restartFs ks s.files) ≤ s.room
        rw [← HM.out]; exact hu
theorem restart_any (D B : Nat) (F : Nat → Prop) (s : St) (A : Option Addr) (n c : Nat) (ks : List Int) (w : World) (h : DiskAt w F D s) (hr : RdV w B A n c (ks.map (Value.int .i64))) (hB : B ≤ w.heap.size) (hfar : ∀ a, A = some a → ¬ F a.block)
    (hks : ∀ k ∈ ks, -9223372036854775808 ≤ k ∧ k ≤ 9223372036854775807) :
    Calls Try.prog 12 #[.pointer (some ⟨D, 0, none⟩), .slice A n c] w (Did F D 0 (restarted s ks) w) := restart_gen D B F s A n c ks w h hr hB (fun _ => hfar) hks
/-- with numbers that lie below the disk's own memory -/
theorem restart_low (D B : Nat) (F : Nat → Prop) (s : St) (A : Option Addr) (n c : Nat) (ks : List Int) (w : World) (h : DiskAt w F D s) (hr : RdV w B A n c (ks.map (Value.int .i64))) (hB : B ≤ w.heap.size) (hF : ∀ k, F k → B ≤ k)
    (hks : ∀ k ∈ ks, -9223372036854775808 ≤ k ∧ k ≤ 9223372036854775807) :
    Calls Try.prog 12 #[.pointer (some ⟨D, 0, none⟩), .slice A n c] w (Did F D 0 (restarted s ks) w) :=
  restart_gen D B F s A n c ks w h hr hB (fun h0 a ha hk => by
    obtain ⟨b, off, e1, hb, _⟩ := hr.2.2.2 h0
    rw [ha] at e1
    injection e1 with e1
    have hblk : a.block = b := by rw [e1]
    have := hF _ hk
    omega) hks
end Go.Proofs.Ytbhginnfkmajgaa
