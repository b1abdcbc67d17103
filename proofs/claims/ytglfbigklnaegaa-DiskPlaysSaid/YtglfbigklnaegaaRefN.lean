/-
  What the law's do does to both disks: Read, Arm, Restart; whole.
-/
import Derived.Test.YtglfbigklnaegaaRefM
namespace Go.Proofs.Ytglfbigklnaegaa
open Go.RowKit Mem FM
set_option linter.unusedVariables false
set_option maxRecDepth 100000

set_option maxHeartbeats 8000000 in
theorem do_5 (B0 D X : Nat) (F G : Nat → Prop) (s : St) (a : ActD) (w : World) (h : Two B0 w F G D X s s) (ha : a.ok w B0) (ho : s.ops + 1 < 1099511627776) (hk : a.kind % 8 = 5) :
    Calls Try.prog 7 #[.pointer (some ⟨D, 0, none⟩), .pointer (some ⟨X, 0, none⟩), .agg #[.int .u8 a.kind, .string a.name, .string a.to, .slice a.A a.n a.c, .int .i64 a.num, .slice a.A' a.n' a.c']] w (DoneBoth B0 D X s w) := by
  have hB := TwoB.new h ha
  have HBW := Lib.hid ((Below.refl B0 w).alloc h.2.2.2.2.2 (.cells #[.int .u8 a.kind, .string a.name, .string a.to, .slice a.A a.n a.c, .int .i64 a.num, .slice a.A' a.n' a.c'] 35))
  have hmod : (a.kind : Int).tmod 8 = 5 := by rw [Int.tmod_eq_emod_of_nonneg (by omega)]; omega
  obtain ⟨c0, c1, c2, c3, c4, c5⟩ := hB.cells
  have hsz := ha.2.1
  have hsz2 := ha.2.2.1
  have HA := Lib.hid ha
  have HC1 := Lib.hid (fun (W : World) (h : TwoB B0 w.heap.size a W F G D X s s) => show Calls Try.prog 11 #[.pointer (some ⟨D, 0, none⟩), .string a.name] W (ReadOf F D s (readR s a.name) W) from read_any D F s a.name W h.1.1 hsz)
  have HC2 := Lib.hid (fun (W : World) (h : TwoB B0 w.heap.size a W F G D X s s) => show Calls Try.prog 24 #[.pointer (some ⟨X, 0, none⟩), .string a.name] W (RReadOf F G (readR s a.name) W) from ref_read_any X G s a.name W h.1.2.1 hsz)
  have HB := Lib.hid hB
  have HCL := Lib.hid (fun (W : World) (h : TwoB B0 w.heap.size a W F G D X s s) => h.cells.2.1)
  obtain ⟨ll, hll⟩ : ∃ ll, (readR s a.name).1 = ll := ⟨_, rfl⟩
  obtain ⟨x, hx⟩ : ∃ x, (readR s a.name).2 = x := ⟨_, rfl⟩
  unfold ReadOf at HC1
  unfold RReadOf at HC2
  simp only [hll, hx] at HC1 HC2
  clear hll hx h ha hB hsz hsz2 HA c2 c3 c4 c5 hk
  obtain ⟨kd, hkd⟩ : ∃ kd : Int, (a.kind : Int) = kd := ⟨_, rfl⟩
  obtain ⟨nm, hnm⟩ : ∃ nm, a.name = nm := ⟨_, rfl⟩
  rw [hkd, hnm] at HB HBW ⊢
  rw [hkd, hnm] at c0 c1
  rw [hkd] at hmod
  simp only [hnm] at HC1 HC2 HCL
  clear hkd hnm
  go_enter Try.func7, Try.ntmps7
  go_wp2_with fail
  refine (HC1.out _ HB.out).mono ?_
  rintro e w2 ⟨v2, rfl, hO2, hb2, -⟩
  obtain ⟨A2, c2, rfl, hrd2⟩ := hO2.open_
  have h2 := HB.out.below hb2
  have HT2 := Lib.hid h2
  have d1 := HCL.out _ h2
  have HRD2 := Lib.hid hrd2
  have HB2 := Lib.hid (HBW.out.trans (hb2.mono HB.out.1.2.2.2.2.2))
  clear h2 hb2 hO2 hrd2 c0 c1 HC1 HB HBW
  go_wp2_with fail
  refine (HC2.out _ HT2.out).mono ?_
  rintro e w3 ⟨A3, c3, rfl, hst3, hb3⟩
  have v1 := run_str (P := Try.prog) (w := w3) w2.heap.size 32 9 5 Try.underlying32 Try.underlying5 Try.underlying9 A2 ll.length c2 ll (HRD2.out.below hb3)
  have v2 := run_str (P := Try.prog) (w := w3) w3.heap.size 32 9 5 Try.underlying32 Try.underlying5 Try.underlying9 A3 ll.length c3 ll hst3.rd
  have H3 := Lib.hid (HT2.out.below hb3).1
  have HB3 := Lib.hid (HB2.out.trans (hb3.mono HT2.out.1.2.2.2.2.2))
  obtain ⟨T, hT⟩ : ∃ T : ByteArray, (⟨ll.toArray⟩ : ByteArray) = T := ⟨_, rfl⟩
  obtain ⟨L, hL⟩ : ∃ L, ll.length = L := ⟨_, rfl⟩
  rw [hT, hL] at v1 v2
  rw [hL]
  clear hst3 hb3 hT hL HRD2 HT2 HB2 HC2 HCL d1
  go_wp2
  go_ret
  exact ⟨rfl, F, G, H3.out, HB3.out⟩

set_option maxHeartbeats 8000000 in
theorem do_6 (B0 D X : Nat) (F G : Nat → Prop) (s : St) (a : ActD) (w : World) (h : Two B0 w F G D X s s) (ha : a.ok w B0) (ho : s.ops + 1 < 1099511627776) (hk : a.kind % 8 = 6) :
    Calls Try.prog 7 #[.pointer (some ⟨D, 0, none⟩), .pointer (some ⟨X, 0, none⟩), .agg #[.int .u8 a.kind, .string a.name, .string a.to, .slice a.A a.n a.c, .int .i64 a.num, .slice a.A' a.n' a.c']] w (DoneBoth B0 D X (if a.num < 0 then s else ⟨s.room, s.files, s.ops, a.num.toNat, s.off⟩) w) := by
  have hB := TwoB.new h ha
  have HBW := Lib.hid ((Below.refl B0 w).alloc h.2.2.2.2.2 (.cells #[.int .u8 a.kind, .string a.name, .string a.to, .slice a.A a.n a.c, .int .i64 a.num, .slice a.A' a.n' a.c'] 35))
  have hmod : (a.kind : Int).tmod 8 = 6 := by rw [Int.tmod_eq_emod_of_nonneg (by omega)]; omega
  obtain ⟨c0, c1, c2, c3, c4, c5⟩ := hB.cells
  have hsz := ha.2.1
  have hsz2 := ha.2.2.1
  have HA := Lib.hid ha
  have hnb := ha.2.2.2.2.2.1
  have HB := Lib.hid hB
  have HCL := Lib.hid (fun (W : World) (F G : Nat → Prop) (s t : St) (h : TwoB B0 w.heap.size a W F G D X s t) => h.cells.2.2.2.2.1)
  by_cases hneg : a.num < 0
  · rw [if_pos hneg]
    have HC1 := Lib.hid (fun (W : World) => arm_neg D a.num W hneg)
    have HT := Lib.hid hB.1
    clear h ha hB hsz hsz2 HA c1 c2 c3 c5 hk
    obtain ⟨kd, hkd⟩ : ∃ kd : Int, (a.kind : Int) = kd := ⟨_, rfl⟩
    obtain ⟨z, hz⟩ : ∃ z, a.num = z := ⟨_, rfl⟩
    rw [hkd, hz] at HB HBW HT c0 c4 ⊢
    rw [hkd] at hmod
    rw [hz] at hneg hnb HC1
    clear hkd hz HCL
    go_enter Try.func7, Try.ntmps7
    go_wp2_with fail
    refine (HC1.out _).mono ?_
    rintro e w2 ⟨rfl, rfl⟩
    go_wp2
    go_ret
    exact ⟨rfl, F, G, HT.out, HBW.out⟩
  · rw [if_neg hneg]
    obtain ⟨z, hz⟩ : ∃ z : Nat, a.num = (z : Int) := ⟨a.num.toNat, by omega⟩
    rw [show a.num.toNat = z by omega]
    have HC1 := Lib.hid (fun (W : World) (h : TwoB B0 w.heap.size a W F G D X s s) => show Calls Try.prog 25 #[.pointer (some ⟨D, 0, none⟩), .int .i64 (z : Int)] W (Did1 B0 w.heap.size a G D X 0 ⟨s.room, s.files, s.ops, z, s.off⟩ s W) from h.did (arm_any D F s z W h.1.1 (by omega)))
    have hzb : (z : Int) ≤ 9223372036854775807 := by omega
    clear h ha hB hsz hsz2 HA c1 c2 c3 c5 hk hneg
    obtain ⟨kd, hkd⟩ : ∃ kd : Int, (a.kind : Int) = kd := ⟨_, rfl⟩
    rw [hkd, hz] at HB HBW c0 c4 ⊢
    simp only [hz] at HCL
    rw [hkd] at hmod
    clear hkd hz hnb
    go_enter Try.func7, Try.ntmps7
    go_wp2_with fail
    refine (HC1.out _ HB.out).mono ?_
    rintro e w2 ⟨rfl, F2, h2, hb2⟩
    have d4 := HCL.out _ _ _ _ _ h2
    obtain ⟨v, fs, hR⟩ := h2.1.2.1
    have e2 := hR.1.c2
    have f2 : w2.frozen? ⟨X, 2, none⟩ = false := freeAt 2 hR.1
    have ht : Turned (· = X) w2 (w2.setCell ⟨X, 2, none⟩ (.int .i64 (z : Int))) := setX (Turned.refl _ w2) _ _
    have hR2 : RefF F2 (w2.setCell ⟨X, 2, none⟩ (.int .i64 (z : Int))) G X v fs ⟨s.room, s.files, s.ops, z, s.off⟩ := hR.reset ht (show _ = _ from (heapSet 2 _ hR.1).trans rfl) rfl rfl (by show z ≤ _; omega) (Nat.le_refl _) (by show s.ops < _; omega)
    have h3 := h2.two (t' := ⟨s.room, s.files, s.ops, z, s.off⟩) (G' := G) ⟨v, fs, hR2⟩ (ht.more (fun k _ hk => by subst hk; exact hR.2.1)) (Spread.refl _ _)
    have H3 := Lib.hid h3.1.1; have HB3 := Lib.hid (HBW.out.trans (hb2.trans h3.2))
    have hfu := hR.2.2.2.2.2.2.2.1.2.2.1
    clear h3 hR2 ht hR h2 hb2 HC1 HCL HB HBW c0 c4
    go_wp2
    go_ret
    exact ⟨rfl, F2, G, H3.out, HB3.out⟩

set_option maxHeartbeats 8000000 in
theorem do_7 (B0 D X : Nat) (F G : Nat → Prop) (s : St) (a : ActD) (w : World) (h : Two B0 w F G D X s s) (ha : a.ok w B0) (ho : s.ops + 1 < 1099511627776) (hk : a.kind % 8 = 7) :
    Calls Try.prog 7 #[.pointer (some ⟨D, 0, none⟩), .pointer (some ⟨X, 0, none⟩), .agg #[.int .u8 a.kind, .string a.name, .string a.to, .slice a.A a.n a.c, .int .i64 a.num, .slice a.A' a.n' a.c']] w (DoneBoth B0 D X (restarted s a.ks) w) := by
  have hB := TwoB.new h ha
  have HBW := Lib.hid ((Below.refl B0 w).alloc h.2.2.2.2.2 (.cells #[.int .u8 a.kind, .string a.name, .string a.to, .slice a.A a.n a.c, .int .i64 a.num, .slice a.A' a.n' a.c'] 35))
  have hmod : (a.kind : Int).tmod 8 = 7 := by rw [Int.tmod_eq_emod_of_nonneg (by omega)]; omega
  obtain ⟨c0, c1, c2, c3, c4, c5⟩ := hB.cells
  have hsz := ha.2.1
  have hsz2 := ha.2.2.1
  have HA := Lib.hid ha
  have hksb := ha.2.2.2.2.2.2.2
  have HC2 := Lib.hid (fun (W : World) (h : TwoB B0 w.heap.size a W F G D X s s) => show Calls Try.prog 26 #[.pointer (some ⟨X, 0, none⟩), .slice a.A' a.n' a.c'] W (fun e w' => e = .returned (.tuple #[]) ∧ TwoB B0 w.heap.size a w' F G D X s (restarted s a.ks) ∧ Below B0 W w') from
    (ref_restart_any X G s a.A' a.n' a.c' a.ks W h.1.2.1 h.keeps hksb).mono (fun e w2 ⟨e1, h1, h2⟩ => ⟨e1, h.two h1 h2 (Spread.refl _ _)⟩))
  have HC1 := Lib.hid (fun (W : World) (t : St) (h : TwoB B0 w.heap.size a W F G D X s t) => show Calls Try.prog 16 #[.pointer (some ⟨D, 0, none⟩), .slice a.A' a.n' a.c'] W (Did1 B0 w.heap.size a G D X 0 (restarted s a.ks) t W) from
    h.did (restart_low D B0 F s a.A' a.n' a.c' a.ks W h.1.1 h.2.2.2.2.2.2.2.2.2.2.1 h.1.2.2.2.2.2 h.1.2.2.2.1 hksb))
  have HB := Lib.hid hB
  have HCL := Lib.hid (fun (W : World) (F G : Nat → Prop) (s t : St) (h : TwoB B0 w.heap.size a W F G D X s t) => h.cells.2.2.2.2.2)
  obtain ⟨s', hs'⟩ : ∃ s', restarted s a.ks = s' := ⟨_, rfl⟩
  rw [hs'] at HC1 HC2 ⊢
  clear hs' h ha hB hsz hsz2 HA c1 c2 c3 c4 hk hksb
  obtain ⟨kd, hkd⟩ : ∃ kd : Int, (a.kind : Int) = kd := ⟨_, rfl⟩
  obtain ⟨A, hA⟩ : ∃ A, a.A' = A := ⟨_, rfl⟩
  obtain ⟨n, hn⟩ : ∃ n, a.n' = n := ⟨_, rfl⟩
  obtain ⟨c, hc⟩ : ∃ c, a.c' = c := ⟨_, rfl⟩
  rw [hkd, hA, hn, hc] at HB HBW c0 ⊢
  rw [hkd] at c5
  rw [hA, hn, hc] at c5
  rw [hkd] at hmod
  simp only [hA, hn, hc] at HCL HC1 HC2
  clear hkd hA hn hc
  go_enter Try.func7, Try.ntmps7
  go_wp2_with fail
  refine (HC2.out _ HB.out).mono ?_
  rintro e w2 ⟨rfl, h2, hb2⟩
  have d5 := HCL.out _ _ _ _ _ h2
  have HT2 := Lib.hid h2; have HB2 := Lib.hid (HBW.out.trans hb2)
  clear h2 hb2 HB HBW c0 c5 HC2
  go_wp2_with fail
  refine (HC1.out _ _ HT2.out).mono ?_
  rintro e w3 ⟨rfl, F3, h3, hb3⟩
  have H3 := Lib.hid h3.1; have HB3 := Lib.hid (HB2.out.trans hb3)
  clear h3 hb3 HC1 HCL HT2 HB2
  go_wp2
  go_ret
  exact ⟨rfl, F3, G, H3.out, HB3.out⟩

theorem do_any (B0 D X : Nat) (F G : Nat → Prop) (s : St) (a : ActD) (w : World) (h : Two B0 w F G D X s s) (ha : a.ok w B0) (ho : s.ops + 1 < 1099511627776) :
    Calls Try.prog 7 #[.pointer (some ⟨D, 0, none⟩), .pointer (some ⟨X, 0, none⟩), .agg #[.int .u8 a.kind, .string a.name, .string a.to, .slice a.A a.n a.c, .int .i64 a.num, .slice a.A' a.n' a.c']] w (DoneBoth B0 D X (stepD s a) w) := by
  have hk : a.kind % 8 = 0 ∨ a.kind % 8 = 1 ∨ a.kind % 8 = 2 ∨ a.kind % 8 = 3 ∨ a.kind % 8 = 4 ∨ a.kind % 8 = 5 ∨ a.kind % 8 = 6 ∨ a.kind % 8 = 7 := by omega
  rcases hk with hk | hk | hk | hk | hk | hk | hk | hk
  · have e : stepD s a = (appended s a.name a.l).2 := by unfold stepD; rw [hk]; rfl
    rw [e]
    exact do_0 B0 D X F G s a w h ha ho hk
  · have e : stepD s a = (putR s a.name a.l).2 := by unfold stepD; rw [hk]; rfl
    rw [e]
    exact do_1 B0 D X F G s a w h ha ho hk
  · have e : stepD s a = (synced s a.name).2 := by unfold stepD; rw [hk]; rfl
    rw [e]
    exact do_2 B0 D X F G s a w h ha ho hk
  · have e : stepD s a = (removed s a.name).2 := by unfold stepD; rw [hk]; rfl
    rw [e]
    exact do_3 B0 D X F G s a w h ha ho hk
  · have e : stepD s a = (renamed s a.name a.to).2 := by unfold stepD; rw [hk]; rfl
    rw [e]
    exact do_4 B0 D X F G s a w h ha ho hk
  · have e : stepD s a = s := by unfold stepD; rw [hk]; rfl
    rw [e]
    exact do_5 B0 D X F G s a w h ha ho hk
  · have e : stepD s a = (if a.num < 0 then s else ⟨s.room, s.files, s.ops, a.num.toNat, s.off⟩) := by unfold stepD; rw [hk]; rfl
    rw [e]
    exact do_6 B0 D X F G s a w h ha ho hk
  · have e : stepD s a = restarted s a.ks := by unfold stepD; rw [hk]; rfl
    rw [e]
    exact do_7 B0 D X F G s a w h ha ho hk
end Go.Proofs.Ytglfbigklnaegaa
