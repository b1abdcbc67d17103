/-
  What the law's do does to both disks: Append, Put, Sync, Remove, Rename.
-/
import Derived.Test.YtglfbigklnaegaaRefL
namespace Go.Proofs.Ytglfbigklnaegaa
open Go.RowKit Mem FM
set_option linter.unusedVariables false
set_option maxRecDepth 100000

set_option maxHeartbeats 8000000 in
theorem do_0 (B0 D X : Nat) (F G : Nat → Prop) (s : St) (a : ActD) (w : World) (h : Two B0 w F G D X s s) (ha : a.ok w B0) (ho : s.ops + 1 < 1099511627776) (hk : a.kind % 8 = 0) :
    Calls Try.prog 7 #[.pointer (some ⟨D, 0, none⟩), .pointer (some ⟨X, 0, none⟩), .agg #[.int .u8 a.kind, .string a.name, .string a.to, .slice a.A a.n a.c, .int .i64 a.num, .slice a.A' a.n' a.c']] w (DoneBoth B0 D X (appended s a.name a.l).2 w) := by
  have hB := TwoB.new h ha
  have HBW := Lib.hid ((Below.refl B0 w).alloc h.2.2.2.2.2 (.cells #[.int .u8 a.kind, .string a.name, .string a.to, .slice a.A a.n a.c, .int .i64 a.num, .slice a.A' a.n' a.c'] 35))
  have hmod : (a.kind : Int).tmod 8 = 0 := by rw [Int.tmod_eq_emod_of_nonneg (by omega)]; omega
  obtain ⟨c0, c1, c2, c3, c4, c5⟩ := hB.cells
  have hsz := ha.2.1
  have hsz2 := ha.2.2.1
  have HA := Lib.hid ha
  obtain ⟨x, hx⟩ : ∃ x, (appended s a.name a.l).1 = x := ⟨_, rfl⟩
  obtain ⟨s', hs'⟩ : ∃ s', (appended s a.name a.l).2 = s' := ⟨_, rfl⟩
  have HC1 := Lib.hid (fun (W : World) (h : TwoB B0 w.heap.size a W F G D X s s) => show Calls Try.prog 14 #[.pointer (some ⟨D, 0, none⟩), .string a.name, .slice a.A a.n a.c] W (Did1 B0 w.heap.size a G D X x s' s W) by
    have := h.did (append_any D B0 F s a.name a.A a.n a.c a.l W h.1.1 hsz h.2.2.2.2.2.2.2.1 h.1.2.2.2.2.2 ho)
    rwa [hx, hs'] at this)
  have HC2 := Lib.hid (fun (W : World) (F : Nat → Prop) (h : TwoB B0 w.heap.size a W F G D X s' s) => show Calls Try.prog 17 #[.pointer (some ⟨X, 0, none⟩), .string a.name, .slice a.A a.n a.c, .bool false] W (Did2 B0 w.heap.size a F D X x s' s' W) by
    have := h.rdid (ref_append_any X G s a.name a.A a.n a.c a.l W h.1.2.1 hsz h.steady ho (fun k hk => h.1.1.foot hk))
    rwa [hx, hs'] at this)
  rw [hs']
  have HCL := Lib.hid (fun (W : World) (F G : Nat → Prop) (s t : St) (h : TwoB B0 w.heap.size a W F G D X s t) => (show W.cell? ⟨w.heap.size, 1, none⟩ = some (.string a.name) ∧ W.cell? ⟨w.heap.size, 3, none⟩ = some (.slice a.A a.n a.c) from ⟨(h.cells.2.1), (h.cells.2.2.2.1)⟩))
  have HB := Lib.hid hB
  have HCW := Lib.hid (HCL.out _ _ _ _ _ hB)
  clear hx hs' h ha hB hsz hsz2 HA c1 c2 c3 c4 c5 hk
  obtain ⟨kd, hkd⟩ : ∃ kd : Int, (a.kind : Int) = kd := ⟨_, rfl⟩
  obtain ⟨nm, hnm⟩ : ∃ nm, a.name = nm := ⟨_, rfl⟩
  obtain ⟨to, hto⟩ : ∃ to, a.to = to := ⟨_, rfl⟩
  obtain ⟨A, hA⟩ : ∃ A, a.A = A := ⟨_, rfl⟩
  obtain ⟨n, hn⟩ : ∃ n, a.n = n := ⟨_, rfl⟩
  obtain ⟨c, hc⟩ : ∃ c, a.c = c := ⟨_, rfl⟩
  rw [hkd, hnm, hto, hA, hn, hc] at HB HBW ⊢
  simp only [hnm, hto, hA, hn, hc] at HC1 HC2 HCL HCW
  rw [hkd] at hmod c0 HCW
  rw [hnm, hto, hA, hn, hc] at c0
  clear hkd hnm hto hA hn hc
  go_enter Try.func7, Try.ntmps7
  go_wp2_with fail
  go_region_held3 (fun W => W.cell? ⟨w.heap.size, 1, none⟩ = some (.string nm) ∧ W.cell? ⟨w.heap.size, 3, none⟩ = some (.slice A n c))
    (first | exact hHeld | exact HCW.out | exact hc2 | exact hc3 | fail)
    (first
      | (go_at_call 14; refine (HC1.out _ HB.out.drew).mono ?_; rintro e w2 ⟨rfl, F2, h2, hb2⟩; have hc2 := HCL.out _ _ _ _ _ h2)
      | (go_at_call 17; refine (HC2.out _ _ h2).mono ?_; rintro e w3 ⟨rfl, G3, h3, hb3⟩; have hc3 := HCL.out _ _ _ _ _ h3)
      | fail)
  all_goals
    have H3 := Lib.hid h3.1; have HB3 := Lib.hid (HBW.out.trans ((below_undrew hb2).trans hb3))
    clear h3 hb3 h2 hb2 hc2 hc3 HC1 HC2 HCL HB HBW HCW
    go_wp2
    go_ret
    exact ⟨rfl, F2, G3, H3.out, HB3.out⟩

set_option maxHeartbeats 8000000 in
theorem do_1 (B0 D X : Nat) (F G : Nat → Prop) (s : St) (a : ActD) (w : World) (h : Two B0 w F G D X s s) (ha : a.ok w B0) (ho : s.ops + 1 < 1099511627776) (hk : a.kind % 8 = 1) :
    Calls Try.prog 7 #[.pointer (some ⟨D, 0, none⟩), .pointer (some ⟨X, 0, none⟩), .agg #[.int .u8 a.kind, .string a.name, .string a.to, .slice a.A a.n a.c, .int .i64 a.num, .slice a.A' a.n' a.c']] w (DoneBoth B0 D X (putR s a.name a.l).2 w) := by
  have hB := TwoB.new h ha
  have HBW := Lib.hid ((Below.refl B0 w).alloc h.2.2.2.2.2 (.cells #[.int .u8 a.kind, .string a.name, .string a.to, .slice a.A a.n a.c, .int .i64 a.num, .slice a.A' a.n' a.c'] 35))
  have hmod : (a.kind : Int).tmod 8 = 1 := by rw [Int.tmod_eq_emod_of_nonneg (by omega)]; omega
  obtain ⟨c0, c1, c2, c3, c4, c5⟩ := hB.cells
  have hsz := ha.2.1
  have hsz2 := ha.2.2.1
  have HA := Lib.hid ha
  obtain ⟨x, hx⟩ : ∃ x, (putR s a.name a.l).1 = x := ⟨_, rfl⟩
  obtain ⟨s', hs'⟩ : ∃ s', (putR s a.name a.l).2 = s' := ⟨_, rfl⟩
  have HC1 := Lib.hid (fun (W : World) (h : TwoB B0 w.heap.size a W F G D X s s) => show Calls Try.prog 18 #[.pointer (some ⟨D, 0, none⟩), .string a.name, .slice a.A a.n a.c] W (Did1 B0 w.heap.size a G D X x s' s W) by
    have := h.did (put_any D B0 F s a.name a.A a.n a.c a.l W h.1.1 hsz h.2.2.2.2.2.2.2.1 h.1.2.2.2.2.2 ho)
    rwa [hx, hs'] at this)
  have HC2 := Lib.hid (fun (W : World) (F : Nat → Prop) (h : TwoB B0 w.heap.size a W F G D X s' s) => show Calls Try.prog 17 #[.pointer (some ⟨X, 0, none⟩), .string a.name, .slice a.A a.n a.c, .bool true] W (Did2 B0 w.heap.size a F D X x s' s' W) by
    have := h.rdid (ref_put_any X G s a.name a.A a.n a.c a.l W h.1.2.1 hsz h.steady ho (fun k hk => h.1.1.foot hk))
    rwa [hx, hs'] at this)
  rw [hs']
  have HCL := Lib.hid (fun (W : World) (F G : Nat → Prop) (s t : St) (h : TwoB B0 w.heap.size a W F G D X s t) => (show W.cell? ⟨w.heap.size, 1, none⟩ = some (.string a.name) ∧ W.cell? ⟨w.heap.size, 3, none⟩ = some (.slice a.A a.n a.c) from ⟨(h.cells.2.1), (h.cells.2.2.2.1)⟩))
  have HB := Lib.hid hB
  have HCW := Lib.hid (HCL.out _ _ _ _ _ hB)
  clear hx hs' h ha hB hsz hsz2 HA c1 c2 c3 c4 c5 hk
  obtain ⟨kd, hkd⟩ : ∃ kd : Int, (a.kind : Int) = kd := ⟨_, rfl⟩
  obtain ⟨nm, hnm⟩ : ∃ nm, a.name = nm := ⟨_, rfl⟩
  obtain ⟨to, hto⟩ : ∃ to, a.to = to := ⟨_, rfl⟩
  obtain ⟨A, hA⟩ : ∃ A, a.A = A := ⟨_, rfl⟩
  obtain ⟨n, hn⟩ : ∃ n, a.n = n := ⟨_, rfl⟩
  obtain ⟨c, hc⟩ : ∃ c, a.c = c := ⟨_, rfl⟩
  rw [hkd, hnm, hto, hA, hn, hc] at HB HBW ⊢
  simp only [hnm, hto, hA, hn, hc] at HC1 HC2 HCL HCW
  rw [hkd] at hmod c0 HCW
  rw [hnm, hto, hA, hn, hc] at c0
  clear hkd hnm hto hA hn hc
  go_enter Try.func7, Try.ntmps7
  go_wp2_with fail
  go_region_held3 (fun W => W.cell? ⟨w.heap.size, 1, none⟩ = some (.string nm) ∧ W.cell? ⟨w.heap.size, 3, none⟩ = some (.slice A n c))
    (first | exact hHeld | exact HCW.out | exact hc2 | exact hc3 | fail)
    (first
      | (go_at_call 18; refine (HC1.out _ HB.out.drew).mono ?_; rintro e w2 ⟨rfl, F2, h2, hb2⟩; have hc2 := HCL.out _ _ _ _ _ h2)
      | (go_at_call 17; refine (HC2.out _ _ h2).mono ?_; rintro e w3 ⟨rfl, G3, h3, hb3⟩; have hc3 := HCL.out _ _ _ _ _ h3)
      | fail)
  all_goals
    have H3 := Lib.hid h3.1; have HB3 := Lib.hid (HBW.out.trans ((below_undrew hb2).trans hb3))
    clear h3 hb3 h2 hb2 hc2 hc3 HC1 HC2 HCL HB HBW HCW
    go_wp2
    go_ret
    exact ⟨rfl, F2, G3, H3.out, HB3.out⟩

set_option maxHeartbeats 8000000 in
theorem do_2 (B0 D X : Nat) (F G : Nat → Prop) (s : St) (a : ActD) (w : World) (h : Two B0 w F G D X s s) (ha : a.ok w B0) (ho : s.ops + 1 < 1099511627776) (hk : a.kind % 8 = 2) :
    Calls Try.prog 7 #[.pointer (some ⟨D, 0, none⟩), .pointer (some ⟨X, 0, none⟩), .agg #[.int .u8 a.kind, .string a.name, .string a.to, .slice a.A a.n a.c, .int .i64 a.num, .slice a.A' a.n' a.c']] w (DoneBoth B0 D X (synced s a.name).2 w) := by
  have hB := TwoB.new h ha
  have HBW := Lib.hid ((Below.refl B0 w).alloc h.2.2.2.2.2 (.cells #[.int .u8 a.kind, .string a.name, .string a.to, .slice a.A a.n a.c, .int .i64 a.num, .slice a.A' a.n' a.c'] 35))
  have hmod : (a.kind : Int).tmod 8 = 2 := by rw [Int.tmod_eq_emod_of_nonneg (by omega)]; omega
  obtain ⟨c0, c1, c2, c3, c4, c5⟩ := hB.cells
  have hsz := ha.2.1
  have hsz2 := ha.2.2.1
  have HA := Lib.hid ha
  obtain ⟨x, hx⟩ : ∃ x, (synced s a.name).1 = x := ⟨_, rfl⟩
  obtain ⟨s', hs'⟩ : ∃ s', (synced s a.name).2 = s' := ⟨_, rfl⟩
  have HC1 := Lib.hid (fun (W : World) (h : TwoB B0 w.heap.size a W F G D X s s) => show Calls Try.prog 15 #[.pointer (some ⟨D, 0, none⟩), .string a.name] W (Did1 B0 w.heap.size a G D X x s' s W) by
    have := h.did (sync_any D F s a.name W h.1.1 hsz ho)
    rwa [hx, hs'] at this)
  have HC2 := Lib.hid (fun (W : World) (F : Nat → Prop) (h : TwoB B0 w.heap.size a W F G D X s' s) => show Calls Try.prog 19 #[.pointer (some ⟨X, 0, none⟩), .string a.name] W (Did2 B0 w.heap.size a F D X x s' s' W) by
    have := h.rdid (ref_sync_any X G s a.name W h.1.2.1 hsz ho)
    rwa [hx, hs'] at this)
  rw [hs']
  have HCL := Lib.hid (fun (W : World) (F G : Nat → Prop) (s t : St) (h : TwoB B0 w.heap.size a W F G D X s t) => (show W.cell? ⟨w.heap.size, 1, none⟩ = some (.string a.name) from h.cells.2.1))
  have HB := Lib.hid hB
  have HCW := Lib.hid (HCL.out _ _ _ _ _ hB)
  clear hx hs' h ha hB hsz hsz2 HA c1 c2 c3 c4 c5 hk
  obtain ⟨kd, hkd⟩ : ∃ kd : Int, (a.kind : Int) = kd := ⟨_, rfl⟩
  obtain ⟨nm, hnm⟩ : ∃ nm, a.name = nm := ⟨_, rfl⟩
  obtain ⟨to, hto⟩ : ∃ to, a.to = to := ⟨_, rfl⟩
  obtain ⟨A, hA⟩ : ∃ A, a.A = A := ⟨_, rfl⟩
  obtain ⟨n, hn⟩ : ∃ n, a.n = n := ⟨_, rfl⟩
  obtain ⟨c, hc⟩ : ∃ c, a.c = c := ⟨_, rfl⟩
  rw [hkd, hnm, hto, hA, hn, hc] at HB HBW ⊢
  simp only [hnm, hto, hA, hn, hc] at HC1 HC2 HCL HCW
  rw [hkd] at hmod c0 HCW
  rw [hnm, hto, hA, hn, hc] at c0
  clear hkd hnm hto hA hn hc
  go_enter Try.func7, Try.ntmps7
  go_wp2_with fail
  go_region_held3 (fun W => W.cell? ⟨w.heap.size, 1, none⟩ = some (.string nm))
    (first | exact hHeld | exact HCW.out | exact hc2 | exact hc3 | fail)
    (first
      | (go_at_call 15; refine (HC1.out _ HB.out.drew).mono ?_; rintro e w2 ⟨rfl, F2, h2, hb2⟩; have hc2 := HCL.out _ _ _ _ _ h2)
      | (go_at_call 19; refine (HC2.out _ _ h2).mono ?_; rintro e w3 ⟨rfl, G3, h3, hb3⟩; have hc3 := HCL.out _ _ _ _ _ h3)
      | fail)
  all_goals
    have H3 := Lib.hid h3.1; have HB3 := Lib.hid (HBW.out.trans ((below_undrew hb2).trans hb3))
    clear h3 hb3 h2 hb2 hc2 hc3 HC1 HC2 HCL HB HBW HCW
    go_wp2
    go_ret
    exact ⟨rfl, F2, G3, H3.out, HB3.out⟩

set_option maxHeartbeats 8000000 in
theorem do_3 (B0 D X : Nat) (F G : Nat → Prop) (s : St) (a : ActD) (w : World) (h : Two B0 w F G D X s s) (ha : a.ok w B0) (ho : s.ops + 1 < 1099511627776) (hk : a.kind % 8 = 3) :
    Calls Try.prog 7 #[.pointer (some ⟨D, 0, none⟩), .pointer (some ⟨X, 0, none⟩), .agg #[.int .u8 a.kind, .string a.name, .string a.to, .slice a.A a.n a.c, .int .i64 a.num, .slice a.A' a.n' a.c']] w (DoneBoth B0 D X (removed s a.name).2 w) := by
  have hB := TwoB.new h ha
  have HBW := Lib.hid ((Below.refl B0 w).alloc h.2.2.2.2.2 (.cells #[.int .u8 a.kind, .string a.name, .string a.to, .slice a.A a.n a.c, .int .i64 a.num, .slice a.A' a.n' a.c'] 35))
  have hmod : (a.kind : Int).tmod 8 = 3 := by rw [Int.tmod_eq_emod_of_nonneg (by omega)]; omega
  obtain ⟨c0, c1, c2, c3, c4, c5⟩ := hB.cells
  have hsz := ha.2.1
  have hsz2 := ha.2.2.1
  have HA := Lib.hid ha
  obtain ⟨x, hx⟩ : ∃ x, (removed s a.name).1 = x := ⟨_, rfl⟩
  obtain ⟨s', hs'⟩ : ∃ s', (removed s a.name).2 = s' := ⟨_, rfl⟩
  have HC1 := Lib.hid (fun (W : World) (h : TwoB B0 w.heap.size a W F G D X s s) => show Calls Try.prog 20 #[.pointer (some ⟨D, 0, none⟩), .string a.name] W (Did1 B0 w.heap.size a G D X x s' s W) by
    have := h.did (remove_any D F s a.name W h.1.1 hsz ho)
    rwa [hx, hs'] at this)
  have HC2 := Lib.hid (fun (W : World) (F : Nat → Prop) (h : TwoB B0 w.heap.size a W F G D X s' s) => show Calls Try.prog 21 #[.pointer (some ⟨X, 0, none⟩), .string a.name] W (Did2 B0 w.heap.size a F D X x s' s' W) by
    have := h.rdid (ref_remove_any X G s a.name W h.1.2.1 hsz ho)
    rwa [hx, hs'] at this)
  rw [hs']
  have HCL := Lib.hid (fun (W : World) (F G : Nat → Prop) (s t : St) (h : TwoB B0 w.heap.size a W F G D X s t) => (show W.cell? ⟨w.heap.size, 1, none⟩ = some (.string a.name) from h.cells.2.1))
  have HB := Lib.hid hB
  have HCW := Lib.hid (HCL.out _ _ _ _ _ hB)
  clear hx hs' h ha hB hsz hsz2 HA c1 c2 c3 c4 c5 hk
  obtain ⟨kd, hkd⟩ : ∃ kd : Int, (a.kind : Int) = kd := ⟨_, rfl⟩
  obtain ⟨nm, hnm⟩ : ∃ nm, a.name = nm := ⟨_, rfl⟩
  obtain ⟨to, hto⟩ : ∃ to, a.to = to := ⟨_, rfl⟩
  obtain ⟨A, hA⟩ : ∃ A, a.A = A := ⟨_, rfl⟩
  obtain ⟨n, hn⟩ : ∃ n, a.n = n := ⟨_, rfl⟩
  obtain ⟨c, hc⟩ : ∃ c, a.c = c := ⟨_, rfl⟩
  rw [hkd, hnm, hto, hA, hn, hc] at HB HBW ⊢
  simp only [hnm, hto, hA, hn, hc] at HC1 HC2 HCL HCW
  rw [hkd] at hmod c0 HCW
  rw [hnm, hto, hA, hn, hc] at c0
  clear hkd hnm hto hA hn hc
  go_enter Try.func7, Try.ntmps7
  go_wp2_with fail
  go_region_held3 (fun W => W.cell? ⟨w.heap.size, 1, none⟩ = some (.string nm))
    (first | exact hHeld | exact HCW.out | exact hc2 | exact hc3 | fail)
    (first
      | (go_at_call 20; refine (HC1.out _ HB.out.drew).mono ?_; rintro e w2 ⟨rfl, F2, h2, hb2⟩; have hc2 := HCL.out _ _ _ _ _ h2)
      | (go_at_call 21; refine (HC2.out _ _ h2).mono ?_; rintro e w3 ⟨rfl, G3, h3, hb3⟩; have hc3 := HCL.out _ _ _ _ _ h3)
      | fail)
  all_goals
    have H3 := Lib.hid h3.1; have HB3 := Lib.hid (HBW.out.trans ((below_undrew hb2).trans hb3))
    clear h3 hb3 h2 hb2 hc2 hc3 HC1 HC2 HCL HB HBW HCW
    go_wp2
    go_ret
    exact ⟨rfl, F2, G3, H3.out, HB3.out⟩

set_option maxHeartbeats 8000000 in
theorem do_4 (B0 D X : Nat) (F G : Nat → Prop) (s : St) (a : ActD) (w : World) (h : Two B0 w F G D X s s) (ha : a.ok w B0) (ho : s.ops + 1 < 1099511627776) (hk : a.kind % 8 = 4) :
    Calls Try.prog 7 #[.pointer (some ⟨D, 0, none⟩), .pointer (some ⟨X, 0, none⟩), .agg #[.int .u8 a.kind, .string a.name, .string a.to, .slice a.A a.n a.c, .int .i64 a.num, .slice a.A' a.n' a.c']] w (DoneBoth B0 D X (renamed s a.name a.to).2 w) := by
  have hB := TwoB.new h ha
  have HBW := Lib.hid ((Below.refl B0 w).alloc h.2.2.2.2.2 (.cells #[.int .u8 a.kind, .string a.name, .string a.to, .slice a.A a.n a.c, .int .i64 a.num, .slice a.A' a.n' a.c'] 35))
  have hmod : (a.kind : Int).tmod 8 = 4 := by rw [Int.tmod_eq_emod_of_nonneg (by omega)]; omega
  obtain ⟨c0, c1, c2, c3, c4, c5⟩ := hB.cells
  have hsz := ha.2.1
  have hsz2 := ha.2.2.1
  have HA := Lib.hid ha
  obtain ⟨x, hx⟩ : ∃ x, (renamed s a.name a.to).1 = x := ⟨_, rfl⟩
  obtain ⟨s', hs'⟩ : ∃ s', (renamed s a.name a.to).2 = s' := ⟨_, rfl⟩
  have HC1 := Lib.hid (fun (W : World) (h : TwoB B0 w.heap.size a W F G D X s s) => show Calls Try.prog 22 #[.pointer (some ⟨D, 0, none⟩), .string a.name, .string a.to] W (Did1 B0 w.heap.size a G D X x s' s W) by
    have := h.did (rename_any D F s a.name a.to W h.1.1 hsz hsz2 ho)
    rwa [hx, hs'] at this)
  have HC2 := Lib.hid (fun (W : World) (F : Nat → Prop) (h : TwoB B0 w.heap.size a W F G D X s' s) => show Calls Try.prog 23 #[.pointer (some ⟨X, 0, none⟩), .string a.name, .string a.to] W (Did2 B0 w.heap.size a F D X x s' s' W) by
    have := h.rdid (ref_rename_any X G s a.name a.to W h.1.2.1 hsz hsz2 ho)
    rwa [hx, hs'] at this)
  rw [hs']
  have HCL := Lib.hid (fun (W : World) (F G : Nat → Prop) (s t : St) (h : TwoB B0 w.heap.size a W F G D X s t) => (show W.cell? ⟨w.heap.size, 1, none⟩ = some (.string a.name) ∧ W.cell? ⟨w.heap.size, 2, none⟩ = some (.string a.to) from ⟨(h.cells.2.1), (h.cells.2.2.1)⟩))
  have HB := Lib.hid hB
  have HCW := Lib.hid (HCL.out _ _ _ _ _ hB)
  clear hx hs' h ha hB hsz hsz2 HA c1 c2 c3 c4 c5 hk
  obtain ⟨kd, hkd⟩ : ∃ kd : Int, (a.kind : Int) = kd := ⟨_, rfl⟩
  obtain ⟨nm, hnm⟩ : ∃ nm, a.name = nm := ⟨_, rfl⟩
  obtain ⟨to, hto⟩ : ∃ to, a.to = to := ⟨_, rfl⟩
  obtain ⟨A, hA⟩ : ∃ A, a.A = A := ⟨_, rfl⟩
  obtain ⟨n, hn⟩ : ∃ n, a.n = n := ⟨_, rfl⟩
  obtain ⟨c, hc⟩ : ∃ c, a.c = c := ⟨_, rfl⟩
  rw [hkd, hnm, hto, hA, hn, hc] at HB HBW ⊢
  simp only [hnm, hto, hA, hn, hc] at HC1 HC2 HCL HCW
  rw [hkd] at hmod c0 HCW
  rw [hnm, hto, hA, hn, hc] at c0
  clear hkd hnm hto hA hn hc
  go_enter Try.func7, Try.ntmps7
  go_wp2_with fail
  go_region_held3 (fun W => W.cell? ⟨w.heap.size, 1, none⟩ = some (.string nm) ∧ W.cell? ⟨w.heap.size, 2, none⟩ = some (.string to))
    (first | exact hHeld | exact HCW.out | exact hc2 | exact hc3 | fail)
    (first
      | (go_at_call 22; refine (HC1.out _ HB.out.drew).mono ?_; rintro e w2 ⟨rfl, F2, h2, hb2⟩; have hc2 := HCL.out _ _ _ _ _ h2)
      | (go_at_call 23; refine (HC2.out _ _ h2).mono ?_; rintro e w3 ⟨rfl, G3, h3, hb3⟩; have hc3 := HCL.out _ _ _ _ _ h3)
      | fail)
  all_goals
    have H3 := Lib.hid h3.1; have HB3 := Lib.hid (HBW.out.trans ((below_undrew hb2).trans hb3))
    clear h3 hb3 h2 hb2 hc2 hc3 HC1 HC2 HCL HB HBW HCW
    go_wp2
    go_ret
    exact ⟨rfl, F2, G3, H3.out, HB3.out⟩

end Go.Proofs.Ytglfbigklnaegaa
