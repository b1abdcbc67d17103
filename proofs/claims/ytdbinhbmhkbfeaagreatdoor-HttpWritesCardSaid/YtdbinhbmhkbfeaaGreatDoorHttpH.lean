/-
  What http.Read does, by a contract.
-/
import Derived.Test.YtdbinhbmhkbfeaaGreatDoorHttpG
import Derived.Test.YtdbinhbmhkbfeaaGreatDoorHttpK
namespace Go.Proofs.YtdbinhbmhkbfeaaGreatDoor.M
open Go
theorem hread_err {ls : List (List UInt8)} {st : Nat} (h : hread ls = .error st) : st = 400 ∨ st = 413 := by
  unfold hread at h
  split at h
  · injection h with h; exact .inl h.symm
  · split at h
    · injection h with h; exact .inl h.symm
    · split at h
      · injection h with h; exact .inl h.symm
      · split at h
        · injection h with h; exact .inl h.symm
        · split at h
          · injection h with h; exact .inr h.symm
          · cases h
theorem read_no {p : List UInt8} {st : Nat} (h : heads p = .no st) : read p = (noRq, 0, st) := by unfold read; rw [h]
theorem read_err {p : List UInt8} {ls : List (List UInt8)} {b st : Nat} (h : heads p = .yes ls b) (h2 : hread ls = .error st) : read p = (noRq, 0, st) := by
  unfold read; rw [h]; simp only
  rw [readLines_eq p b (heads_yes h).1, h2]
theorem read_ok {p : List UInt8} {ls : List (List UInt8)} {b : Nat} {m pa : List UInt8} {hd : Hd} (h : heads p = .yes ls b) (h2 : hread ls = .ok (m, pa, hd)) :
    read p = if p.length < b + hd.length then (noRq, 0, 0) else (⟨m, pa, (p.drop b).take hd.length, hd.close⟩, b + hd.length, 0) := by
  unfold read; rw [h]; simp only
  rw [readLines_eq p b (heads_yes h).1, h2]
end Go.Proofs.YtdbinhbmhkbfeaaGreatDoor.M
namespace Go.Proofs.YtdbinhbmhkbfeaaGreatDoor
open Go.RowKit Mem Go.Sort
set_option linter.unusedVariables false
set_option maxRecDepth 100000

section
variable {w w' : World} {g : Nat} {m pa body : List UInt8} {c : Bool}
theorem RqIn.lt (H : RqIn w g m pa body c) : g < w.heap.size := heapLt H
theorem RqIn.on (H : RqIn w g m pa body c) (hb : Below w.heap.size w w') : RqIn w' g m pa body c := (hb.block g H.lt).trans H
theorem RqIn.below (H : RqIn w g m pa body c) {B : Nat} (hb : Below B w w') (hB : g < B) : RqIn w' g m pa body c := (hb.block g hB).trans H
theorem RqIn.cells (H : RqIn w g m pa body c) : w.cell? ⟨g, 0, none⟩ = some (.string ⟨m.toArray⟩) ∧ w.cell? ⟨g, 1, none⟩ = some (.string ⟨pa.toArray⟩) ∧ w.cell? ⟨g, 2, none⟩ = some (.string ⟨body.toArray⟩) ∧ w.cell? ⟨g, 3, none⟩ = some (.bool c) :=
  ⟨(cellAt 0 H).trans rfl, (cellAt 1 H).trans rfl, (cellAt 2 H).trans rfl, (cellAt 3 H).trans rfl⟩
theorem RqIn.free (H : RqIn w g m pa body c) : w.frozen? ⟨g, 0, none⟩ = false ∧ w.frozen? ⟨g, 1, none⟩ = false ∧ w.frozen? ⟨g, 2, none⟩ = false ∧ w.frozen? ⟨g, 3, none⟩ = false := ⟨freeAt 0 H, freeAt 1 H, freeAt 2 H, freeAt 3 H⟩
theorem RqIn.put (H : RqIn w g m pa body c) (m' pa' body' : List UInt8) (c' : Bool) :
    RqIn ((((w.setCell ⟨g, 0, none⟩ (.string ⟨m'.toArray⟩)).setCell ⟨g, 1, none⟩ (.string ⟨pa'.toArray⟩)).setCell ⟨g, 2, none⟩ (.string ⟨body'.toArray⟩)).setCell ⟨g, 3, none⟩ (.bool c')) g m' pa' body' c' :=
  (heapSet 3 _ (heapSet 2 _ (heapSet 1 _ (heapSet 0 _ H)))).trans rfl
end
theorem below_put4 {w W : World} {g : Nat} (hb : Below w.heap.size w W) (hg : w.heap.size ≤ g) (u v x y : Value) : Below w.heap.size w ((((W.setCell ⟨g, 0, none⟩ u).setCell ⟨g, 1, none⟩ v).setCell ⟨g, 2, none⟩ x).setCell ⟨g, 3, none⟩ y) :=
  (((hb.setCell (p := ⟨g, 0, none⟩) hg u).setCell (p := ⟨g, 1, none⟩) hg v).setCell (p := ⟨g, 2, none⟩) hg x).setCell (p := ⟨g, 3, none⟩) hg y
def TellsR (r : M.Rq × Nat × Nat) (w : World) (e : Ending) (w' : World) : Prop := e = .returned (.tuple #[rqv r.1.method r.1.path r.1.body r.1.close, .int .i64 (r.2.1 : Int), .int .i64 (r.2.2 : Int)]) ∧ Below w.heap.size w w'

set_option maxHeartbeats 4000000 in
theorem Read_any (s : ByteArray) (w : World) (hs : s.size ≤ 281474976710656) (hV : Vars w) : Calls Tryz.prog 10 #[.string s] w (TellsR (M.read (bl s)) w) := by
  have hln : (bl s).length = s.size := bl_len s
  obtain ⟨w0, hw0⟩ : ∃ w0, w0 = w.alloc (.cells #[.string ⟨#[]⟩, .string ⟨#[]⟩, .string ⟨#[]⟩, .bool false] 32) := ⟨_, rfl⟩
  have HQ0 := Lib.hid (show RqIn w0 w.heap.size [] [] [] false by rw [hw0]; exact RqIn.new w [] [] [] false)
  have hb0 : Below w.heap.size w w0 := by rw [hw0]; exact bel_alloc _ _
  have HB0 := Lib.hid hb0
  have HV := Lib.hid hV
  have HHL := Lib.hid (headLines_any s w0 (by omega))
  have HW0 := Lib.hid hw0
  clear hV hb0 hw0
  go_enter Tryz.func10, Tryz.ntmps10
  go_wp2_with fail
  rw [← HW0.out]
  refine HHL.out.mono ?_
  rintro e w1 ⟨hb1, hr⟩
  have HQ1 := Lib.hid (HQ0.out.on hb1)
  have HB1 := Lib.hid (HB0.out.trans (hb1.mono HB0.out.size))
  clear hb1
  cases hh : M.heads (bl s) with
  | no st =>
    rw [hh] at hr
    subst hr
    have HX := Lib.hid (M.read_no hh)
    obtain ⟨x0, x1, x2, x3⟩ := HQ1.out.cells
    obtain ⟨y0, y1, y2, y3⟩ := HQ1.out.free
    clear hh
    go_wp2
    (try simp only [Exit.inBlock, Exit.then])
    refine bodyPost_ret (results_row3 rfl _ _ w.heap.size 32 (rqc [] [] [] false) (0, 0) _ rfl (HQ1.out.put [] [] [] false) Tryz.underlying32 rfl Tryz.rqSize) rfl ?_
    exact ⟨by rw [HX.out]; rfl, below_put4 HB1.out (Nat.le_refl _) _ _ _ _⟩
  | yes ls b =>
    rw [hh] at hr
    obtain ⟨A, c, rfl, hrd⟩ := hr
    obtain ⟨hne, hb0, hbl, hb2048, hln34, hshort⟩ := M.heads_yes hh
    obtain ⟨l0, r, rfl⟩ := List.exists_cons_of_ne_nil hne
    have HRD := Lib.hid hrd
    obtain ⟨n, hn⟩ : ∃ n, (l0 :: r).length = n := ⟨_, rfl⟩
    have hn1 : 1 ≤ n := by rw [← hn]; simp
    rw [hn] at hln34 HRD ⊢
    obtain ⟨w2, hw2⟩ : ∃ w2, w2 = w1.alloc (.cells (hcells [] [] ⟨false, 0, 0, 0⟩) 50) := ⟨_, rfl⟩
    have hb2 : Below w1.heap.size w1 w2 := by rw [hw2]; exact bel_alloc _ _
    have HH2 := Lib.hid (show HdIn w2 w1.heap.size [] [] ⟨false, 0, 0, 0⟩ by rw [hw2]; exact heap_alloc_new _ _)
    have HQ2 := Lib.hid (HQ1.out.on hb2)
    have HB2 := Lib.hid (HB1.out.trans (hb2.mono HB1.out.size))
    have hg : w.heap.size < w1.heap.size := HQ1.out.lt
    have HVB := Lib.hid (show ∀ w', Below w1.heap.size w2 w' → Vars w' from fun w' hb' => HV.out.below (HB2.out.trans (hb'.mono HB1.out.size)))
    have HRE := Lib.hid (read_any A n c w1.heap.size l0 r w2 (HRD.out.below hb2) HH2.out hshort hln34 HVB)
    have HW2 := Lib.hid hw2
    have HHS := Lib.hid hh
    clear hrd hh hw2 hb2 hshort hne hln34 HVB hn
    go_wp2_with fail
    rw [show w1.alloc (Obj.cells #[Value.string { data := #[] }, Value.string { data := #[] }, Value.string { data := #[] }, Value.bool false, Value.int IntKind.i64 0, Value.int IntKind.i64 0, Value.int IntKind.i64 0] 50) = w2 from HW2.out.symm]
    refine HRE.out.mono ?_
    rintro e w3 ⟨rfl, hb3, hok⟩
    have HQ3 := Lib.hid (HQ2.out.below hb3 hg)
    have HB3 := Lib.hid (HB2.out.trans (hb3.mono HB1.out.size))
    clear hb3
    cases hre : M.hread (l0 :: r) with
    | error st =>
      have HX := Lib.hid (M.read_err HHS.out hre)
      have hst0 : st ≠ 0 := by have := M.hread_err hre; omega
      have hst2 : ((st : Int) != 0) = true := by rw [bne_iff_ne]; omega
      clear hre hok
      obtain ⟨x0, x1, x2, x3⟩ := HQ3.out.cells
      obtain ⟨y0, y1, y2, y3⟩ := HQ3.out.free
      unfold hst
      go_wp2
      (try simp only [Exit.inBlock, Exit.then])
      refine bodyPost_ret (results_row3 rfl _ _ w.heap.size 32 (rqc [] [] [] false) (0, 0) _ rfl (HQ3.out.put [] [] [] false) Tryz.underlying32 rfl Tryz.rqSize) rfl ?_
      exact ⟨by rw [HX.out]; rfl, below_put4 HB3.out (Nat.le_refl _) _ _ _ _⟩
    | ok mph =>
      obtain ⟨m, pa, hd⟩ := mph
      obtain ⟨hh3, hlen⟩ := hok m pa hd hre
      have HX0 := Lib.hid (M.read_ok HHS.out hre)
      have HH3 := Lib.hid hh3
      have k0 := (cellAt 0 hh3).trans (show _ = some (Value.string ⟨m.toArray⟩) from rfl)
      have k1 := (cellAt 1 hh3).trans (show _ = some (Value.string ⟨pa.toArray⟩) from rfl)
      have k2 := (cellAt 2 hh3).trans (show _ = some (Value.string ⟨#[]⟩) from rfl)
      have k3 := HH3.out.c3
      have k6 := HH3.out.c6
      have f2 := HH3.out.free 2
      clear hre hok hh3
      obtain ⟨cl, a1, a2, x⟩ := hd
      simp only at hlen k3 k6 HX0
      have hbs : b ≤ s.size := by omega
      have hst : hst (Except.ok (m, pa, (⟨cl, a1, a2, x⟩ : M.Hd))) = 0 := rfl
      by_cases hsh : s.size < b + x
      · have HX := Lib.hid (show M.read (bl s) = (M.noRq, 0, 0) by rw [HX0.out, if_pos (by omega)])
        obtain ⟨x0, x1, x2, x3⟩ := HQ3.out.cells
        obtain ⟨y0, y1, y2, y3⟩ := HQ3.out.free
        have hsh2 : (s.size : Int) - (b : Int) < (x : Int) := by omega
        clear HX0
        go_wp2
        (try simp only [Exit.inBlock, Exit.then])
        refine bodyPost_ret (results_row3 rfl _ _ w.heap.size 32 (rqc [] [] [] false) (0, 0) _ rfl (HQ3.out.put [] [] [] false) Tryz.underlying32 rfl Tryz.rqSize) rfl ?_
        exact ⟨by rw [HX.out]; rfl, below_put4 HB3.out (Nat.le_refl _) _ _ _ _⟩
      · have hle : b + x ≤ s.size := by omega
        obtain ⟨s4, hs4⟩ : ∃ s4, s.extract b (b + x) = s4 := ⟨_, rfl⟩
        have hb4 : bl s4 = ((bl s).drop b).take x := by rw [← hs4, bl_cut, List.take_drop]
        have hz4 : s4.size = x := by rw [← hs4, size_cut]; omega
        have HX := Lib.hid (show M.read (bl s) = (⟨m, pa, bl s4, cl⟩, b + x, 0) by rw [HX0.out, if_neg (by omega), hb4])
        have HK := Lib.hid (fun w1 => clone_any s4 w1 (by omega))
        have hsh2 : (x : Int) ≤ (s.size : Int) - (b : Int) := by omega
        clear HX0 hb4 hz4
        go_wp2_with fail
        refine (HK.out w3).mono ?_
        rintro e w4 ⟨rfl, hb4⟩
        have HH4 := Lib.hid (HH3.out.on hb4)
        have HQ4 := Lib.hid (HQ3.out.on hb4)
        have HB4 := Lib.hid (HB3.out.trans (hb4.mono HB3.out.size))
        clear k0 k1 k2 k3 k6 f2 hb4
        have k0 := (cellAt 0 HH4.out).trans (show _ = some (Value.string ⟨m.toArray⟩) from rfl)
        have k1 := (cellAt 1 HH4.out).trans (show _ = some (Value.string ⟨pa.toArray⟩) from rfl)
        have k2 := (cellAt 2 HH4.out).trans (show _ = some (Value.string ⟨#[]⟩) from rfl)
        have k3 := HH4.out.c3
        have f2 := HH4.out.free 2
        simp only at k3
        obtain ⟨x0, x1, x2, x3⟩ := HQ4.out.cells
        obtain ⟨y0, y1, y2, y3⟩ := HQ4.out.free
        have hgn : w.heap.size ≠ w1.heap.size := by omega
        have hgn2 : w1.heap.size ≠ w.heap.size := by omega
        go_wp2
        (try simp only [Exit.inBlock, Exit.then])
        have HQ5 : RqIn (w4.setCell ⟨w1.heap.size, 2, none⟩ (.string s4)) w.heap.size [] [] [] false := heapFar HQ4.out hgn
        have HP := HQ5.put m pa (bl s4) cl
        rw [mk_bl] at HP
        refine bodyPost_ret (results_row3 rfl _ _ w.heap.size 32 (rqc m pa (bl s4) cl) (0, 0) _ rfl HP Tryz.underlying32 rfl Tryz.rqSize) rfl ?_
        exact ⟨by rw [HX.out]; rfl, below_put4 (HB4.out.setCell (Nat.le_of_lt hg) _) (Nat.le_refl _) _ _ _ _⟩
end Go.Proofs.YtdbinhbmhkbfeaaGreatDoor
