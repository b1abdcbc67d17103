/-
  Rows of lists of entries; slices.Clone at entries; merge's all: by contracts.
-/
import Derived.Test.YtpnhjcedhcgglaaMergeE
namespace Go.Proofs.Ytpnhjcedhcgglaa
open Go.RowKit Mem
set_option linter.unusedVariables false
set_option maxRecDepth 100000

/-- a list of entries: where it lies, its entries -/
structure Dr where
  A : Option Addr
  n : Nat
  c : Nat
  ds : List M.D
instance : Inhabited Dr := ⟨⟨none, 0, 0, []⟩⟩
def Dr.v (r : Dr) : Value := .slice r.A r.n r.c
def Dr.ok (w : World) (B : Nat) (r : Dr) : Prop := RdDocs w B r.A r.n r.c r.ds
def lists (rs : List Dr) : List (List M.D) := rs.map Dr.ds
def totD (rs : List Dr) : Nat := (rs.map Dr.n).sum
def RdLists (w : World) (B : Nat) (A : Option Addr) (n c : Nat) (rs : List Dr) : Prop :=
  n = rs.length ∧ n ≤ c ∧ c ≤ 9223372036854775807 ∧ (∀ r ∈ rs, r.ok w B) ∧ (0 < n → ∃ b off, A = some ⟨b, off, none⟩ ∧ b < B ∧ ∀ i (hi : i < rs.length), w.cell? ⟨b, off + i, none⟩ = some rs[i].v)
section
variable {w w' : World} {B B' n c : Nat} {A : Option Addr} {rs : List Dr}
theorem RdLists.below (h : RdLists w B A n c rs) (hb : Below B w w') : RdLists w' B A n c rs := by
  obtain ⟨h1, h2, h3, h4, h5⟩ := h
  refine ⟨h1, h2, h3, fun x hx => RdDocs.below (h4 x hx) hb, fun hn => ?_⟩
  obtain ⟨b, off, e, hb1, hc⟩ := h5 hn
  exact ⟨b, off, e, hb1, fun i hi => (hb.cell (p := ⟨b, off + i, none⟩) hb1).trans (hc i hi)⟩
theorem RdLists.more (h : RdLists w B A n c rs) (hB : B ≤ B') : RdLists w B' A n c rs := by
  obtain ⟨h1, h2, h3, h4, h5⟩ := h
  refine ⟨h1, h2, h3, fun x hx => RdDocs.more (h4 x hx) hB, fun hn => ?_⟩
  obtain ⟨b, off, e, hb1, hc⟩ := h5 hn
  exact ⟨b, off, e, by omega, hc⟩
theorem RdLists.on (h : RdLists w w.heap.size A n c rs) (hb : Below w.heap.size w w') : RdLists w' w'.heap.size A n c rs := (h.below hb).more hb.size
theorem RdLists.at_ {i : Nat} (h : RdLists w B A n c rs) (hi : i < rs.length) : ∃ b off, A = some ⟨b, off, none⟩ ∧ b < B ∧ w.cell? ⟨b, off + i, none⟩ = some rs[i].v := by
  obtain ⟨b, off, e, hb, hc⟩ := h.2.2.2.2 (by have := h.1; omega)
  exact ⟨b, off, e, hb, hc i hi⟩
theorem RdLists.upto {k : Nat} (h : RdLists w B A n c rs) (hk : k ≤ n) : RdLists w B A k c (rs.take k) := by
  obtain ⟨h1, h2, h3, h4, h5⟩ := h
  refine ⟨by simp; omega, by omega, h3, fun r hr => h4 r (List.mem_of_mem_take hr), fun hn => ?_⟩
  obtain ⟨b, off, rfl, hb, hc⟩ := h5 (by omega)
  refine ⟨b, off, rfl, hb, fun j hj => ?_⟩
  rw [List.getElem_take]
  exact hc j (by simp at hj; omega)
theorem RdLists.from_ {k : Nat} (h : RdLists w B A n c rs) (hk : k < n) : RdLists w B (A.map (·.add k)) (n - k) (c - k) (rs.drop k) := by
  obtain ⟨h1, h2, h3, h4, h5⟩ := h
  refine ⟨by rw [List.length_drop]; omega, by omega, by omega, fun r hr => h4 r (List.mem_of_mem_drop hr), fun hn => ?_⟩
  obtain ⟨b, off, rfl, hb, hc⟩ := h5 (by omega)
  refine ⟨b, off + k, by simp [add_none], hb, fun j hj => ?_⟩
  have := hc (k + j) (by simp at hj; omega)
  rw [List.getElem_drop, Nat.add_assoc]
  exact this
end
theorem totD_split (rs : List Dr) (k : Nat) : totD (rs.take k) + totD (rs.drop k) = totD rs := by
  unfold totD
  rw [← List.sum_append, ← List.map_append, List.take_append_drop]
theorem totD_len {w : World} {B : Nat} : ∀ {rs : List Dr}, (∀ r ∈ rs, r.ok w B) → (M.mall M.ahead (lists rs)).length = totD rs := fun {rs} h => by
  rw [M.mall_len]
  unfold lists totD
  rw [List.map_map]
  congr 1
  refine List.map_congr_left fun r hr => ?_
  exact (h r hr).1.symm
theorem lists_split (rs : List Dr) (k : Nat) : M.mall M.ahead (lists rs) = M.mrg M.ahead (M.mall M.ahead (lists (rs.take k))) (M.mall M.ahead (lists (rs.drop k))) := by
  rw [← M.mall_app M.ahead_pre]
  unfold lists
  rw [← List.map_append, List.take_append_drop]

theorem row_empty (w : World) : (w.alloc (.cells #[] 31)).ownsRow w.heap.size 31 3 (.slice (some ⟨w.heap.size, 0, none⟩) 0 0) 0 [] :=
  ⟨rfl, .inr ⟨w.heap.size, 0, #[], rfl, Nat.le_refl _, heap_alloc_new w _, Nat.le_refl _, by simp [maxLen], rfl, rfl⟩⟩
/-- entries that can be read -/
def TellsRd (ds : List M.D) (w : World) (e : Ending) (w' : World) : Prop := ∃ A n c, e = .returned (.slice A n c) ∧ RdDocs w' w'.heap.size A n c ds ∧ Below w.heap.size w w'

set_option maxHeartbeats 2000000 in
theorem clone_any (A : Option Addr) (n c : Nat) (ds : List M.D) (w : World) (h : RdDocs w w.heap.size A n c ds) (hn : n ≤ 4000000) :
    Calls Try.prog 16 #[.slice A n c] w (TellsRow ds w) := by
  obtain ⟨i0, hi, hz0, hz1, hz2⟩ := info_of Try.infoDoc
  have HI := Lib.hid hi; have HZ0 := Lib.hid hz0; have HZ1 := Lib.hid hz1; have HZ2 := Lib.hid hz2
  clear hi hz0 hz1 hz2
  have H := Lib.hid h
  have hc := h.2.1; have hcm := h.2.2.1
  clear h
  have hnil := fun (w : World) (a : Option Addr) (n c : Nat) => Lib.run_eql_slice_nil (P := Try.prog) w 24 31 a n c 0 0 Try.underlying24
  rcases A with _ | ad
  · obtain rfl : n = 0 := H.out.cells.1 rfl
    have HD := Lib.hid (show ds = [] from List.eq_nil_of_length_eq_zero H.out.1.symm)
    go_enter Try.func16, Try.ntmps16
    go_wp2
    go_ret
    rw [HD.out]
    exact ⟨_, rfl, World.ownsRow_nil _ _ _ _, Below.refl _ _⟩
  · go_enter Try.func16, Try.ntmps16
    have hb0 := (Below.refl w.heap.size w).alloc (Nat.le_refl _) (.cells #[] 31)
    have HB0 := Lib.hid hb0
    have HRA := Lib.hid ((H.out.below hb0))
    clear hb0
    go_wp2_with (at_builtin; go_must (refine wpList_appD _ rfl (.tmp 5) (.tmp 6) _ rfl w.heap.size w.heap.size _ i0 _ Try.underlying24 HI.out HZ0.out HZ1.out HZ2.out rfl _ 0 [] (row_empty w) rfl _ _ _ ds HRA.out rfl (by omega) (by simp) ?_))
    intro v' w1 hown hg hat
    have hb := HB0.out.grown hg (by simp) (fun k hk => (World.ownsRow.lt (row_empty w) k hk).1)
    go_wp2
    go_ret
    refine ⟨v', rfl, ?_, hb⟩
    unfold DRow
    have e := H.out.1
    rw [← e]
    simpa using hown

end Go.Proofs.Ytpnhjcedhcgglaa
