/-
  Rows of numbers of the call's own: what Clone, Sort, BinarySearch, Delete and Insert make of them.
-/
import Derived.Test.YtghnelfgnfhclaaMetaC
import Derived.Sort.OwnSortedInts
import Derived.Shelf.Spec.SlicesInsert
import Derived.Shelf.Spec.SlicesInsertGrow
import Derived.Laws.IdiomCopy
namespace Go.Proofs.Ytghnelfgnfhclaa
open Go.RowKit Mem Go.Sort
set_option linter.unusedVariables false
set_option maxRecDepth 100000

def Try.layIns_ren : Go.Shelf.Ren := ⟨fun | 21 => 32 | 27 => 47 | 28 => 48 | 35 => 60 | 39 => 66 | n => n, fun | 22 => 40 | 3 => 3 | 4 => 4 | 0 => 0 | n => n, fun | n => n⟩
theorem Try.layIns : Go.Proofs.Lays2.n21 Try.prog Try.layIns_ren := {
  mixed := by kernel_rfl
  f21 := Try.func32.trans (congrArg some (by kernel_rfl))
  f27 := Try.func47.trans (congrArg some (by kernel_rfl))
  f28 := Try.func48.trans (congrArg some (by kernel_rfl))
  f35 := Try.func60.trans (congrArg some (by kernel_rfl))
  f39 := Try.func66.trans (congrArg some (by kernel_rfl))
  t0 := Try.underlying0
  a0 := Try.isAgg0
  z0 := Try.sizeOf0
  v0 := Try.zeroValue0
  t3 := Try.underlying3
  a3 := Try.isAgg3
  z3 := Try.sizeOf3
  v3 := Try.zeroValue3
  t4 := Try.underlying4
  a4 := Try.isAgg4
  z4 := Try.sizeOf4
  v4 := Try.zeroValue4
  t22 := Try.underlying40
  a22 := Try.isAgg40
  z22 := Try.sizeOf40
  v22 := Try.zeroValue40
  i3 := by kernel_rfl }

/-- cells written over, as a list -/
def putL (l : List Value) (o : Nat) (vs : List Value) : List Value := l.take o ++ vs ++ l.drop (o + vs.length)
theorem putL_len (l : List Value) (o : Nat) (vs : List Value) (h : o + vs.length ≤ l.length) : (putL l o vs).length = l.length := by simp [putL]; omega
theorem heap_setCells (g : Nat) (e : TypeId) : ∀ (vs : List Value) (o : Nat) (w : World) (cur : Array Value), w.heap[g]? = some (.cells cur e (0, 0)) → o + vs.length ≤ cur.size →
    (w.setCells g o vs).heap[g]? = some (.cells (putL cur.toList o vs).toArray e (0, 0)) := by
  intro vs
  induction vs with
  | nil =>
    intro o w cur h _
    rw [World.setCells, h]
    simp [putL]
  | cons v r ih =>
    intro o w cur h hl
    simp only [List.length_cons] at hl
    rw [World.setCells, ih (o + 1) _ _ (heapSet o v h) (by simp; omega)]
    congr 2
    simp only [putL, List.length_cons, Array.toList_setIfInBounds]
    have hlt : o < cur.toList.length := by simp; omega
    rw [List.set_eq_take_append_cons_drop, if_pos hlt]
    have e1 : (cur.toList.take o ++ v :: cur.toList.drop (o + 1)).take (o + 1) = cur.toList.take o ++ [v] := by
      rw [List.take_append, List.take_of_length_le (by simp; omega)]
      congr 1
      rw [List.length_take, Nat.min_eq_left (by omega), Nat.add_sub_cancel_left]
      rfl
    have e2 : (cur.toList.take o ++ v :: cur.toList.drop (o + 1)).drop (o + 1 + r.length) = cur.toList.drop (o + (r.length + 1)) := by
      rw [List.drop_append, List.drop_of_length_le (by simp; omega), List.nil_append, List.length_take, Nat.min_eq_left (by omega),
        show o + 1 + r.length - o = r.length + 1 from by omega, List.drop_succ_cons, List.drop_drop]
      congr 1
      omega
    rw [e1, e2]
    simp
theorem own_of_heap {w : World} {base g cap m : Nat} {e : TypeId} {C : Array Value} {ys : List Value} (h : w.heap[g]? = some (.cells C e (0, 0))) (hb : base ≤ g) (hs : C.size = cap) (hm : m = ys.length) (hc : m ≤ cap) (hx : cap ≤ maxLen) (ht : C.toList.take m = ys) :
    OwnV w base e (.slice (some ⟨g, 0, none⟩) m cap) ys := by
  subst hm
  refine ⟨by simp, .inr ⟨g, cap, C, rfl, hb, h, hc, hx, by omega, by rw [Nat.mul_one]; exact ht⟩⟩
theorem Mem.OwnV.heapOf {w : World} {base n c : Nat} {e : TypeId} {A : Option Addr} {xs : List Value} (h : OwnV w base e (.slice A n c) xs) (hn : 0 < n) :
    ∃ g cur, A = some ⟨g, 0, none⟩ ∧ base ≤ g ∧ w.heap[g]? = some (.cells cur e (0, 0)) ∧ n ≤ c ∧ c ≤ maxLen ∧ cur.size = c ∧ n = xs.length ∧ cur.toList.take n = xs := by
  rcases h.2 with ⟨h1, h0⟩ | ⟨g, cap, cur, h1, hg, hh, hnc, hcm, hsz, ht⟩
  · injection h1 with e1 e2 e3
    omega
  · injection h1 with e1 e2 e3
    subst e1 e2 e3
    refine ⟨g, cur, rfl, hg, hh, hnc, hcm, by omega, rfl, by rw [Nat.mul_one] at ht; exact ht⟩
theorem Mem.OwnV.len {w : World} {base n c : Nat} {e : TypeId} {A : Option Addr} {xs : List Value} (h : OwnV w base e (.slice A n c) xs) : n = xs.length := by
  obtain ⟨A', c', e1, _, _⟩ := h.form
  injection e1
theorem Mem.OwnV.less {w : World} {base b' : Nat} {e : TypeId} {v : Value} {xs : List Value} (h : OwnV w base e v xs) (hb : b' ≤ base) : OwnV w b' e v xs := by
  refine ⟨h.1, ?_⟩
  rcases h.2 with h2 | ⟨g, cap, cur, hv, hg, r⟩
  · exact .inl h2
  · exact .inr ⟨g, cap, cur, hv, by omega, r⟩
/-- what is owned, and lies outside F, stays -/
theorem Mem.OwnV.turned {w w' : World} {F : Nat → Prop} {base : Nat} {e : TypeId} {v : Value} {xs : List Value} (h : OwnV w base e v xs) (ht : Turned F w w') (hn : ∀ k, v.ownBlock = some k → ¬ F k) : OwnV w' base e v xs := by
  refine ⟨h.1, ?_⟩
  rcases h.2 with h2 | ⟨g, cap, cur, rfl, hg, hh, r⟩
  · exact .inl h2
  · exact .inr ⟨g, cap, cur, rfl, hg, (ht.block g (Array.getElem?_eq_some_iff.1 hh).1 (hn g rfl)).trans hh, r⟩

/-- Clone of a row of numbers -/
theorem clone_any (B n c : Nat) (A : Option Addr) (zs : List Int) (w : World) (h : RdV w B A n c (ints zs)) (hn : n ≤ 17592186044416) :
    Calls Try.prog 29 #[.slice A n c] w fun e w' => ∃ v', e = .returned v' ∧ OwnV w' w.heap.size 3 v' (ints zs) ∧ Below w.heap.size w w' := by
  have hl := h.1
  rw [ints_len] at hl
  rcases Nat.eq_zero_or_pos n with h0 | h0
  · subst h0
    obtain rfl : zs = [] := List.eq_nil_of_length_eq_zero hl.symm
    rcases A with _ | ad
    · refine (Try.slices_Clone_int_nil 0 c w).mono ?_
      rintro e w' ⟨rfl, rfl⟩
      exact ⟨_, rfl, OwnV.nil _ _ _, Below.refl _ _⟩
    · refine (Try.slices_Clone_int_zero ad c w).mono ?_
      rintro e w' ⟨v', rfl, ho, _, hb⟩
      exact ⟨_, rfl, ho, hb⟩
  · obtain ⟨b, off, rfl, hb, hc⟩ := rdi_cells h h0
    refine (Try.slices_Clone_int b off n c zs w (by omega) (by omega) hc).mono ?_
    rintro e w' ⟨v', rfl, ho, _, hbb⟩
    rw [List.take_of_length_le (by omega)] at ho
    refine ⟨_, rfl, ?_, hbb⟩
    unfold OwnV
    rw [ints_len, ← hl]
    exact ho
/-- a row of one's own as slices' contracts speak of it -/
theorem Mem.OwnV.holdsI {w : World} {base g n c : Nat} {zs : List Int} (h : OwnV w base 3 (.slice (some ⟨g, 0, none⟩) n c) (ints zs)) : Holds (Value.int .i64) w g 0 zs.toArray := by
  have hl := h.len
  rw [ints_len] at hl
  have h2 := h
  unfold OwnV at h2
  rw [ints_len, ← hl] at h2
  intro j hj
  have hj' : j < zs.length := by simpa using hj
  rw [Nat.zero_add]
  refine ⟨?_, World.ownsRow.frozenAt h2 j⟩
  rw [World.ownsRow.cellAt h2 j (by omega), ints_at hj', getElem!_pos _ j (by simpa using hj')]
  simp
theorem sort_any (base g n c : Nat) (zs : List Int) (w : World) (h : OwnV w base 3 (.slice (some ⟨g, 0, none⟩) n c) (ints zs)) (h0 : 0 < n) (hn : n ≤ 1000000) :
    Calls Try.prog 25 #[.slice (some ⟨g, 0, none⟩) n c] w fun e w' => e = .returned (.tuple #[]) ∧
      OwnV w' base 3 (.slice (some ⟨g, 0, none⟩) n c) (ints (zs.mergeSort fun x y => decide (x ≤ y))) ∧ Turned (· = g) w w' := by
  have hl := h.len
  rw [ints_len] at hl
  obtain ⟨g', cur, e, hb, hh, hc, hm, hs, _, _⟩ := h.heapOf h0
  injection e with e; injection e with e; subst e
  subst hl
  refine (Try.slices_Sort_int g 0 c zs w h.holdsI (heapLt hh) (by omega)).mono ?_
  rintro e w' ⟨rfl, q, os, rfl⟩
  refine ⟨rfl, ?_, ?_⟩
  · have := ownsRow_sortedI (ss := zs) (ts := zs.mergeSort fun x y => decide (x ≤ y)) (n := q) (os := os) (by simp) hb hh hc hm (by omega)
    unfold OwnV
    rw [ints_len, List.length_mergeSort]
    exact this
  · have := grownBy_sortedI (w := w) (g := g) (n := q) (os := os) (zs.mergeSort fun x y => decide (x ≤ y)).toArray
    exact ⟨this.os, this.tape, this.output, this.size, fun k hk hne => this.block k hk (fun e => hne (by injection e))⟩
theorem delete_any (base g n c i : Nat) (zs : List Int) (w : World) (h : OwnV w base 3 (.slice (some ⟨g, 0, none⟩) n c) (ints zs)) (hi : i < n) :
    Calls Try.prog 33 #[.slice (some ⟨g, 0, none⟩) n c, .int .i64 (i : Int), .int .i64 ((i + 1 : Nat) : Int)] w fun e w' => e = .returned (.slice (some ⟨g, 0, none⟩) (n - 1) c) ∧
      OwnV w' base 3 (.slice (some ⟨g, 0, none⟩) (n - 1) c) (ints (zs.take i ++ zs.drop (i + 1))) ∧ Turned (· = g) w w' := by
  have hl := h.len
  rw [ints_len] at hl
  obtain ⟨g', cur, e, hb, hh, hc, hm, hs, _, _⟩ := h.heapOf (by omega)
  injection e with e; injection e with e; subst e
  subst hl
  have hm' : c ≤ 9223372036854775807 := by simpa only [maxLen] using hm
  refine (Try.slices_Delete_int g 0 c i (i + 1) zs w h.holdsI hc hm' (by omega) (by omega)).mono ?_
  rintro e w' ⟨rfl, q, rfl⟩
  have e1 : i + 1 - i = 1 := by omega
  rw [e1]
  have hgrow := grownBy_sortedI (w := w) (g := g) (n := q) (os := #[]) (zs.take i ++ zs.drop (i + 1) ++ List.replicate 1 0).toArray
  have hheap := heap_sortedI (n := q) (os := #[]) (zs.take i ++ zs.drop (i + 1) ++ List.replicate 1 0).toArray hh
  have hg0 : ∀ W : World, grow W #[] = W := fun W => by simp [grow]
  rw [hg0] at hgrow hheap
  refine ⟨rfl, ?_, ⟨hgrow.os, hgrow.tape, hgrow.output, hgrow.size, fun k hk hne => hgrow.block k hk (fun e => hne (by injection e))⟩⟩
  have htk := take_putCellsI cur (zs.take i ++ zs.drop (i + 1) ++ List.replicate 1 0) (by simp; omega)
  refine own_of_heap hheap hb (by simp [putCells, hs]) (by simp; omega) (by omega) hm ?_
  have h2 := congrArg (List.take (zs.length - 1)) htk
  rw [List.take_take, Nat.min_eq_left (by simp; omega)] at h2
  rw [h2, ← List.map_take, List.take_append_of_le_length (by simp; omega), List.take_of_length_le (by simp; omega)]
theorem search_any (B n c : Nat) (A : Option Addr) (zs : List Int) (x : Int) (w : World) (h : RdV w B A n c (ints zs)) (hn : n ≤ 1000000) (hp : zs.Pairwise (· < ·)) :
    Calls Try.prog 31 #[.slice A n c, .int .i64 x] w fun e w' => e = .returned (.tuple #[.int .i64 ((M.at_ zs x : Nat) : Int), .bool (zs.contains x)]) ∧ ∃ q, w' = w.drewN q := by
  have hl := h.1
  rw [ints_len] at hl
  rcases Nat.eq_zero_or_pos n with h0 | h0
  · subst h0
    obtain rfl : zs = [] := List.eq_nil_of_length_eq_zero hl.symm
    refine (Try.slices_BinarySearch_int_empty A c x w).mono ?_
    rintro e w' hx
    first
      | exact ⟨hx.1, 0, hx.2⟩
      | exact hx
  · obtain ⟨b, off, rfl, hb, hc⟩ := rdi_cells h h0
    have := Try.slices_BinarySearch_int b off n c zs x w (by omega) (by omega) hc (by rw [List.take_of_length_le (by omega)]; exact hp.imp (fun h => by omega))
    rw [List.take_of_length_le (by omega)] at this
    exact this

theorem putL_take {l : List Value} {i : Nat} {vs : List Value} (h : i ≤ l.length) : (putL l i vs).take (i + vs.length) = l.take i ++ vs := by
  unfold putL
  rw [List.take_append_of_le_length (by simp; omega), List.take_of_length_le (by simp; omega)]
theorem putL_at {l : List Value} {i : Nat} {vs : List Value} (h : i + vs.length ≤ l.length) : (putL l i vs).drop (i + vs.length) = l.drop (i + vs.length) := by
  unfold putL
  rw [List.drop_append_of_le_length (by simp; omega), List.drop_of_length_le (by simp; omega), List.nil_append]
theorem turned_setCells {F : Nat → Prop} {w : World} {g : Nat} (hp : F g ∨ w.heap.size ≤ g) : ∀ (vs : List Value) (o : Nat) (w1 : World), Turned F w w1 → Turned F w (w1.setCells g o vs) := by
  intro vs
  induction vs with
  | nil => intro o w1 h; exact h
  | cons v r ih => intro o w1 h; exact ih (o + 1) _ (h.setCell (p := ⟨g, o, none⟩) hp v)
/-- a value laid at place i, what stood from there on laid behind it -/
theorem putL_ins {l cs : List Value} {i : Nat} {x : Value} (hi : i ≤ cs.length) (hl : cs.length + 1 ≤ l.length) (ht : l.take i = cs.take i) : (putL (putL l (i + 1) (cs.drop i)) i [x]).take (cs.length + 1) = cs.take i ++ x :: cs.drop i := by
  have h1 : (putL l (i + 1) (cs.drop i)).length = l.length := putL_len _ _ _ (by simp; omega)
  have e1 : (putL l (i + 1) (cs.drop i)).take i = cs.take i := by
    unfold putL
    rw [List.append_assoc, List.take_append_of_le_length (by simp; omega), List.take_take, Nat.min_eq_left (by omega), ht]
  have e2 : ((putL l (i + 1) (cs.drop i)).drop (i + 1)).take (cs.length - i) = cs.drop i := by
    unfold putL
    rw [List.append_assoc, List.drop_append_of_le_length (by simp; omega), List.drop_of_length_le (by simp; omega), List.nil_append, List.take_append_of_le_length (by simp), List.take_of_length_le (by simp)]
  generalize putL l (i + 1) (cs.drop i) = m at *
  unfold putL
  rw [List.append_assoc, e1, List.take_append, List.take_of_length_le (by simp; omega)]
  congr 1
  rw [List.length_take, Nat.min_eq_left hi, show cs.length + 1 - i = (cs.length - i) + 1 from by omega]
  simp only [List.length_cons, List.length_nil, Nat.zero_add, List.cons_append, List.nil_append, List.take_succ_cons]
  rw [e2]
theorem putL_ins2 {l cs : List Value} {i : Nat} {x : Value} (hi : i ≤ cs.length) (hl : cs.length + 1 ≤ l.length) (ht : l.take i = cs.take i) : (putL (putL l i [x]) (i + 1) (cs.drop i)).take (cs.length + 1) = cs.take i ++ x :: cs.drop i := by
  have h1 : (putL l i [x]).length = l.length := putL_len _ _ _ (by simp; omega)
  have e1 : (putL l i [x]).take (i + 1) = cs.take i ++ [x] := by
    have := putL_take (l := l) (i := i) (vs := [x]) (by omega)
    rw [ht] at this
    exact this
  generalize putL l i [x] = m at *
  unfold putL
  rw [e1, List.take_append_of_le_length (by simp; omega), List.take_of_length_le (by simp; omega)]
  simp

/-- Insert of one number into a row of one's own: in place, or into a new block -/
theorem insert_any (base g vb n c i c2 : Nat) (zs : List Int) (x : Int) (w : World) (h : OwnV w base 3 (.slice (some ⟨g, 0, none⟩) n c) (ints zs)) (h0 : 0 < n) (hi : i ≤ n) (hn : n ≤ 1000000)
    (hv : w.heap[vb]? = some (.cells #[.int .i64 x] 3 (0, 0))) (hne : vb ≠ g) (hbase : base ≤ w.heap.size) :
    Calls Try.prog 32 #[.slice (some ⟨g, 0, none⟩) n c, .int .i64 (i : Int), .slice (some ⟨vb, 0, none⟩) 1 c2] w fun e w' =>
      ∃ v', e = .returned v' ∧ OwnV w' base 3 v' (ints (zs.take i ++ x :: zs.drop i)) ∧ Turned (· = g) w w' ∧ (v'.ownBlock = some g ∨ ∃ k, v'.ownBlock = some k ∧ w.heap.size ≤ k) := by
  have hl := h.len
  rw [ints_len] at hl
  obtain ⟨g', cur, e, hb, hh, hc, hm, hs, _, htk⟩ := h.heapOf h0
  injection e with e; injection e with e; subst e
  have hm' : c ≤ 9223372036854775807 := by simpa only [maxLen] using hm
  have hvs : ∀ j v, [Value.int .i64 x][j]? = some v → w.cell? ⟨vb, 0 + j, none⟩ = some v := by
    intro j v hj
    rw [Nat.zero_add, cellAt j hv, ← hj]
    simp
  have h1v : ∀ v ∈ [Value.int .i64 x], v.oneCell' = true := by
    intro v hv; simp at hv; subst hv; rfl
  have hcell : ∀ j, w.cell? ⟨g, j, none⟩ = cur[j]? := fun j => cellAt j hh
  have hcs : ∀ j v, (ints zs)[j]? = some v → w.cell? ⟨g, 0 + j, none⟩ = some v := by
    intro j v hj
    have hjn : j < n := by
      have := (List.getElem?_eq_some_iff.1 hj).1
      simp at this; omega
    rw [Nat.zero_add, hcell, ← hj, ← htk, List.getElem?_take_of_lt hjn, Array.getElem?_toList]
  have hints : ints (zs.take i ++ x :: zs.drop i) = (ints zs).take i ++ .int .i64 x :: (ints zs).drop i := by simp
  have hcl : cur.toList.length = c := by simpa using hs
  have htki : cur.toList.take i = (ints zs).take i := by rw [← htk, List.take_take, Nat.min_eq_left (by omega)]
  rw [hints]
  by_cases hroom : n + 1 ≤ c
  · by_cases hin : i < n
    · refine (Any2.slices_Insert_int_shift Try.layIns g 0 n c i vb 0 1 c2 (ints zs) [.int .i64 x] w hin (by omega) hroom hm' hne (by simp; omega) rfl hcs
        (fun j hj => by rw [Nat.zero_add, hcell, Array.getElem?_eq_getElem (by omega)]; rfl) (fun j hj => freeAt _ hh) hvs (ints_one zs) h1v 3 3 1 c (by simp [World.shape?, hv]) (by simp [World.shape?, hh, hs]) (by omega) (freeAt _ hv) (freeAt _ hv)).mono ?_
      rintro e w' ⟨rfl, rfl⟩
      have hh1 := heap_setCells g 3 ((ints zs).drop i) (0 + (i + 1)) w.drew cur hh (by simp; omega)
      have hh2 := heap_setCells g 3 [.int .i64 x] (0 + i) _ _ hh1 (by simp; rw [putL_len _ _ _ (by simp; omega)]; omega)
      rw [Nat.zero_add, Nat.zero_add] at hh2
      rw [Nat.zero_add, Nat.zero_add]
      refine ⟨_, rfl, own_of_heap hh2 hb ?_ (by simp; omega) (by omega) hm ?_, ?_, .inl rfl⟩
      · rw [List.size_toArray, putL_len _ _ _ (by rw [putL_len _ _ _ (by simp; omega)]; simp; omega), putL_len _ _ _ (by simp; omega)]
        exact hcl
      · have := putL_ins (l := cur.toList) (cs := ints zs) (i := i) (x := .int .i64 x) (by simp; omega) (by simp; omega) htki
        rw [ints_len, ← hl] at this
        exact this
      · exact turned_setCells (F := (· = g)) (.inl rfl) _ _ _ (turned_setCells (F := (· = g)) (.inl rfl) _ _ _ (Turned.refl _ w).drew)
    · obtain rfl : i = n := by omega
      refine (Any2.slices_Insert_int_end_room Try.layIns g 0 i c vb 0 1 c2 [.int .i64 x] w (by omega) hroom hm' rfl
        (fun j hj => by rw [Nat.zero_add, hcell, Array.getElem?_eq_getElem (by omega)]; rfl) (fun j hj => freeAt _ hh) hvs h1v).mono ?_
      rintro e w' ⟨rfl, rfl⟩
      have hh1 := heap_setCells g 3 [.int .i64 x] (0 + i) w cur hh (by simp; omega)
      rw [Nat.zero_add] at hh1 ⊢
      refine ⟨_, rfl, own_of_heap hh1 hb ?_ (by simp; omega) (by omega) hm ?_, ?_, .inl rfl⟩
      · rw [List.size_toArray, putL_len _ _ _ (by simp; omega)]
        exact hcl
      · have := putL_take (l := cur.toList) (i := i) (vs := [.int .i64 x]) (by omega)
        rw [htki] at this
        rw [show (ints zs).drop i = [] from List.drop_eq_nil_of_le (by simp; omega)]
        exact this
      · exact turned_setCells (F := (· = g)) (.inl rfl) _ _ _ (Turned.refl _ w)
  · have hcap := grownCap_ge w (n + 1) c 3
    have hcapm := grownCap_le_maxLen w (n + 1) c 3 (by simp only [maxLen]; omega)
    have hz : ∀ k, (Builtin.zeroCells (Value.int .i64 0).cells k).size = k := fun k => by rw [size_zeroCells]; simp [Value.cells]
    by_cases hin : i < n
    · refine (Any2.slices_Insert_int_grow Try.layIns g 0 n c i vb 0 1 c2 (ints zs) [.int .i64 x] w hin (by omega) hc (by omega) (by omega) (by simp; omega) rfl hcs hvs (ints_one zs) h1v).mono ?_
      rintro e w' ⟨rfl, rfl⟩
      generalize hC : (((ints zs).take i).toArray ++ Builtin.zeroCells (Value.int .i64 0).cells (n + 1 - i) ++ Builtin.zeroCells (Value.int .i64 0).cells (grownCap w (n + 1) c (Try.layIns_ren.t 3) - (n + 1))) = C
      have hCs : C.size = grownCap w (n + 1) c 3 := by
        rw [← hC]
        have e0 : grownCap w (n + 1) c (Try.layIns_ren.t 3) = grownCap w (n + 1) c 3 := rfl
        rw [e0, Array.size_append, Array.size_append, hz, hz, List.size_toArray]
        simp; omega
      have hCt : C.toList.take i = (ints zs).take i := by
        rw [← hC, Array.toList_append, Array.toList_append, List.append_assoc, List.take_append_of_le_length (by simp; omega), List.take_of_length_le (by simp; omega)]
      have hh1 := heap_setCells w.heap.size 3 [.int .i64 x] i (w.alloc (.cells C 3)).drew C (heapNew (w := w) _) (by simp; omega)
      have hh2 := heap_setCells w.heap.size 3 ((ints zs).drop i) (i + 1) ((w.alloc (.cells C 3)).drew.setCells w.heap.size i [.int .i64 x]).drew _ hh1 (by rw [List.size_toArray, putL_len _ _ _ (by simp; omega)]; simp; omega)
      refine ⟨_, rfl, own_of_heap hh2 hbase ?_ (by simp; omega) hcap hcapm ?_, ?_, .inr ⟨_, rfl, Nat.le_refl _⟩⟩
      · rw [List.size_toArray, putL_len _ _ _ (by rw [putL_len _ _ _ (by simp; omega)]; simp; omega), putL_len _ _ _ (by simp; omega)]
        show C.toList.length = grownCap w (n + 1) c 3
        simpa using hCs
      · have := putL_ins2 (l := C.toList) (cs := ints zs) (i := i) (x := .int .i64 x) (by simp; omega) (by simp; omega) hCt
        rw [ints_len, ← hl] at this
        exact this
      · exact turned_setCells (F := (· = g)) (.inr (Nat.le_refl _)) _ _ _ (turned_setCells (F := (· = g)) (.inr (Nat.le_refl _)) _ _ _ ((Turned.refl _ w).alloc _).drew).drew
    · obtain rfl : i = n := by omega
      refine (Any2.slices_Insert_int_end_grow Try.layIns (some ⟨g, 0, none⟩) i c vb 0 1 c2 (ints zs) [.int .i64 x] w (by omega) hc (by omega) (by omega) (by simp; omega) rfl (fun h => by cases h)
        (fun a ha j v hj => by injection ha with ha; subst ha; rw [add_none]; exact hcs j v hj) hvs h1v).mono ?_
      rintro e w' ⟨rfl, rfl⟩
      generalize hC : ((ints zs ++ [Value.int .i64 x]).toArray ++ Builtin.zeroCells (Value.int .i64 0).cells (grownCap w (i + 1) c (Try.layIns_ren.t 3) - (i + 1))) = C
      have hCs : C.size = grownCap w (i + 1) c 3 := by
        rw [← hC]
        have e0 : grownCap w (i + 1) c (Try.layIns_ren.t 3) = grownCap w (i + 1) c 3 := rfl
        rw [e0, Array.size_append, hz, List.size_toArray]
        simp; omega
      have hh1 : (w.drew.alloc (.cells C 3)).heap[w.heap.size]? = some (.cells C 3 (0, 0)) := heapNew (w := w.drew) _
      refine ⟨_, rfl, own_of_heap hh1 hbase hCs (by simp; omega) hcap hcapm ?_, ((Turned.refl _ w).drew).alloc _, .inr ⟨_, rfl, Nat.le_refl _⟩⟩
      rw [← hC, Array.toList_append, List.take_append_of_le_length (by simp; omega), List.take_of_length_le (by simp; omega)]
      rw [show (ints zs).take i = ints zs from List.take_of_length_le (by simp; omega), show (ints zs).drop i = [] from List.drop_eq_nil_of_le (by simp; omega)]
end Go.Proofs.Ytghnelfgnfhclaa
