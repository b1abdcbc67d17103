/-
  The law MergeSplits: five lists that grow, and the walk.
-/
import Derived.Test.YtpnhjcedhcgglaaMergeK
namespace Go.Proofs.Ytpnhjcedhcgglaa.M
set_option linter.unusedVariables false
theorem ord_snoc {α : Type} {ah : α → α → Bool} : ∀ {l : List α} {x : α}, MOrd ah l → (∀ z ∈ l, ah x z = false) → MOrd ah (l ++ [x])
  | [], x, _, _ => ⟨by simp, trivial⟩
  | a :: l, x, h, hx => ⟨fun z hz => by
      rcases List.mem_append.1 hz with hz | hz
      · exact h.1 z hz
      · simp only [List.mem_singleton] at hz; rw [hz]; exact hx a (by simp), ord_snoc h.2 (fun z hz => hx z (by simp [hz]))⟩
theorem str_at {α : Type} {ah : α → α → Bool} : ∀ {l : List α} {i j : Nat} (h : MStr l ah) (hij : i < j) (hj : j < l.length), ah (l[i]'(by omega)) l[j] = true
  | [], _, _, _, _, hj => by simp at hj
  | x :: l, 0, j + 1, h, _, hj => h.1 _ (List.getElem_mem _)
  | x :: l, i + 1, j + 1, h, hij, hj => str_at (l := l) h.2 (by omega) (by simpa using hj)
theorem str_of' {l : List D} (h : ∀ i (hi : i + 1 < l.length), ahead l[i] l[i + 1] = true) : MStr l ahead := str_of ahead_pre h
theorem str_take {l : List D} (h : MStr l ahead) {i : Nat} (hi : i < l.length) : ∀ z ∈ l.take i, ahead z l[i] = true := fun z hz => by
  obtain ⟨j, hj, rfl⟩ := List.getElem_of_mem hz
  rw [List.getElem_take]
  exact str_at h (by simp at hj; omega) hi
end Go.Proofs.Ytpnhjcedhcgglaa.M
namespace Go.Proofs.Ytpnhjcedhcgglaa
open Go.RowKit Mem
set_option linter.unusedVariables false
set_option maxRecDepth 100000

def upd {α : Type} (f : Nat → α) (k : Nat) (x : α) : Nat → α := fun j => if j = k then x else f j
theorem upd_same {α : Type} (f : Nat → α) (k : Nat) (x : α) : upd f k x k = x := by simp [upd]
theorem upd_other {α : Type} (f : Nat → α) {k j : Nat} (x : α) (h : j ≠ k) : upd f k x j = f j := by simp [upd, h]
/-- five lists of entries in memory of their own -/
def PartsAt (base pb : Nat) (V : Nat → Value) (Ds : Nat → List M.D) (w : World) : Prop :=
  base ≤ pb ∧ w.heap[pb]? = some (.cells #[V 0, V 1, V 2, V 3, V 4] 24 (0, 0)) ∧ (∀ j, j < 5 → DRow w base (V j) (Ds j) ∧ (V j).ownBlock ≠ some pb) ∧
    ∀ i j, i < 5 → j < 5 → i ≠ j → ∀ b, (V i).ownBlock = some b → (V j).ownBlock ≠ some b
theorem DRow.kept {w w' : World} {base : Nat} {v : Value} {ds : List M.D} {row : Option Nat} (h : DRow w base v ds) (hg : w.grownBy w' row) (hne : v.ownBlock = none ∨ v.ownBlock ≠ row) : DRow w' base v ds := World.ownsRow.kept h hg hne
theorem PartsAt.push {base pb k g cap m c : Nat} {A : Option Addr} {V : Nat → Value} {Ds : Nat → List M.D} {w w8 : World} {o : Obj} {x : M.D} (h : PartsAt base pb V Ds w) (hk : k < 5) (hV : V k = .slice A m c) (hm : (Ds k).length = m) (hb : base ≤ w.heap.size)
    (hrow : w8.ownsRow base 31 3 (.slice (some ⟨g, 0, none⟩) (m + 1) cap) (m + 1) (dcells (Ds k) ++ dcell x)) (hg : (w.alloc o).grownBy w8 (Value.ownBlock (.slice A m c))) (hat : Value.ownBlock (.slice A m c) = some g ∨ g = w.heap.size + 1) :
    PartsAt base pb (upd V k (.slice (some ⟨g, 0, none⟩) (m + 1) cap)) (upd Ds k (Ds k ++ [x])) (w8.setCell ⟨pb, k, none⟩ (.slice (some ⟨g, 0, none⟩) (m + 1) cap)) := by
  obtain ⟨h1, h2, h3, h4⟩ := h
  have hpb : pb < w.heap.size := heapLt h2
  have hne : Value.ownBlock (.slice A m c) ≠ some pb := by rw [← hV]; exact (h3 k hk).2
  have h8 : w8.heap[pb]? = some (.cells #[V 0, V 1, V 2, V 3, V 4] 24 (0, 0)) := (hg.block pb (by simp; omega) (fun e => hne e.symm)).trans (heapOld h2)
  have hgpb : g ≠ pb := fun e => by
    subst e
    rcases hat with e | e
    · exact hne e
    · omega
  have hset : w8.grownBy (w8.setCell ⟨pb, k, none⟩ (.slice (some ⟨g, 0, none⟩) (m + 1) cap)) (some pb) := ⟨rfl, rfl, rfl, by simp [World.setCell], fun i hi hne => heap_setCell_other w8 ⟨pb, k, none⟩ i _ (fun e => hne (by rw [e]))⟩
  have hob : ∀ v : Value, (v.ownBlock ≠ some pb) → v.ownBlock = none ∨ v.ownBlock ≠ some pb := fun v hv => .inr hv
  refine ⟨h1, ?_, fun j hj => ?_, fun i j hi hj hij b hb => ?_⟩
  · rw [heap_setCell_same w8 pb k _ _ _ h8]
    rcases (by omega : k = 0 ∨ k = 1 ∨ k = 2 ∨ k = 3 ∨ k = 4) with rfl | rfl | rfl | rfl | rfl <;> simp [upd]
  · by_cases hjk : j = k
    · subst hjk
      rw [upd_same, upd_same]
      have hr8 : DRow w8 base (.slice (some ⟨g, 0, none⟩) (m + 1) cap) (Ds j ++ [x]) := by
        unfold DRow
        rw [List.length_append, hm, dcells_app]
        simpa [dcells] using hrow
      have hob2 : Value.ownBlock (.slice (some ⟨g, 0, none⟩) (m + 1) cap) ≠ some pb := fun e => hgpb (by injection e)
      exact ⟨hr8.kept hset (.inr hob2), hob2⟩
    · rw [upd_other _ _ hjk, upd_other _ _ hjk]
      obtain ⟨a1, a2⟩ := h3 j hj
      refine ⟨?_, a2⟩
      have hdis : (V j).ownBlock = none ∨ (V j).ownBlock ≠ Value.ownBlock (.slice A m c) := by
        cases e : (V j).ownBlock with
        | none => exact .inl rfl
        | some b =>
          refine .inr (fun e2 => ?_)
          rw [← hV] at e2
          exact h4 k j hk hj (fun e => hjk e.symm) b e2.symm e
      have ha : DRow (w.alloc o) base (V j) (Ds j) := a1.below ((Below.refl _ w).alloc (Nat.le_refl _) o)
      exact (ha.kept hg hdis).kept hset (.inr a2)
  · have hlt : ∀ j, j < 5 → ∀ b, (V j).ownBlock = some b → b < w.heap.size := fun j hj b hb => (World.ownsRow.lt (h3 j hj).1 b hb).2
    by_cases hik : i = k
    · subst hik
      rw [upd_same] at hb
      rw [upd_other _ _ (fun e => hij e.symm)]
      have hgb : g = b := by injection hb
      subst hgb
      intro e
      rcases hat with e2 | e2
      · rw [← hV] at e2
        exact h4 i j hi hj hij g e2 e
      · have := hlt j hj g e; omega
    · rw [upd_other _ _ hik] at hb
      by_cases hjk : j = k
      · subst hjk
        rw [upd_same]
        intro e
        have hgb : g = b := by injection e
        subst hgb
        rcases hat with e2 | e2
        · rw [← hV] at e2
          exact h4 i j hi hj hij g hb e2
        · have := hlt i hi g hb; omega
      · rw [upd_other _ _ hjk]
        exact h4 i j hi hj hij b hb
theorem PartsAt.below {base pb : Nat} {V : Nat → Value} {Ds : Nat → List M.D} {w w' : World} (h : PartsAt base pb V Ds w) (hb : Below w.heap.size w w') : PartsAt base pb V Ds w' :=
  ⟨h.1, (hb.block pb (heapLt h.2.1)).trans h.2.1, fun j hj => ⟨(h.2.2.1 j hj).1.below hb, (h.2.2.1 j hj).2⟩, h.2.2.2⟩
/-- as one row of lists -/
theorem PartsAt.lists {base pb : Nat} {V : Nat → Value} {Ds : Nat → List M.D} {w : World} (h : PartsAt base pb V Ds w) :
    ∃ rs, RdLists w w.heap.size (some ⟨pb, 0, none⟩) 5 5 rs ∧ lists rs = [Ds 0, Ds 1, Ds 2, Ds 3, Ds 4] := by
  have each : ∀ j, j < 5 → ∃ r : Dr, r.ok w w.heap.size ∧ r.ds = Ds j ∧ r.v = V j := fun j hj => by
    obtain ⟨A, c, hv, hr⟩ := (h.2.2.1 j hj).1.open_
    exact ⟨⟨A, _, c, Ds j⟩, hr, rfl, hv.symm⟩
  obtain ⟨r0, a0, b0, c0⟩ := each 0 (by omega)
  obtain ⟨r1, a1, b1, c1⟩ := each 1 (by omega)
  obtain ⟨r2, a2, b2, c2⟩ := each 2 (by omega)
  obtain ⟨r3, a3, b3, c3⟩ := each 3 (by omega)
  obtain ⟨r4, a4, b4, c4⟩ := each 4 (by omega)
  refine ⟨[r0, r1, r2, r3, r4], ⟨rfl, Nat.le_refl _, by omega, fun r hr => ?_, fun _ => ⟨pb, 0, rfl, heapLt h.2.1, fun i hi => ?_⟩⟩, ?_⟩
  · simp only [List.mem_cons, List.not_mem_nil, or_false] at hr
    rcases hr with rfl | rfl | rfl | rfl | rfl <;> assumption
  · have hi' : i < 5 := hi
    rw [Nat.zero_add, cellAt i h.2.1]
    rcases (by omega : i = 0 ∨ i = 1 ∨ i = 2 ∨ i = 3 ∨ i = 4) with rfl | rfl | rfl | rfl | rfl <;> simp [c0, c1, c2, c3, c4]
  · unfold Go.Proofs.Ytpnhjcedhcgglaa.lists
    simp [b0, b1, b2, b3, b4]
theorem five_set {α : Type} (f : Nat → α) {k : Nat} (hk : k < 5) (x : α) : [upd f k x 0, upd f k x 1, upd f k x 2, upd f k x 3, upd f k x 4] = [f 0, f 1, f 2, f 3, f 4].set k x := by
  rcases (by omega : k = 0 ∨ k = 1 ∨ k = 2 ∨ k = 3 ∨ k = 4) with rfl | rfl | rfl | rfl | rfl <;> simp [upd]
theorem five_at {α : Type} (f : Nat → α) {k : Nat} (hk : k < 5) : [f 0, f 1, f 2, f 3, f 4][k]'(by simpa using hk) = f k := by
  rcases (by omega : k = 0 ∨ k = 1 ∨ k = 2 ∨ k = 3 ∨ k = 4) with rfl | rfl | rfl | rfl | rfl <;> rfl
/-- one entry more at the end of one of the five -/
theorem five_mall {Ds : Nat → List M.D} {k : Nat} (hk : k < 5) {x : M.D} (hx : ∀ z ∈ M.mall M.ahead [Ds 0, Ds 1, Ds 2, Ds 3, Ds 4], M.ahead z x = true) :
    M.mall M.ahead [upd Ds k (Ds k ++ [x]) 0, upd Ds k (Ds k ++ [x]) 1, upd Ds k (Ds k ++ [x]) 2, upd Ds k (Ds k ++ [x]) 3, upd Ds k (Ds k ++ [x]) 4] = M.mall M.ahead [Ds 0, Ds 1, Ds 2, Ds 3, Ds 4] ++ [x] := by
  rw [five_set Ds hk]
  have h := M.mall_snoc M.ahead_pre (l := [Ds 0, Ds 1, Ds 2, Ds 3, Ds 4]) (k := k) (by simpa using hk) x (fun y hy z hz => hx z (M.mall_mem.2 ⟨y, hy, hz⟩))
  rw [five_at Ds hk] at h
  exact h
theorem five_mem {Ds : Nat → List M.D} {k : Nat} (hk : k < 5) {z : M.D} (hz : z ∈ Ds k) : z ∈ M.mall M.ahead [Ds 0, Ds 1, Ds 2, Ds 3, Ds 4] :=
  M.mall_mem.2 ⟨Ds k, by rcases (by omega : k = 0 ∨ k = 1 ∨ k = 2 ∨ k = 3 ∨ k = 4) with rfl | rfl | rfl | rfl | rfl <;> simp, hz⟩
end Go.Proofs.Ytpnhjcedhcgglaa
