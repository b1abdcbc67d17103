/-
  Rows of entries in memory: what can be read ('RdDocs'), what the call owns ('DRow'); append of many.
-/
import Derived.Test.YtpnhjcedhcgglaaMergeP
namespace Go.Proofs.Ytpnhjcedhcgglaa
open Go.RowKit Mem Go.ChangeShapes Go.Sort
set_option linter.unusedVariables false
set_option maxRecDepth 100000

theorem info_of {P : Program} {e : TypeId} {z : Value} {s b : Nat} (h : (P.info? e).map (fun i => (i.zero, i.size, i.bytes)) = some (some z, s, b)) : ∃ i, P.info? e = some i ∧ i.zero = some z ∧ i.size = s ∧ i.bytes = b := by
  cases hq : P.info? e with
  | none => simp [hq] at h
  | some i => rw [hq] at h; simp at h; exact ⟨i, rfl, h.1, h.2.1, h.2.2⟩
/-- entries, one behind the other -/
def RdDocs (w : World) (B : Nat) (A : Option Addr) (n c : Nat) (ds : List M.D) : Prop :=
  n = ds.length ∧ n ≤ c ∧ c ≤ 9223372036854775807 ∧ (0 < n → ∃ b off, A = some ⟨b, off, none⟩ ∧ b < B ∧ ∀ i (hi : i < ds.length), w.cell? ⟨b, off + i * 3, none⟩ = some (.string ⟨ds[i].id.toArray⟩) ∧ w.cell? ⟨b, off + i * 3 + 1, none⟩ = some (.int .i64 ds[i].time) ∧ w.cell? ⟨b, off + i * 3 + 2, none⟩ = some (.string ⟨ds[i].text.toArray⟩))

theorem Try.infoDoc : (Try.prog.info? 31).map (fun i => (i.zero, i.size, i.bytes)) = some (some (.agg #[.string ⟨#[]⟩, .int .i64 0, .string ⟨#[]⟩]), 3, 40) := by kernel_rfl
def dcell (x : M.D) : List Value := [.string ⟨x.id.toArray⟩, .int .i64 x.time, .string ⟨x.text.toArray⟩]
def dcells (ds : List M.D) : List Value := ds.flatMap dcell
theorem dcells_len (l : List M.D) : (dcells l).length = l.length * 3 := by
  induction l with
  | nil => rfl
  | cons a r ih => show (dcell a ++ dcells r).length = _; rw [List.length_append, ih]; simp [dcell]; omega
theorem dcells_app (l r : List M.D) : dcells (l ++ r) = dcells l ++ dcells r := by simp [dcells]
theorem dcells_at {l : List M.D} {i : Nat} (hi : i < l.length) : (dcells l)[i * 3]? = some (.string ⟨l[i].id.toArray⟩) ∧ (dcells l)[i * 3 + 1]? = some (.int .i64 l[i].time) ∧ (dcells l)[i * 3 + 2]? = some (.string ⟨l[i].text.toArray⟩) := by
  induction l generalizing i with
  | nil => simp at hi
  | cons a r ih =>
    have e : dcells (a :: r) = .string ⟨a.id.toArray⟩ :: .int .i64 a.time :: .string ⟨a.text.toArray⟩ :: dcells r := rfl
    rw [e]
    cases i with
    | zero => simp
    | succ j =>
      have := ih (i := j) (by simpa using hi)
      rw [show (j + 1) * 3 = j * 3 + 3 by omega]
      simpa using this

/-- the slice v holds the entries ds, in memory of the call's own -/
def DRow (w : World) (base : Nat) (v : Value) (ds : List M.D) : Prop := w.ownsRow base 31 3 v ds.length (dcells ds)
theorem DRow.below {w w' : World} {base : Nat} {v : Value} {ds : List M.D} (h : DRow w base v ds) (hb : Below w.heap.size w w') : DRow w' base v ds := by
  refine World.ownsRow.kept (row := none) h ⟨hb.os, hb.tape, hb.output, hb.size, fun k hk _ => hb.block k hk⟩ ?_
  cases hv : v.ownBlock <;> simp
theorem DRow.less {w : World} {base b' : Nat} {v : Value} {ds : List M.D} (h : DRow w base v ds) (hb : b' ≤ base) : DRow w b' v ds := by
  refine ⟨h.1, ?_⟩
  rcases h.2 with h2 | ⟨g, cap, cur, hv, hg, r⟩
  · exact .inl h2
  · exact .inr ⟨g, cap, cur, hv, by omega, r⟩
/-- what is owned can be read -/
theorem DRow.open_ {w : World} {base : Nat} {v : Value} {ds : List M.D} (h : DRow w base v ds) : ∃ A c, v = .slice A ds.length c ∧ RdDocs w w.heap.size A ds.length c ds := by
  have hx := h
  rcases h.2 with ⟨rfl, h0⟩ | ⟨g, cap, cur, rfl, hg, hh, hnc, hcm, _⟩
  · exact ⟨none, 0, by rw [h0], rfl, by omega, by omega, fun hp => absurd hp (by omega)⟩
  · refine ⟨some ⟨g, 0, none⟩, cap, rfl, rfl, hnc, by simpa only [maxLen] using hcm, fun hp => ⟨g, 0, rfl, (Array.getElem?_eq_some_iff.1 hh).1, fun i hi => ?_⟩⟩
    obtain ⟨a1, a2, a3⟩ := dcells_at hi
    rw [Nat.zero_add]
    refine ⟨?_, ?_, ?_⟩
    · rw [World.ownsRow.cellAt hx (i * 3) (by rw [← dcells_len]; exact (List.getElem?_eq_some_iff.1 a1).1), a1]
    · rw [World.ownsRow.cellAt hx (i * 3 + 1) (by rw [← dcells_len]; exact (List.getElem?_eq_some_iff.1 a2).1), a2]
    · rw [World.ownsRow.cellAt hx (i * 3 + 2) (by rw [← dcells_len]; exact (List.getElem?_eq_some_iff.1 a3).1), a3]

def DInv (w : World) (v : Value) (ds : List M.D) (wr : World) : Prop := DRow wr w.heap.size v ds ∧ Below w.heap.size w wr
theorem DInv.next {w wr w9 : World} {g cap m c : Nat} {A : Option Addr} {ds : List M.D} {o : Obj} {x : M.D} (h : DInv w (.slice A m c) ds wr) (hm : ds.length = m)
    (hrow : w9.ownsRow w.heap.size 31 3 (.slice (some ⟨g, 0, none⟩) (m + 1) cap) (m + 1) (dcells ds ++ dcell x)) (hg : (wr.alloc o).grownBy w9 (Value.ownBlock (.slice A m c))) :
    DInv w (.slice (some ⟨g, 0, none⟩) (m + 1) cap) (ds ++ [x]) w9 := by
  obtain ⟨h1, h2⟩ := h
  refine ⟨?_, (h2.alloc h2.size _).grown hg (by have := h2.size; simp; omega) (fun k' hk' => (World.ownsRow.lt h1 k' hk').1)⟩
  unfold DRow
  rw [List.length_append, hm, dcells_app]
  simpa [dcells] using hrow

theorem dcells_one (ds : List M.D) : ∀ u ∈ dcells ds, u.oneCell' = true := by
  intro u hu
  obtain ⟨d, _, hd⟩ := List.mem_flatMap.1 hu
  simp [dcell] at hd
  rcases hd with rfl | rfl | rfl <;> rfl

section
variable {w w' : World} {B B' n c : Nat} {A : Option Addr} {ds : List M.D}
theorem RdDocs.len (h : RdDocs w B A n c ds) : n = ds.length := h.1
theorem RdDocs.cap (h : RdDocs w B A n c ds) : n ≤ c := h.2.1
theorem RdDocs.max (h : RdDocs w B A n c ds) : c ≤ 9223372036854775807 := h.2.2.1
theorem RdDocs.at_ {i : Nat} (h : RdDocs w B A n c ds) (hi : i < ds.length) : ∃ b off, A = some ⟨b, off, none⟩ ∧ b < B ∧ w.cell? ⟨b, off + i * 3, none⟩ = some (.string ⟨ds[i].id.toArray⟩) ∧ w.cell? ⟨b, off + i * 3 + 1, none⟩ = some (.int .i64 ds[i].time) ∧ w.cell? ⟨b, off + i * 3 + 2, none⟩ = some (.string ⟨ds[i].text.toArray⟩) := by
  obtain ⟨b, off, e, hb, hc⟩ := h.2.2.2 (by have := h.1; omega)
  exact ⟨b, off, e, hb, hc i hi⟩
theorem RdDocs.more (h : RdDocs w B A n c ds) (hB : B ≤ B') : RdDocs w B' A n c ds := ⟨h.1, h.2.1, h.2.2.1, fun hn => by
  obtain ⟨b, off, e, hb, hc⟩ := h.2.2.2 hn
  exact ⟨b, off, e, by omega, hc⟩⟩
theorem RdDocs.below (h : RdDocs w B A n c ds) (hb : Below B w w') : RdDocs w' B A n c ds := ⟨h.1, h.2.1, h.2.2.1, fun hn => by
  obtain ⟨b, off, e, hb1, hc⟩ := h.2.2.2 hn
  exact ⟨b, off, e, hb1, fun i hi => ⟨(hb.cell (p := ⟨b, off + i * 3, none⟩) hb1).trans (hc i hi).1, (hb.cell (p := ⟨b, off + i * 3 + 1, none⟩) hb1).trans (hc i hi).2.1, (hb.cell (p := ⟨b, off + i * 3 + 2, none⟩) hb1).trans (hc i hi).2.2⟩⟩⟩
/-- readable in a world that has only grown -/
theorem RdDocs.on (h : RdDocs w w.heap.size A n c ds) (hb : Below w.heap.size w w') : RdDocs w' w'.heap.size A n c ds := (h.below hb).more hb.size
theorem RdDocs.drew (h : RdDocs w B A n c ds) : RdDocs w.drew B A n c ds := h
/-- s[:k] -/
theorem RdDocs.upto {k : Nat} (h : RdDocs w B A n c ds) (hk : k ≤ n) : RdDocs w B A k c (ds.take k) := by
  refine ⟨by have := h.1; simp; omega, by have := h.2.1; omega, h.2.2.1, fun hn => ?_⟩
  obtain ⟨b, off, rfl, hb, hc⟩ := h.2.2.2 (by omega)
  refine ⟨b, off, rfl, hb, fun j hj => ?_⟩
  rw [List.getElem_take]
  exact hc j (by simp at hj; omega)
/-- s[k:] -/
theorem RdDocs.from_ {k : Nat} (h : RdDocs w B A n c ds) (hk : k ≤ n) : RdDocs w B (if c = k then A else A.map (·.add (k * 3))) (n - k) (c - k) (ds.drop k) := by
  refine ⟨by rw [List.length_drop, h.1], by have := h.2.1; omega, by have := h.2.2.1; omega, fun hn => ?_⟩
  obtain ⟨b, off, rfl, hb, hc⟩ := h.2.2.2 (by omega)
  have := h.2.1; have h1 := h.1
  rw [if_neg (by omega)]
  refine ⟨b, off + k * 3, by simp [add_none], hb, fun j hj => ?_⟩
  have hj' : k + j < ds.length := by simp at hj; omega
  have := hc (k + j) hj'
  rw [List.getElem_drop]
  rw [show off + k * 3 + j * 3 = off + (k + j) * 3 by omega]
  exact this
theorem RdDocs.none_ : RdDocs w B none 0 0 [] := ⟨rfl, Nat.le_refl _, Nat.zero_le _, fun h => absurd h (by omega)⟩
theorem RdDocs.cells (h : RdDocs w B A n c ds) : (A = none → n = 0) ∧ ∀ ad, A = some ad → ∀ j u, (dcells ds)[j]? = some u → w.cell? (ad.add j) = some u := by
  refine ⟨fun hA => ?_, fun ad hA j u hu => ?_⟩
  · rcases Nat.eq_zero_or_pos n with h0 | h0
    · exact h0
    · obtain ⟨b, off, e, _⟩ := h.2.2.2 h0
      rw [hA] at e; cases e
  · have hj := (List.getElem?_eq_some_iff.1 hu).1
    rw [dcells_len] at hj
    have hi : j / 3 < ds.length := by omega
    obtain ⟨b, off, e, hb, c0, c1, c2⟩ := h.at_ hi
    rw [hA] at e
    injection e with e
    subst e
    rw [add_none]
    obtain ⟨a0, a1, a2⟩ := dcells_at hi
    have hjj : j = j / 3 * 3 ∨ j = j / 3 * 3 + 1 ∨ j = j / 3 * 3 + 2 := by omega
    generalize hq : j / 3 = q at *
    rcases hjj with e | e | e <;> subst e
    · rw [c0, ← hu, a0]
    · rw [← Nat.add_assoc, c1, ← hu, a1]
    · rw [← Nat.add_assoc, c2, ← hu, a2]
end

section
variable {P : Program} (w : World)
/-- append(v, x...) at entries: v owned, x whatever can be read -/
theorem run_appD (base B : Nat) (t ty e : TypeId) (i : TypeInfo) (z : Value) (ht : P.underlying t = some (.slice e)) (hi : P.info? e = some i) (hz : i.zero = some z)
    (hsize : i.size = 3) (hby : i.bytes = 40) (hzs : z.cells.size = 3) (v : Value) (m0 : Nat) (xs : List Value) (hown : w.ownsRow base e 3 v m0 xs)
    (A : Option Addr) (m c : Nat) (ys : List M.D) (hr : RdDocs w B A m c ys) (hroom : (m0 + m) * 40 ≤ 140737488355328) (hbase : base ≤ w.heap.size) :
    ∃ v' w', (Builtin.append_ #[t, t] ty #[v, .slice A m c]).run P w = .ok v' w' ∧ w'.ownsRow base e 3 v' (m0 + m) (xs ++ dcells ys) ∧ w.grownBy w' v.ownBlock ∧
      (v'.ownBlock = v.ownBlock ∨ v'.ownBlock = some w.heap.size) := by
  have hm := hr.1
  obtain ⟨hc0, hc1⟩ := hr.cells
  rcases A with _ | ad
  · have h0 := hc0 rfl
    subst h0
    have hn : ys = [] := List.eq_nil_of_length_eq_zero hm.symm
    subst hn
    refine ⟨v, w, ?_, by simpa [dcells] using hown, ⟨rfl, rfl, rfl, Nat.le_refl _, fun _ _ _ => rfl⟩, .inl rfl⟩
    rcases hown.2 with ⟨rfl, h00⟩ | ⟨g, cap, cur, rfl, _, _, hnc, _⟩
    · simp [Builtin.append_, run_underlying ht, sizeOf, typeInfo, hi, Builtin.lenOf, Builtin.firstCells]
    · simp [Builtin.append_, run_underlying ht, sizeOf, typeInfo, hi, Builtin.lenOf, Builtin.firstCells, hnc, storeCells]
  · obtain ⟨v', w', hrun, h2, h3, _, h5⟩ := run_append_own_at (P := P) w base t ty e i z 3 40 ht hi hz hsize hby hzs (by omega) v m0 xs hown ad m c (dcells ys) (by rw [dcells_len]; omega) (hc1 ad rfl) (dcells_one ys)
      (by simp only [maxLen]; omega) hroom hbase
    exact ⟨v', w', hrun, h2, h3, h5⟩

theorem wpList_appD {ops : Array Oper} {rest : List Oper} {o : Oper} {a : Act} {Q : Exit → Act → World → Prop} (hgd : o.guard = none) (s x : Operand) (t : TypeId)
    (ho : o.op = .call { callee := .builtin .append, args := #[s, x], argTypes := #[t, t] })
    (base B : Nat) (e : TypeId) (i : TypeInfo) (z : Value) (ht : P.underlying t = some (.slice e)) (hi : P.info? e = some i) (hz : i.zero = some z)
    (hsize : i.size = 3) (hby : i.bytes = 40) (hzs : z.cells.size = 3) (v : Value) (m0 : Nat) (xs : List Value) (hown : w.ownsRow base e 3 v m0 xs) (hs : a.eval s = v)
    (A : Option Addr) (m c : Nat) (ys : List M.D) (hr : RdDocs w B A m c ys) (hx : a.eval x = .slice A m c) (hroom : (m0 + m) * 40 ≤ 140737488355328) (hbase : base ≤ w.heap.size)
    (h : ∀ v' w', w'.ownsRow base e 3 v' (m0 + m) (xs ++ dcells ys) → w.grownBy w' v.ownBlock → (v'.ownBlock = v.ownBlock ∨ v'.ownBlock = some w.heap.size) → wpList P ops Q rest (a.put o.dst v') w') : wpList P ops Q (o :: rest) a w := by
  refine wpList_plain hgd fun K hK => ?_
  obtain ⟨v', w', hrun, h2, h3, h4⟩ := run_appD (P := P) w base B t o.type e i z ht hi hz hsize hby hzs v m0 xs hown A m c ys hr hroom hbase
  unfold Oper.wp execOp
  simp only [ho, resolve, invoke, builtin, Sem.run_bind, Sem.run_pure, Result.andThen_ok, List.map_toArray, List.map_cons, List.map_nil, hs, hx, hrun]
  exact hK _ _ (h v' w' h2 h3 h4)
end

/-- as a row that the call owns, and nothing below has turned -/
theorem DInv.of_row {w wr w9 : World} {v v9 : Value} {ds ys : List M.D} {k : Nat} (h : DInv w v ds wr) (hk : k = ds.length + ys.length)
    (hrow : w9.ownsRow w.heap.size 31 3 v9 k (dcells ds ++ dcells ys)) (hg : wr.grownBy w9 v.ownBlock) : DInv w v9 (ds ++ ys) w9 := by
  obtain ⟨h1, h2⟩ := h
  refine ⟨?_, h2.grown hg h2.size (fun k' hk' => (World.ownsRow.lt h1 k' hk').1)⟩
  unfold DRow
  rw [List.length_append, dcells_app, ← hk]
  exact hrow
theorem DInv.form {w wr : World} {v : Value} {ds : List M.D} (h : DInv w v ds wr) : ∃ A c, v = .slice A ds.length c ∧ RdDocs wr wr.heap.size A ds.length c ds := h.1.open_
theorem DInv.start (w : World) : DInv w (.slice none 0 0) [] w := ⟨World.ownsRow_nil _ _ _ _, Below.refl _ _⟩
end Go.Proofs.Ytpnhjcedhcgglaa
