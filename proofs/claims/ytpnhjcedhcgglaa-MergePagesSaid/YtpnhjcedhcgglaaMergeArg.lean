/-
  The laws' arguments of layer 17: entries, lists of entries.
-/
import Derived.Test.YtpnhjcedhcgglaaMergeH
import Derived.Test.YtpnhjcedhcgglaaOpen
import Derived.Test.YtpnhjcedhcgglaaBulk
namespace Go.Proofs.Ytpnhjcedhcgglaa
open Go.RowKit Mem Go.ChangeShapes Go.WideShapes Go.Deep
set_option linter.unusedVariables false
set_option maxRecDepth 100000

theorem Try.docStruct : ∃ f0 f1 f2 : Field, Try.prog.underlying 31 = some (.struct #[f0, f1, f2]) ∧ (f0.type = 9 ∧ f0.offset = 0) ∧ (f1.type = 2 ∧ f1.offset = 1) ∧ (f2.type = 9 ∧ f2.offset = 2) :=
  ⟨_, _, _, Try.underlying31, ⟨rfl, rfl⟩, ⟨rfl, rfl⟩, ⟨rfl, rfl⟩⟩
theorem Try.docCells : Try.prog.cellsOf 31 = 3 := by kernel_rfl
theorem Try.docCells' : 0 < Try.prog.cellsOf 31 := by rw [Try.docCells]; omega
theorem Try.strCells : Try.prog.cellsOf 9 = 1 := by kernel_rfl
theorem Try.i64Cells : Try.prog.cellsOf 2 = 1 := by kernel_rfl
theorem Try.docBytes : Try.prog.bytesOf 31 = 40 := by kernel_rfl
theorem Try.listCells : Try.prog.cellsOf 24 = 1 := by kernel_rfl
theorem Try.listCells' : 0 < Try.prog.cellsOf 24 := by rw [Try.listCells]; omega
theorem str_bl (s : ByteArray) : (⟨s.data.toList.toArray⟩ : ByteArray) = s := by cases s; simp

section
variable {H : Type} {enc : TypeId × Value → H} {w : World} {base fuel : Nat} {held : Bool}
theorem bulk_mem : ∀ {l : List (DataW H)} {d : DataW H}, d ∈ l → Rows.uptoBulk d ≤ Rows.uptoBulkAll l := fun {l d} h => by
  obtain ⟨i, hi, e⟩ := List.getElem_of_mem h
  exact bulks.all_mem (j := i) (by rw [List.getElem?_eq_getElem hi, e])

theorem doc_cells {cs : List Value} {x : DataW H × List MemPlace} (h : DataW.trod enc Try.prog w base (fun _ => true) held fuel 31 cs = some x) :
    ∃ d : M.D, cs = [.string ⟨d.id.toArray⟩, .int .i64 d.time, .string ⟨d.text.toArray⟩] ∧ (-9223372036854775808 ≤ d.time ∧ d.time ≤ 9223372036854775807) ∧ d.text.length ≤ Rows.uptoBulk x.1 := by
  obtain ⟨f0, f1, f2, hs, ⟨t0, o0⟩, ⟨t1, o1⟩, ⟨t2, o2⟩⟩ := Try.docStruct
  obtain ⟨xs, n, _, hx, hl, hlen, hf⟩ := DataW.trod_struct hs h
  rw [Try.docCells] at hl
  have hlen' : xs.length = 3 := by simpa using hlen
  match cs, hl, xs, hlen' with
  | [c0, c1, c2], _, [x0, x1, x2], _ =>
    have g0 := hf 0 f0 rfl
    have g1 := hf 1 f1 rfl
    have g2 := hf 2 f2 rfl
    rw [t0, o0, Try.strCells] at g0
    rw [t1, o1, Try.i64Cells] at g1
    rw [t2, o2, Try.strCells] at g2
    obtain ⟨s1, rfl, _⟩ := open_str (v := c0) Try.underlying9 g0
    obtain ⟨z, rfl, hz1, hz2⟩ := open_i64 (v := c1) Try.underlying2 g1
    obtain ⟨s2, e2, hx2, _⟩ := DataW.trod_string Try.underlying9 g2
    simp at e2
    subst e2
    refine ⟨⟨s1.data.toList, z, s2.data.toList⟩, by simp only [str_bl], ⟨hz1, hz2⟩, ?_⟩
    subst hx
    rw [hx2]
    simp only [List.map_cons, List.map_nil, Rows.uptoBulk, Rows.uptoBulkAll]
    omega

/-- a slice's elements, each with its cells, its reading, and less bulk than the whole -/
theorem open_elemsB {t e : TypeId} {v : Value} {x : DataW H × List MemPlace} (ht : Try.prog.underlying t = some (.slice e)) (hpos : 0 < Try.prog.cellsOf e) (h : DataW.trod enc Try.prog w base (fun _ => true) held fuel t [v] = some x) :
    ∃ A len cap, v = .slice A len cap ∧ len ≤ cap ∧ cap ≤ 9223372036854775807 ∧ cap ≤ Rows.uptoBulk x.1 ∧ (0 < len → ∃ b off, A = some ⟨b, off, none⟩ ∧ b < w.heap.size ∧ ∃ n, ∃ D : Nat → DataW H, Rows.uptoBulkAll ((List.range len).map D) ≤ Rows.uptoBulk x.1 ∧ ∀ i, i < len → ∃ (cs : List Value) (y : DataW H × List MemPlace), cs.length = Try.prog.cellsOf e ∧
      (∀ j, j < Try.prog.cellsOf e → w.cell? ⟨b, off + (i * Try.prog.cellsOf e + j), none⟩ = cs[j]?) ∧ DataW.trod enc Try.prog w base (fun _ => true) held n e cs = some y ∧ y.1 = D i) := by
  rcases open_slice ht h with ⟨hcs, _⟩ | ⟨a, len, cap, m, n, D, Pl, hcs, hb, hl, hm, hmm, hx, hi⟩
  · simp at hcs
    exact ⟨none, 0, 0, hcs, Nat.le_refl _, by omega, by omega, fun h => absurd h (by omega)⟩
  · simp at hcs
    simp only [if_true] at hmm
    subst hmm
    subst hx
    refine ⟨some a, len, m, hcs, hl, by simpa only [maxLen] using hm, ?_, fun hlen => ?_⟩
    · have h1 := bulks.many ((List.range len).map D)
      have h2 := bulks.many ((List.range (m - len)).map fun j => D (len + j))
      simp only [List.length_map, List.length_range] at h1 h2
      simp only [Rows.uptoBulk]; omega
    have cellsAt : ∀ i, i < len → ∃ cs : List Value, cs.length = Try.prog.cellsOf e ∧ (∀ j, j < Try.prog.cellsOf e → w.cell? (a.add (i * Try.prog.cellsOf e + j)) = cs[j]?) ∧ DataW.trod enc Try.prog w base (fun _ => true) held n e cs = some (D i, Pl i) := fun i hil => by
      obtain ⟨cs, hc, htr⟩ := hi i (by omega)
      obtain ⟨_, hcl, hat⟩ := World.cells?_some hc
      exact ⟨cs, hcl, fun j hj => by rw [← Go.Deep.add_add]; exact hat j hj, htr⟩
    obtain ⟨cs0, hc0, hat0, _⟩ := cellsAt 0 hlen
    obtain ⟨b, off, spot⟩ := a
    have hcell0 := hat0 0 hpos
    have hsome : ∃ u, w.cell? ((⟨b, off, spot⟩ : Addr).add (0 * Try.prog.cellsOf e + 0)) = some u := ⟨cs0[0]'(by omega), by rw [hcell0]; exact List.getElem?_eq_getElem (by omega)⟩
    obtain ⟨u, hu⟩ := hsome
    have hspot : spot = none := by simpa [Addr.add] using World.cell?_spot hu
    subst hspot
    refine ⟨b, off, rfl, by have := World.block_lt_of_cell? w _ hu; rw [add_none] at this; exact this, n, D, by simp only [Rows.uptoBulk]; omega, fun i hil => ?_⟩
    obtain ⟨cs, hcl, hat, htr⟩ := cellsAt i hil
    exact ⟨cs, _, hcl, fun j hj => by have := hat j hj; rwa [add_none] at this, htr, rfl⟩

theorem docs_cell {v : Value} {x : DataW H × List MemPlace} (h : DataW.trod enc Try.prog w base (fun _ => true) held fuel 24 [v] = some x) :
    ∃ A n c ds, v = .slice A n c ∧ RdDocs w w.heap.size A n c ds ∧ c ≤ Rows.uptoBulk x.1 := by
  obtain ⟨A0, n0, c0, rfl, hl, hm, hcb, hel⟩ := open_elemsB Try.underlying24 Try.docCells' h
  rcases Nat.eq_zero_or_pos n0 with h0 | h0
  · subst h0
    exact ⟨A0, 0, c0, [], rfl, ⟨rfl, hl, hm, fun h => absurd h (by omega)⟩, hcb⟩
  · obtain ⟨b, off, rfl, hb, m, D, _, hi⟩ := hel h0
    have each : ∀ i, i < n0 → ∃ x : M.D, w.cell? ⟨b, off + i * 3, none⟩ = some (.string ⟨x.id.toArray⟩) ∧ w.cell? ⟨b, off + i * 3 + 1, none⟩ = some (.int .i64 x.time) ∧ w.cell? ⟨b, off + i * 3 + 2, none⟩ = some (.string ⟨x.text.toArray⟩) := fun i hin => by
      obtain ⟨cs, y, hlen, hat, htr, _⟩ := hi i hin
      obtain ⟨q, rfl, hz, hq⟩ := doc_cells htr
      rw [Try.docCells] at hat
      refine ⟨q, ?_, ?_, ?_⟩
      · have := hat 0 (by omega); rwa [Nat.add_zero] at this
      · have := hat 1 (by omega); rwa [← Nat.add_assoc] at this
      · have := hat 2 (by omega); rwa [← Nat.add_assoc] at this
    obtain ⟨f, hfx⟩ := Go.Deep.choose_lt each
    refine ⟨_, n0, c0, (List.range n0).map f, rfl, ⟨by simp, hl, hm, fun _ => ⟨b, off, rfl, hb, fun i hi => ?_⟩⟩, hcb⟩
    have hin : i < n0 := by simpa using hi
    have e : ((List.range n0).map f)[i] = f i := by simp
    rw [e]
    exact hfx i hin

theorem open_docs17 {r : Reach} {b0 : Nat} {v : Value} {d : DataW H} {p : List MemPlace} (hv : Value.okWide Try.prog w r b0 24 v) (h : DataW.Trod enc Try.prog w base (fun _ => true) held 24 v d p) (hw : Light Try.prog 24 d) :
    ∃ A n c ds, v = .slice A n c ∧ RdDocs w w.heap.size A n c ds ∧ c * 40 ≤ 140737488351232 := by
  obtain ⟨A0, n0, c0, rfl⟩ := Go.WideShapes.okWide_slice Try.underlying24 hv
  obtain ⟨fuel, hf⟩ := h
  obtain ⟨A, n, c, ds, hcs, hrd, _⟩ := docs_cell (v := .slice A0 n0 c0) (by simpa [Value.cells] using hf)
  obtain ⟨A', n', c', hcs', hl, hm, hcb, hel⟩ := open_elems Try.underlying24 Try.docCells' (v := .slice A0 n0 c0) (by simpa [Value.cells] using hf) hw
  rw [hcs] at hcs'
  injection hcs' with e1 e2 e3
  subst e1 e2 e3
  rw [Try.docBytes] at hcb
  simp only [reachBytes] at hcb
  exact ⟨A, n, c, ds, hcs, hrd, by omega⟩

theorem open_lists {r : Reach} {b0 : Nat} {v : Value} {d : DataW H} {p : List MemPlace} (hv : Value.okWide Try.prog w r b0 22 v) (h : DataW.Trod enc Try.prog w base (fun _ => true) held 22 v d p) :
    ∃ A n c rs, v = .slice A n c ∧ RdLists w w.heap.size A n c rs ∧ totD rs ≤ Rows.uptoBulk d := by
  obtain ⟨A0, n0, c0, rfl⟩ := Go.WideShapes.okWide_slice Try.underlying22 hv
  obtain ⟨fuel, hf⟩ := h
  obtain ⟨A, n, c, hcs, hl, hm, hcb, hel⟩ := open_elemsB Try.underlying22 Try.listCells' (v := .slice A0 n0 c0) (by simpa [Value.cells] using hf)
  injection hcs with e1 e2 e3
  subst e1 e2 e3
  rcases Nat.eq_zero_or_pos n0 with h0 | h0
  · subst h0
    exact ⟨A0, 0, c0, [], rfl, ⟨rfl, hl, hm, by simp, fun h => absurd h (by omega)⟩, by simp [totD]⟩
  · obtain ⟨b, off, rfl, hb, m, D, hsum, hi⟩ := hel h0
    have each : ∀ i, i < n0 → ∃ x : Dr, x.ok w w.heap.size ∧ x.n ≤ Rows.uptoBulk (D i) ∧ w.cell? ⟨b, off + i, none⟩ = some x.v := fun i hin => by
      obtain ⟨cs, y, hlen, hat, htr, hy⟩ := hi i hin
      rw [Try.listCells] at hlen hat
      match cs, hlen with
      | [u], _ =>
        obtain ⟨A, n, c, ds, rfl, hr, hc⟩ := docs_cell htr
        have := hat 0 (by omega)
        rw [Nat.mul_one, Nat.add_zero] at this
        exact ⟨⟨A, n, c, ds⟩, hr, by rw [← hy]; have := hr.2.1; show n ≤ _; omega, this⟩
    obtain ⟨f, hfx⟩ := Go.Deep.choose_lt each
    have hsums : ∀ l : List Nat, (∀ i ∈ l, i < n0) → totD (l.map f) ≤ Rows.uptoBulkAll (l.map D) := by
      intro l
      induction l with
      | nil => intro _; simp [totD]
      | cons a l ih =>
        intro hl
        have h1 := ih (fun i hi => hl i (by simp [hi]))
        have h2 := (hfx a (hl a (by simp))).2.1
        have e : totD ((a :: l).map f) = (f a).n + totD (l.map f) := by simp [totD]
        rw [e, List.map_cons]
        simp only [Rows.uptoBulkAll]
        omega
    refine ⟨_, n0, c0, (List.range n0).map f, rfl, ⟨by simp, hl, hm, fun x hx => ?_, fun _ => ⟨b, off, rfl, hb, fun i hi => ?_⟩⟩, Nat.le_trans (hsums _ (fun i hi => List.mem_range.1 hi)) hsum⟩
    · obtain ⟨i, hi, rfl⟩ := List.mem_map.1 hx
      exact (hfx i (List.mem_range.1 hi)).1
    · have hin : i < n0 := by simpa using hi
      have e : ((List.range n0).map f)[i] = f i := by simp
      rw [e]
      exact (hfx i hin).2.2
end
end Go.Proofs.Ytpnhjcedhcgglaa
