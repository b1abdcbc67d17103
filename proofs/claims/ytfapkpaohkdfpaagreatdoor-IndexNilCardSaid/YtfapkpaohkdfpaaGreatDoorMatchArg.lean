/-
  The laws' arguments of layer 7: an entry, entries, a query.
-/
import Derived.Test.YtfapkpaohkdfpaaGreatDoorMatchD
import Derived.Test.YtfapkpaohkdfpaaGreatDoorOpen
import Derived.Test.YtfapkpaohkdfpaaGreatDoorBulk
namespace Go.Proofs.YtfapkpaohkdfpaaGreatDoor
open Go.RowKit Mem Go.ChangeShapes Go.WideShapes Go.Deep
set_option linter.unusedVariables false
set_option maxRecDepth 100000

theorem Tryz.docStruct : ∃ f0 f1 f2 : Field, Tryz.prog.underlying 40 = some (.struct #[f0, f1, f2]) ∧ (f0.type = 9 ∧ f0.offset = 0) ∧ (f1.type = 2 ∧ f1.offset = 1) ∧ (f2.type = 9 ∧ f2.offset = 2) :=
  ⟨_, _, _, Tryz.underlying40, ⟨rfl, rfl⟩, ⟨rfl, rfl⟩, ⟨rfl, rfl⟩⟩
theorem Tryz.docCells : Tryz.prog.cellsOf 40 = 3 := by kernel_rfl
theorem Tryz.docCells' : 0 < Tryz.prog.cellsOf 40 := by rw [Tryz.docCells]; omega
theorem Tryz.strCells : Tryz.prog.cellsOf 9 = 1 := by kernel_rfl
theorem Tryz.i64Cells : Tryz.prog.cellsOf 2 = 1 := by kernel_rfl
theorem Tryz.u8Cells : Tryz.prog.cellsOf 5 = 1 := by kernel_rfl
theorem Tryz.kidsCells : Tryz.prog.cellsOf 23 = 1 := by kernel_rfl
theorem Tryz.queryStruct : ∃ f0 f1 f2 f3 : Field, Tryz.prog.underlying 25 = some (.struct #[f0, f1, f2, f3]) ∧ (f0.type = 5 ∧ f0.offset = 0) ∧ (f1.type = 9 ∧ f1.offset = 1) ∧ (f2.type = 2 ∧ f2.offset = 2) ∧ (f3.type = 23 ∧ f3.offset = 3) :=
  ⟨_, _, _, _, Tryz.underlying25, ⟨rfl, rfl⟩, ⟨rfl, rfl⟩, ⟨rfl, rfl⟩, ⟨rfl, rfl⟩⟩
theorem Tryz.queryCells : Tryz.prog.cellsOf 25 = 4 := by kernel_rfl
theorem Tryz.queryCells' : 0 < Tryz.prog.cellsOf 25 := by rw [Tryz.queryCells]; omega

instance : Inhabited Q := ⟨.mk 0 [] 0 none 0 0 []⟩
theorem str_bl (s : ByteArray) : (⟨s.data.toList.toArray⟩ : ByteArray) = s := by cases s; simp

section
variable {H : Type} {enc : TypeId × Value → H} {w : World} {base fuel : Nat} {held : Bool}
theorem bulk_mem : ∀ {l : List (DataW H)} {d : DataW H}, d ∈ l → Rows.uptoBulk d ≤ Rows.uptoBulkAll l := fun {l d} h => by
  obtain ⟨i, hi, e⟩ := List.getElem_of_mem h
  exact bulks.all_mem (j := i) (by rw [List.getElem?_eq_getElem hi, e])

theorem doc_cells {cs : List Value} {x : DataW H × List MemPlace} (h : DataW.trod enc Tryz.prog w base (fun _ => true) held fuel 40 cs = some x) :
    ∃ d : M.D, cs = [.string ⟨d.id.toArray⟩, .int .i64 d.time, .string ⟨d.text.toArray⟩] ∧ (-9223372036854775808 ≤ d.time ∧ d.time ≤ 9223372036854775807) ∧ d.text.length ≤ Rows.uptoBulk x.1 := by
  obtain ⟨f0, f1, f2, hs, ⟨t0, o0⟩, ⟨t1, o1⟩, ⟨t2, o2⟩⟩ := Tryz.docStruct
  obtain ⟨xs, n, _, hx, hl, hlen, hf⟩ := DataW.trod_struct hs h
  rw [Tryz.docCells] at hl
  have hlen' : xs.length = 3 := by simpa using hlen
  match cs, hl, xs, hlen' with
  | [c0, c1, c2], _, [x0, x1, x2], _ =>
    have g0 := hf 0 f0 rfl
    have g1 := hf 1 f1 rfl
    have g2 := hf 2 f2 rfl
    rw [t0, o0, Tryz.strCells] at g0
    rw [t1, o1, Tryz.i64Cells] at g1
    rw [t2, o2, Tryz.strCells] at g2
    obtain ⟨s1, rfl, _⟩ := open_str (v := c0) Tryz.underlying9 g0
    obtain ⟨z, rfl, hz1, hz2⟩ := open_i64 (v := c1) Tryz.underlying2 g1
    obtain ⟨s2, e2, hx2, _⟩ := DataW.trod_string Tryz.underlying9 g2
    simp at e2
    subst e2
    refine ⟨⟨s1.data.toList, z, s2.data.toList⟩, by simp only [str_bl], ⟨hz1, hz2⟩, ?_⟩
    subst hx
    rw [hx2]
    simp only [List.map_cons, List.map_nil, Rows.uptoBulk, Rows.uptoBulkAll]
    omega

theorem open_doc {r : Reach} {b0 : Nat} {v : Value} {d : DataW H} {p : List MemPlace} (hv : Value.okWide Tryz.prog w r b0 40 v) (h : DataW.Trod enc Tryz.prog w base (fun _ => true) held 40 v d p) :
    ∃ q : M.D, v = dval q ∧ (-9223372036854775808 ≤ q.time ∧ q.time ≤ 9223372036854775807) ∧ q.text.length ≤ Rows.uptoBulk d := by
  obtain ⟨f0, f1, f2, hs, _⟩ := Tryz.docStruct
  obtain ⟨cs, rfl, hsz⟩ := okWide_struct hs hv
  obtain ⟨fuel, hf⟩ := h
  obtain ⟨q, hcs, hz, hb⟩ := doc_cells hf
  refine ⟨q, ?_, hz, hb⟩
  have : cs.toList = [.string ⟨q.id.toArray⟩, .int .i64 q.time, .string ⟨q.text.toArray⟩] := by simpa [Value.cells] using hcs
  unfold dval
  rw [← this]

/-- a slice's elements, each with its cells, its reading, and less bulk than the whole -/
theorem open_elemsB {t e : TypeId} {v : Value} {x : DataW H × List MemPlace} (ht : Tryz.prog.underlying t = some (.slice e)) (hpos : 0 < Tryz.prog.cellsOf e) (h : DataW.trod enc Tryz.prog w base (fun _ => true) held fuel t [v] = some x) :
    ∃ A len cap, v = .slice A len cap ∧ len ≤ cap ∧ cap ≤ 9223372036854775807 ∧ cap ≤ Rows.uptoBulk x.1 ∧ (0 < len → ∃ b off, A = some ⟨b, off, none⟩ ∧ b < w.heap.size ∧ ∃ n, ∀ i, i < len → ∃ (cs : List Value) (y : DataW H × List MemPlace), cs.length = Tryz.prog.cellsOf e ∧
      (∀ j, j < Tryz.prog.cellsOf e → w.cell? ⟨b, off + (i * Tryz.prog.cellsOf e + j), none⟩ = cs[j]?) ∧ DataW.trod enc Tryz.prog w base (fun _ => true) held n e cs = some y ∧ Rows.uptoBulk y.1 < Rows.uptoBulk x.1) := by
  rcases open_slice ht h with ⟨hcs, _⟩ | ⟨a, len, cap, m, n, D, Pl, hcs, hb, hl, hm, hmm, hx, hi⟩
  · simp at hcs
    exact ⟨none, 0, 0, hcs, Nat.le_refl _, by omega, by omega, fun h => absurd h (by omega)⟩
  · simp at hcs
    simp only [if_true] at hmm
    subst hmm
    subst hx
    refine ⟨some a, len, m, hcs, hl, by simpa only [maxLen] using hm, ?_, fun hlen => ?_⟩
    · have h1 := bulks.many ((List.range len).map D)
      have h2 := bulks.many ((List.range (m - len)).map fun j => D (len + j))
      simp only [List.length_map, List.length_range] at h1 h2
      simp only [Rows.uptoBulk]; omega
    have cellsAt : ∀ i, i < len → ∃ cs : List Value, cs.length = Tryz.prog.cellsOf e ∧ (∀ j, j < Tryz.prog.cellsOf e → w.cell? (a.add (i * Tryz.prog.cellsOf e + j)) = cs[j]?) ∧ DataW.trod enc Tryz.prog w base (fun _ => true) held n e cs = some (D i, Pl i) := fun i hil => by
      obtain ⟨cs, hc, htr⟩ := hi i (by omega)
      obtain ⟨_, hcl, hat⟩ := World.cells?_some hc
      exact ⟨cs, hcl, fun j hj => by rw [← Go.Deep.add_add]; exact hat j hj, htr⟩
    obtain ⟨cs0, hc0, hat0, _⟩ := cellsAt 0 hlen
    obtain ⟨b, off, spot⟩ := a
    have hcell0 := hat0 0 hpos
    have hsome : ∃ u, w.cell? ((⟨b, off, spot⟩ : Addr).add (0 * Tryz.prog.cellsOf e + 0)) = some u := ⟨cs0[0]'(by omega), by rw [hcell0]; exact List.getElem?_eq_getElem (by omega)⟩
    obtain ⟨u, hu⟩ := hsome
    have hspot : spot = none := by simpa [Addr.add] using World.cell?_spot hu
    subst hspot
    refine ⟨b, off, rfl, by have := World.block_lt_of_cell? w _ hu; rw [add_none] at this; exact this, n, fun i hil => ?_⟩
    obtain ⟨cs, hcl, hat, htr⟩ := cellsAt i hil
    refine ⟨cs, _, hcl, fun j hj => by have := hat j hj; rwa [add_none] at this, htr, ?_⟩
    have h1 := bulk_mem (d := D i) (l := (List.range len).map D) (List.mem_map.2 ⟨i, List.mem_range.2 hil, rfl⟩)
    simp only [Rows.uptoBulk]; omega

theorem query_cells : ∀ (m fuel : Nat) (cs : List Value) (x : DataW H × List MemPlace), Rows.uptoBulk x.1 ≤ m → DataW.trod enc Tryz.prog w base (fun _ => true) held fuel 25 cs = some x → ∃ q : Q, cs = q.cells ∧ Q.Ok w w.heap.size q := by
  intro m
  induction m with
  | zero => intro fuel cs x hm; have := bulks.pos x.1; omega
  | succ m ih =>
    intro fuel cs x hm h
    obtain ⟨f0, f1, f2, f3, hs, ⟨t0, o0⟩, ⟨t1, o1⟩, ⟨t2, o2⟩, ⟨t3, o3⟩⟩ := Tryz.queryStruct
    obtain ⟨xs, n, _, hx, hl, hlen, hf⟩ := DataW.trod_struct hs h
    rw [Tryz.queryCells] at hl
    have hlen' : xs.length = 4 := by simpa using hlen
    match cs, hl, xs, hlen' with
    | [c0, c1, c2, c3], _, [x0, x1, x2, x3], _ =>
      have g0 := hf 0 f0 rfl
      have g1 := hf 1 f1 rfl
      have g2 := hf 2 f2 rfl
      have g3 := hf 3 f3 rfl
      rw [t0, o0, Tryz.u8Cells] at g0
      rw [t1, o1, Tryz.strCells] at g1
      rw [t2, o2, Tryz.i64Cells] at g2
      rw [t3, o3, Tryz.kidsCells] at g3
      obtain ⟨k, rfl, hk⟩ := open_u8 (v := c0) Tryz.underlying5 g0
      obtain ⟨s1, rfl, _⟩ := open_str (v := c1) Tryz.underlying9 g1
      obtain ⟨z, rfl, hz1, hz2⟩ := open_i64 (v := c2) Tryz.underlying2 g2
      obtain ⟨A, len, cap, rfl, hlc, hcm, _, hel⟩ := open_elemsB (v := c3) Tryz.underlying23 Tryz.queryCells' g3
      have hb3 : Rows.uptoBulk x3.1 ≤ m := by
        have : Rows.uptoBulk x3.1 < Rows.uptoBulk x.1 := by
          rw [hx]; simp only [List.map_cons, List.map_nil, Rows.uptoBulk, Rows.uptoBulkAll]; omega
        omega
      rcases Nat.eq_zero_or_pos len with h0 | h0
      · subst h0
        exact ⟨.mk k s1.data.toList z A 0 cap [], by simp only [Q.cells, str_bl], .mk hk ⟨hz1, hz2⟩ ⟨rfl, hlc, hcm, fun h => absurd h (by omega)⟩ (fun q h => by simp at h)⟩
      · obtain ⟨b, off, rfl, hb, n', hi⟩ := hel h0
        have each : ∀ i, i < len → ∃ q : Q, Q.Ok w w.heap.size q ∧ ∀ j, j < 4 → w.cell? ⟨b, off + i * 4 + j, none⟩ = q.cells[j]? := fun i hin => by
          obtain ⟨cs, y, hlen, hat, htr, hlt⟩ := hi i hin
          obtain ⟨q, rfl, hok⟩ := ih n' cs y (by omega) htr
          rw [Tryz.queryCells] at hat
          exact ⟨q, hok, fun j hj => by have := hat j hj; rwa [← Nat.add_assoc] at this⟩
        obtain ⟨f, hfx⟩ := Go.Deep.choose_lt each
        refine ⟨.mk k s1.data.toList z (some ⟨b, off, none⟩) len cap ((List.range len).map f), by simp only [Q.cells, str_bl], .mk hk ⟨hz1, hz2⟩ ⟨by simp, hlc, hcm, fun _ => ⟨b, off, rfl, hb, fun i hi j hj => ?_⟩⟩ (fun q hq => ?_)⟩
        · have hin : i < len := by simpa using hi
          have e : ((List.range len).map f)[i] = f i := by simp
          rw [e]
          exact (hfx i hin).2 j hj
        · obtain ⟨i, hi, rfl⟩ := List.mem_map.1 hq
          exact (hfx i (List.mem_range.1 hi)).1

theorem open_query {r : Reach} {b0 : Nat} {v : Value} {d : DataW H} {p : List MemPlace} (hv : Value.okWide Tryz.prog w r b0 25 v) (h : DataW.Trod enc Tryz.prog w base (fun _ => true) held 25 v d p) :
    ∃ q : Q, v = q.val ∧ Q.Ok w w.heap.size q := by
  obtain ⟨f0, f1, f2, f3, hs, _⟩ := Tryz.queryStruct
  obtain ⟨cs, rfl, hsz⟩ := okWide_struct hs hv
  obtain ⟨fuel, hf⟩ := h
  obtain ⟨q, hcs, hok⟩ := query_cells _ _ _ _ (Nat.le_refl _) hf
  refine ⟨q, ?_, hok⟩
  obtain ⟨k, t, z, A, n, c, ks⟩ := q
  have : cs.toList = [.int .u8 (k : Int), .string ⟨t.toArray⟩, .int .i64 z, .slice A n c] := by simpa [Value.cells, Q.cells] using hcs
  unfold Q.val
  simp only
  rw [← this]

/-- entries, one behind the other -/
def RdDocs (w : World) (B : Nat) (A : Option Addr) (n c : Nat) (ds : List M.D) : Prop :=
  n = ds.length ∧ n ≤ c ∧ c ≤ 9223372036854775807 ∧ (0 < n → ∃ b off, A = some ⟨b, off, none⟩ ∧ b < B ∧ ∀ i (hi : i < ds.length), w.cell? ⟨b, off + i * 3, none⟩ = some (.string ⟨ds[i].id.toArray⟩) ∧ w.cell? ⟨b, off + i * 3 + 1, none⟩ = some (.int .i64 ds[i].time) ∧ w.cell? ⟨b, off + i * 3 + 2, none⟩ = some (.string ⟨ds[i].text.toArray⟩))

theorem open_docs {r : Reach} {b0 : Nat} {v : Value} {d : DataW H} {p : List MemPlace} (hv : Value.okWide Tryz.prog w r b0 22 v) (h : DataW.Trod enc Tryz.prog w base (fun _ => true) held 22 v d p) :
    ∃ A n c ds, v = .slice A n c ∧ RdDocs w w.heap.size A n c ds ∧ c ≤ Rows.uptoBulk d ∧ ∀ x ∈ ds, (-9223372036854775808 ≤ x.time ∧ x.time ≤ 9223372036854775807) ∧ x.text.length ≤ Rows.uptoBulk d := by
  obtain ⟨A0, n0, c0, rfl⟩ := Go.WideShapes.okWide_slice Tryz.underlying22 hv
  obtain ⟨fuel, hf⟩ := h
  obtain ⟨A, n, c, hcs, hl, hm, hcb, hel⟩ := open_elemsB Tryz.underlying22 Tryz.docCells' (v := .slice A0 n0 c0) (by simpa [Value.cells] using hf)
  injection hcs with e1 e2 e3
  subst e1 e2 e3
  rcases Nat.eq_zero_or_pos n0 with h0 | h0
  · subst h0
    exact ⟨A0, 0, c0, [], rfl, ⟨rfl, hl, hm, fun h => absurd h (by omega)⟩, hcb, by simp⟩
  · obtain ⟨b, off, rfl, hb, m, hi⟩ := hel h0
    have each : ∀ i, i < n0 → ∃ x : M.D, ((-9223372036854775808 ≤ x.time ∧ x.time ≤ 9223372036854775807) ∧ x.text.length ≤ Rows.uptoBulk d) ∧ w.cell? ⟨b, off + i * 3, none⟩ = some (.string ⟨x.id.toArray⟩) ∧ w.cell? ⟨b, off + i * 3 + 1, none⟩ = some (.int .i64 x.time) ∧ w.cell? ⟨b, off + i * 3 + 2, none⟩ = some (.string ⟨x.text.toArray⟩) := fun i hin => by
      obtain ⟨cs, y, hlen, hat, htr, hlt⟩ := hi i hin
      obtain ⟨q, rfl, hz, hq⟩ := doc_cells htr
      rw [Tryz.docCells] at hat
      refine ⟨q, ⟨hz, by simp only at hlt; omega⟩, ?_, ?_, ?_⟩
      · have := hat 0 (by omega); rwa [Nat.add_zero] at this
      · have := hat 1 (by omega); rwa [← Nat.add_assoc] at this
      · have := hat 2 (by omega); rwa [← Nat.add_assoc] at this
    obtain ⟨f, hfx⟩ := Go.Deep.choose_lt each
    refine ⟨_, n0, c0, (List.range n0).map f, rfl, ⟨by simp, hl, hm, fun _ => ⟨b, off, rfl, hb, fun i hi => ?_⟩⟩, hcb, fun x hx => ?_⟩
    · have hin : i < n0 := by simpa using hi
      have e : ((List.range n0).map f)[i] = f i := by simp
      rw [e]
      exact (hfx i hin).2
    · obtain ⟨i, hi, rfl⟩ := List.mem_map.1 hx
      exact (hfx i (List.mem_range.1 hi)).1
end
end Go.Proofs.YtfapkpaohkdfpaaGreatDoor
