/-
  Arguments that hold slices within structs and slices: what is read of them, in this project's words for memory ('Rd', 'RdV'). Of no program.
-/
import Derived.Test.YtjdkpcibdjhdoaaDoorMemV
import Derived.Deep.Slices
import Derived.ChangeArms
import Derived.ChangeSlices
import Derived.SizedLaws
import Derived.OpenShut
namespace Go.Proofs.YtjdkpcibdjhdoaaDoor.Mem
open Go.RowKit Go.ChangeShapes Go.WideShapes Go.Deep

section
variable {H : Type} {enc : TypeId × Value → H} {P : Program} {w : World} {base fuel : Nat} {held : Bool}

/-- a row's cells hold each slice below the reach -/
def Light (P : Program) (t : TypeId) (d : DataW H) : Prop := ∀ n ∈ d.weights P t, n ≤ reachBytes

theorem light_of {ts : List TypeId} {ds : List (DataW H)} (h : (DataW.weightsEach P ts ds).all (· ≤ reachBytes) = true) {j : Nat} {t : TypeId} {d : DataW H} (ht : ts[j]? = some t) (hd : ds[j]? = some d) : Light P t d := fun n hn => by
  have := List.all_eq_true.1 h n (DataW.weights_mem_each ht hd n hn)
  simpa using this

theorem open_bytes {t e : TypeId} {v : Value} {x : DataW H × List MemPlace} (ht : P.underlying t = some (.slice e)) (he : P.underlying e = some (.int .u8)) (hc : P.cellsOf e = 1) (hby : P.bytesOf e = 1)
    (h : DataW.trod enc P w base (fun _ => true) held fuel t [v] = some x) (hw : Light P t x.1) : ∃ A n c l, v = .slice A n c ∧ Rd w w.heap.size A n c l ∧ c ≤ 140737488351232 := by
  rcases open_ints ht he hc h with ⟨hcs, _⟩ | ⟨a, l, c, zs, hcs, _, hl, hm, hz, hx, hcell, hwz⟩
  · simp at hcs
    exact ⟨none, 0, 0, [], hcs, Rd.empty (by simp [maxLen]), by omega⟩
  · simp at hcs
    have hz' : zs.length = c := by simpa using hz
    refine ⟨some a, l, c, _, hcs, rd_of_open w a l c zs hl hm hz' hcell hwz, ?_⟩
    subst hx
    have := hw (((lits .u8 (zs.take l) : List (DataW H)).length + (lits .u8 (zs.drop l) : List (DataW H)).length) * P.bytesOf e) (by simp [DataW.weights, ht])
    rw [hby] at this
    simp only [lits, List.length_map, List.length_take, List.length_drop, reachBytes] at this
    omega

theorem open_i64s {t e : TypeId} {v : Value} {x : DataW H × List MemPlace} (ht : P.underlying t = some (.slice e)) (he : P.underlying e = some (.int .i64)) (hc : P.cellsOf e = 1)
    (h : DataW.trod enc P w base (fun _ => true) held fuel t [v] = some x) : ∃ A n c, ∃ ks : List Int, v = .slice A n c ∧ RdV w w.heap.size A n c (ks.map (Value.int .i64)) ∧ ∀ k ∈ ks, -9223372036854775808 ≤ k ∧ k ≤ 9223372036854775807 := by
  rcases open_ints ht he hc h with ⟨hcs, _⟩ | ⟨a, l, c, zs, hcs, _, hl, hm, hz, hx, hcell, hwz⟩
  · simp at hcs
    exact ⟨none, 0, 0, [], hcs, RdV.none_, by simp⟩
  · simp at hcs
    have hz' : zs.length = c := by simpa using hz
    refine ⟨some a, l, c, zs.take l, hcs, ⟨by simp; omega, hl, hm, fun hn => ?_⟩, fun k hk => ?_⟩
    · obtain ⟨b, off, spot⟩ := a
      have hspot : spot = none := by simpa [Addr.add] using World.cell?_spot (hcell 0 (by omega))
      subst hspot
      refine ⟨b, off, rfl, World.block_lt_of_cell? w _ (hcell 0 (by omega)), fun j hj => ?_⟩
      have h1 := hcell j (by omega)
      have hjz : j < zs.length := by omega
      rw [add_none] at h1
      rw [h1]
      simp [hj, hjz]
    · have := bounds_i64 (hwz k (List.mem_of_mem_take hk))
      exact this

theorem open_i64 {t : TypeId} {v : Value} {x : DataW H × List MemPlace} (ht : P.underlying t = some (.int .i64)) (h : DataW.trod enc P w base (fun _ => true) held fuel t [v] = some x) : ∃ n : Int, v = .int .i64 n ∧ -9223372036854775808 ≤ n ∧ n ≤ 9223372036854775807 := by
  obtain ⟨n, hcs, _, hw⟩ := DataW.trod_int ht h
  simp at hcs
  exact ⟨n, hcs, bounds_i64 hw⟩

theorem open_u8 {t : TypeId} {v : Value} {x : DataW H × List MemPlace} (ht : P.underlying t = some (.int .u8)) (h : DataW.trod enc P w base (fun _ => true) held fuel t [v] = some x) : ∃ n : Nat, v = .int .u8 n ∧ n < 256 := by
  obtain ⟨n, hcs, _, hw⟩ := DataW.trod_int ht h
  simp at hcs
  have hb : 0 ≤ n ∧ n ≤ 255 := by
    have := hw
    simp [Lit.wf, IntKind.min, IntKind.max, IntKind.signed, IntKind.bits] at this
    omega
  exact ⟨n.toNat, by rw [hcs]; congr 1; omega, by omega⟩

theorem open_str {t : TypeId} {v : Value} {x : DataW H × List MemPlace} (ht : P.underlying t = some .string) (h : DataW.trod enc P w base (fun _ => true) held fuel t [v] = some x) : ∃ s : ByteArray, v = .string s ∧ s.size ≤ 9223372036854775807 := by
  obtain ⟨s, hcs, _, hs⟩ := DataW.trod_string ht h
  simp at hcs
  exact ⟨s, hcs, by simpa only [maxLen] using hs⟩

/-- a struct's fields, each with its reading and its weight -/
theorem open_fields {t : TypeId} {fs : Array Field} {cs : List Value} {x : DataW H × List MemPlace} (ht : P.underlying t = some (.struct fs)) (h : DataW.trod enc P w base (fun _ => true) held fuel t cs = some x) (hw : Light P t x.1) :
    cs.length = P.cellsOf t ∧ ∃ n, ∀ (i : Nat) (f : Field), fs[i]? = some f → ∃ y : DataW H × List MemPlace, DataW.trod enc P w base (fun _ => true) held n f.type ((cs.drop f.offset).take (P.cellsOf f.type)) = some y ∧ Light P f.type y.1 := by
  obtain ⟨xs, n, _, hx, hl, hlen, hf⟩ := DataW.trod_struct ht h
  refine ⟨hl, n, fun i f hi => ?_⟩
  have hil : i < fs.size := (Array.getElem?_eq_some_iff.1 hi).1
  have hxi : xs[i]? = some (xs[i]'(by omega)) := List.getElem?_eq_getElem (by omega)
  refine ⟨_, (hf i f hi).trans hxi, fun m hm => hw m ?_⟩
  subst hx
  show m ∈ (DataW.agg (xs.map (·.1))).weights P t
  simp only [DataW.weights, ht]
  have ht' : (fs.toList.map (·.type))[i]? = some f.type := by simp [hi]
  have hd' : (xs.map (·.1))[i]? = some (xs[i]'(by omega)).1 := by simp [hxi]
  exact DataW.weights_mem_each ht' hd' m hm

theorem weightsAll_mem {e : TypeId} : ∀ {l : List (DataW H)} {d : DataW H}, d ∈ l → ∀ n ∈ d.weights P e, n ∈ DataW.weightsAll P e l
  | a :: r, d, hd, n, hn => by
    simp only [DataW.weightsAll, List.mem_append]
    rcases List.mem_cons.1 hd with rfl | hd
    · exact .inl hn
    · exact .inr (weightsAll_mem hd n hn)

/-- a slice's elements, each with its cells, its reading and its weight -/
theorem open_elems {t e : TypeId} {v : Value} {x : DataW H × List MemPlace} (ht : P.underlying t = some (.slice e)) (hpos : 0 < P.cellsOf e) (h : DataW.trod enc P w base (fun _ => true) held fuel t [v] = some x) (hw : Light P t x.1) :
    ∃ A len cap, v = .slice A len cap ∧ len ≤ cap ∧ cap ≤ maxLen ∧ cap * P.bytesOf e ≤ reachBytes ∧ (0 < len → ∃ b off, A = some ⟨b, off, none⟩ ∧ b < w.heap.size ∧ ∃ n, ∀ i, i < len → ∃ (cs : List Value) (y : DataW H × List MemPlace), cs.length = P.cellsOf e ∧
      (∀ j, j < P.cellsOf e → w.cell? ⟨b, off + (i * P.cellsOf e + j), none⟩ = cs[j]?) ∧ DataW.trod enc P w base (fun _ => true) held n e cs = some y ∧ Light P e y.1) := by
  rcases open_slice ht h with ⟨hcs, _⟩ | ⟨a, len, cap, m, n, D, Pl, hcs, hb, hl, hm, hmm, hx, hi⟩
  · simp at hcs
    exact ⟨none, 0, 0, hcs, Nat.le_refl _, by simp [maxLen], by simp [reachBytes], fun h => absurd h (by omega)⟩
  · simp at hcs
    simp only [if_true] at hmm
    subst hmm
    subst hx
    have hbytes : m * P.bytesOf e ≤ reachBytes := by
      have := hw ((((List.range len).map D).length + ((List.range (m - len)).map fun j => D (len + j)).length) * P.bytesOf e) (by simp [DataW.weights, ht])
      simp only [List.length_map, List.length_range] at this
      rwa [show len + (m - len) = m by omega] at this
    refine ⟨some a, len, m, hcs, hl, hm, hbytes, fun hlen => ?_⟩
    have cellsAt : ∀ i, i < len → ∃ cs : List Value, cs.length = P.cellsOf e ∧ (∀ j, j < P.cellsOf e → w.cell? (a.add (i * P.cellsOf e + j)) = cs[j]?) ∧ DataW.trod enc P w base (fun _ => true) held n e cs = some (D i, Pl i) := fun i hil => by
      obtain ⟨cs, hc, htr⟩ := hi i (by omega)
      obtain ⟨_, hcl, hat⟩ := World.cells?_some hc
      exact ⟨cs, hcl, fun j hj => by rw [← Go.Deep.add_add]; exact hat j hj, htr⟩
    obtain ⟨cs0, hc0, hat0, _⟩ := cellsAt 0 hlen
    obtain ⟨b, off, spot⟩ := a
    have hcell0 := hat0 0 hpos
    have hsome : ∃ u, w.cell? ((⟨b, off, spot⟩ : Addr).add (0 * P.cellsOf e + 0)) = some u := ⟨cs0[0]'(by omega), by rw [hcell0]; exact List.getElem?_eq_getElem (by omega)⟩
    obtain ⟨u, hu⟩ := hsome
    have hspot : spot = none := by simpa [Addr.add] using World.cell?_spot hu
    subst hspot
    refine ⟨b, off, rfl, by have := World.block_lt_of_cell? w _ hu; rw [add_none] at this; exact this, n, fun i hil => ?_⟩
    obtain ⟨cs, hcl, hat, htr⟩ := cellsAt i hil
    refine ⟨cs, _, hcl, fun j hj => by have := hat j hj; rwa [add_none] at this, htr, fun m' hm' => hw m' ?_⟩
    simp only [DataW.weights, ht, List.mem_cons, List.mem_append]
    exact .inr (.inl (weightsAll_mem (List.mem_map.2 ⟨i, List.mem_range.2 hil, rfl⟩) m' hm'))
end
end Go.Proofs.YtjdkpcibdjhdoaaDoor.Mem
