/-
  The document's Has; the law MatchHas, by the contracts.
-/
import Derived.Test.YtfapkpaohkdfpaaGreatDoorMatchJ
namespace Go.Proofs.YtfapkpaohkdfpaaGreatDoor
open Go.RowKit Mem
set_option linter.unusedVariables false
set_option maxRecDepth 100000

theorem cell_on {W W' : World} (hb : Below W.heap.size W W') {p : Addr} {v : Value} (h : W.cell? p = some v) : W'.cell? p = some v := (hb.cell (World.block_lt_of_cell? W _ h)).trans h
/-- a query in block g, an entry in block g + 1, and nothing below w0's end has turned -/
def Boxes (w0 : World) (g : Nat) (K : Int) (t : List UInt8) (z : Int) (A : Option Addr) (n c : Nat) (d : M.D) (W : World) : Prop :=
  W.cell? ⟨g, 0, none⟩ = some (.int .u8 K) ∧ W.cell? ⟨g, 1, none⟩ = some (.string ⟨t.toArray⟩) ∧ W.cell? ⟨g, 2, none⟩ = some (.int .i64 z) ∧ W.cell? ⟨g, 3, none⟩ = some (.slice A n c) ∧
  W.cell? ⟨g + 1, 0, none⟩ = some (.string ⟨d.id.toArray⟩) ∧ W.cell? ⟨g + 1, 1, none⟩ = some (.int .i64 d.time) ∧ W.cell? ⟨g + 1, 2, none⟩ = some (.string ⟨d.text.toArray⟩) ∧ Below w0.heap.size w0 W
section
variable {w0 W W' : World} {g : Nat} {K : Int} {t : List UInt8} {z : Int} {A : Option Addr} {n c : Nat} {d : M.D}
theorem Boxes.on (h : Boxes w0 g K t z A n c d W) (hb : Below W.heap.size W W') : Boxes w0 g K t z A n c d W' :=
  ⟨cell_on hb h.1, cell_on hb h.2.1, cell_on hb h.2.2.1, cell_on hb h.2.2.2.1, cell_on hb h.2.2.2.2.1, cell_on hb h.2.2.2.2.2.1, cell_on hb h.2.2.2.2.2.2.1, h.2.2.2.2.2.2.2.trans (hb.mono h.2.2.2.2.2.2.2.size)⟩
theorem Boxes.drewN (h : Boxes w0 g K t z A n c d W) (k : Nat) : Boxes w0 g K t z A n c d (W.drewN k) := ⟨h.1, h.2.1, h.2.2.1, h.2.2.2.1, h.2.2.2.2.1, h.2.2.2.2.2.1, h.2.2.2.2.2.2.1, bel_drewN h.2.2.2.2.2.2.2 k⟩
theorem Boxes.bel (h : Boxes w0 g K t z A n c d W) : Below w0.heap.size w0 W := h.2.2.2.2.2.2.2
end
theorem Boxes.new (w : World) (K : Int) (t : List UInt8) (z : Int) (A : Option Addr) (n c : Nat) (d : M.D) :
    Boxes w w.heap.size K t z A n c d ((w.alloc (.cells #[.int .u8 K, .string ⟨t.toArray⟩, .int .i64 z, .slice A n c] 25)).alloc (.cells #[.string ⟨d.id.toArray⟩, .int .i64 d.time, .string ⟨d.text.toArray⟩] 40)) := by
  obtain ⟨W, hW⟩ : ∃ W, W = w.alloc (.cells #[.int .u8 K, .string ⟨t.toArray⟩, .int .i64 z, .slice A n c] 25) := ⟨_, rfl⟩
  have hb : Below w.heap.size w W := by rw [hW]; exact (Below.refl _ _).alloc (Nat.le_refl _) _
  have hs : W.heap.size = w.heap.size + 1 := by rw [hW]; simp
  have h1 : BoxIn W w.heap.size K t z A n c := by rw [hW]; exact BoxIn.new w K t z A n c
  rw [← hW]
  have hb2 := (Below.refl W.heap.size W).alloc (Nat.le_refl _) (.cells #[.string ⟨d.id.toArray⟩, .int .i64 d.time, .string ⟨d.text.toArray⟩] 40)
  have c1 := (h1.on hb2).cells
  have c2 := (DocIn.new W d).cells
  rw [hs] at c2
  exact ⟨c1.1, c1.2.1, c1.2.2.1, c1.2.2.2, c2.1, c2.2.1, c2.2.2, hb.trans (hb2.mono hb.size)⟩

set_option maxHeartbeats 2000000 in
theorem ref_has_any (q : Q) (d : M.D) (w : World) (hT : Tabs w) (hs : d.text.length ≤ 1048576) (hq : Q.Ok w w.heap.size q) :
    Calls Tryz.prog 45 #[q.val, dval d] w (SaysB (q.has d.time (M.terms d.text)) w) := by
  have HQ := Lib.hid hq
  have HT := Lib.hid hT
  obtain ⟨k, t, z, A, n, c, ks⟩ := q
  obtain ⟨id, tm, text⟩ := d
  simp only at hs
  obtain ⟨K, hK⟩ : ∃ K : Int, (k : Int) = K := ⟨_, rfl⟩
  have HX := Lib.hid (Boxes.new w K t z A n c ⟨id, tm, text⟩)
  have HC1 := Lib.hid (fun (W : World) (h : Below w.heap.size w W) => show Calls Tryz.prog 55 #[.string ⟨text.toArray⟩] W (SaysS (M.terms text) W) from ref_terms_any ⟨text.toArray⟩ W (by show text.length ≤ _; omega) (by show text.length ≤ _; omega) (HT.out.below h))
  have HC2 := Lib.hid (fun (W : World) (h : Below w.heap.size w W) (A0 : Option Addr) (n0 c0 : Nat) (hr : RdV W W.heap.size A0 n0 c0 (strs (M.terms text))) => refHas_any W tm A0 n0 c0 (M.terms text) hr ((HQ.out.on h).more h.size) W (Below.refl _ _))
  unfold Q.val at HC2 ⊢
  unfold dval
  simp only at HC2 ⊢
  rw [hK] at HC2 ⊢
  clear hT hq HT HQ hs
  generalize Q.has tm (M.terms text) (.mk k t z A n c ks) = b at *
  clear hK
  go_enter Tryz.func45, Tryz.ntmps45
  go_wp2_with fail
  go_region_held3 (fun W => W.cell? ⟨w.heap.size, 0, none⟩ = some (.int .u8 K) ∧ W.cell? ⟨w.heap.size, 1, none⟩ = some (.string ⟨t.toArray⟩) ∧ W.cell? ⟨w.heap.size, 2, none⟩ = some (.int .i64 z) ∧ W.cell? ⟨w.heap.size, 3, none⟩ = some (.slice A n c) ∧
      W.cell? ⟨w.heap.size + 1, 0, none⟩ = some (.string ⟨id.toArray⟩) ∧ W.cell? ⟨w.heap.size + 1, 1, none⟩ = some (.int .i64 tm) ∧ W.cell? ⟨w.heap.size + 1, 2, none⟩ = some (.string ⟨text.toArray⟩) ∧ Below w.heap.size w W)
    (first | exact hHeld | exact HX.out | exact HX.out.drewN 1 | exact hX3 | exact hX2)
    (first
      | (go_at_call 55; refine (HC1.out _ (Boxes.bel (g := w.heap.size) (K := K) (t := t) (z := z) (A := A) (n := n) (c := c) (d := ⟨id, tm, text⟩) (by assumption))).mono ?_; rintro e w2 ⟨A2, c2, rfl, hr2, hb2⟩; have hX2 := Boxes.on (w0 := w) (g := w.heap.size) (K := K) (t := t) (z := z) (A := A) (n := n) (c := c) (d := ⟨id, tm, text⟩) (by assumption) hb2)
      | (go_at_call 65; refine (HC2.out _ hX2.bel _ _ _ hr2).mono ?_; rintro e w3 ⟨rfl, hb3⟩; have hX3 := hX2.on hb3))
  all_goals
    have HB3 := Lib.hid hX3.bel
    clear hX3 hX2
    go_wp2
    go_ret
    exact ⟨rfl, HB3.out⟩
end Go.Proofs.YtfapkpaohkdfpaaGreatDoor
