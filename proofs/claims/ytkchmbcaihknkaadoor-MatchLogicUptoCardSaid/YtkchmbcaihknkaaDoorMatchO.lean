/-
  The law MatchLogic, by the contracts.
-/
import Derived.Test.YtkchmbcaihknkaaDoorMatchN
import Derived.Deep.DeepCutAuto
namespace Go.Proofs.YtkchmbcaihknkaaDoor
open Go.RowKit Mem
set_option linter.unusedVariables false
set_option maxRecDepth 100000

/-- two queries and an entry in blocks g, g + 1, g + 2 -/
abbrev Three (w0 : World) (g : Nat) (K1 : Int) (t1 : List UInt8) (z1 : Int) (A1 : Option Addr) (n1 c1 : Nat) (K2 : Int) (t2 : List UInt8) (z2 : Int) (A2 : Option Addr) (n2 c2 : Nat) (d : M.D) (W : World) : Prop := W.cell? ⟨g, 0, none⟩ = some (.int .u8 K1) ∧ W.cell? ⟨g, 1, none⟩ = some (.string ⟨t1.toArray⟩) ∧ W.cell? ⟨g, 2, none⟩ = some (.int .i64 z1) ∧ W.cell? ⟨g, 3, none⟩ = some (.slice A1 n1 c1) ∧ W.cell? ⟨g + 1, 0, none⟩ = some (.int .u8 K2) ∧ W.cell? ⟨g + 1, 1, none⟩ = some (.string ⟨t2.toArray⟩) ∧ W.cell? ⟨g + 1, 2, none⟩ = some (.int .i64 z2) ∧ W.cell? ⟨g + 1, 3, none⟩ = some (.slice A2 n2 c2) ∧ W.cell? ⟨g + 1 + 1, 0, none⟩ = some (.string ⟨d.id.toArray⟩) ∧ W.cell? ⟨g + 1 + 1, 1, none⟩ = some (.int .i64 d.time) ∧ W.cell? ⟨g + 1 + 1, 2, none⟩ = some (.string ⟨d.text.toArray⟩) ∧ Below w0.heap.size w0 W
section
variable {w0 W W' : World} {g : Nat} {K1 : Int} {t1 : List UInt8} {z1 : Int} {A1 : Option Addr} {n1 c1 : Nat} {K2 : Int} {t2 : List UInt8} {z2 : Int} {A2 : Option Addr} {n2 c2 : Nat} {d : M.D}
theorem Three.on (h : Three w0 g K1 t1 z1 A1 n1 c1 K2 t2 z2 A2 n2 c2 d W) (hb : Below W.heap.size W W') : Three w0 g K1 t1 z1 A1 n1 c1 K2 t2 z2 A2 n2 c2 d W' := ⟨cell_on hb h.1, cell_on hb h.2.1, cell_on hb h.2.2.1, cell_on hb h.2.2.2.1, cell_on hb h.2.2.2.2.1, cell_on hb h.2.2.2.2.2.1, cell_on hb h.2.2.2.2.2.2.1, cell_on hb h.2.2.2.2.2.2.2.1, cell_on hb h.2.2.2.2.2.2.2.2.1, cell_on hb h.2.2.2.2.2.2.2.2.2.1, cell_on hb h.2.2.2.2.2.2.2.2.2.2.1, h.2.2.2.2.2.2.2.2.2.2.2.trans (hb.mono h.2.2.2.2.2.2.2.2.2.2.2.size)⟩
theorem Three.drewN (h : Three w0 g K1 t1 z1 A1 n1 c1 K2 t2 z2 A2 n2 c2 d W) (k : Nat) : Three w0 g K1 t1 z1 A1 n1 c1 K2 t2 z2 A2 n2 c2 d (W.drewN k) := ⟨h.1, h.2.1, h.2.2.1, h.2.2.2.1, h.2.2.2.2.1, h.2.2.2.2.2.1, h.2.2.2.2.2.2.1, h.2.2.2.2.2.2.2.1, h.2.2.2.2.2.2.2.2.1, h.2.2.2.2.2.2.2.2.2.1, h.2.2.2.2.2.2.2.2.2.2.1, bel_drewN h.2.2.2.2.2.2.2.2.2.2.2 k⟩
theorem Three.set (h : Three w0 g K1 t1 z1 A1 n1 c1 K2 t2 z2 A2 n2 c2 d W) (p : Addr) (h1 : g + 1 + 1 < p.block) (h2 : w0.heap.size ≤ p.block) (v : Value) : Three w0 g K1 t1 z1 A1 n1 c1 K2 t2 z2 A2 n2 c2 d (W.setCell p v) :=
  ⟨(World.cell?_of_block (Below.heap_setCell _ _ _ _ (by show g ≠ _; omega))).trans h.1, (World.cell?_of_block (Below.heap_setCell _ _ _ _ (by show g ≠ _; omega))).trans h.2.1, (World.cell?_of_block (Below.heap_setCell _ _ _ _ (by show g ≠ _; omega))).trans h.2.2.1, (World.cell?_of_block (Below.heap_setCell _ _ _ _ (by show g ≠ _; omega))).trans h.2.2.2.1, (World.cell?_of_block (Below.heap_setCell _ _ _ _ (by show g + 1 ≠ _; omega))).trans h.2.2.2.2.1, (World.cell?_of_block (Below.heap_setCell _ _ _ _ (by show g + 1 ≠ _; omega))).trans h.2.2.2.2.2.1, (World.cell?_of_block (Below.heap_setCell _ _ _ _ (by show g + 1 ≠ _; omega))).trans h.2.2.2.2.2.2.1, (World.cell?_of_block (Below.heap_setCell _ _ _ _ (by show g + 1 ≠ _; omega))).trans h.2.2.2.2.2.2.2.1, (World.cell?_of_block (Below.heap_setCell _ _ _ _ (by show g + 1 + 1 ≠ _; omega))).trans h.2.2.2.2.2.2.2.2.1, (World.cell?_of_block (Below.heap_setCell _ _ _ _ (by show g + 1 + 1 ≠ _; omega))).trans h.2.2.2.2.2.2.2.2.2.1, (World.cell?_of_block (Below.heap_setCell _ _ _ _ (by show g + 1 + 1 ≠ _; omega))).trans h.2.2.2.2.2.2.2.2.2.2.1, (h.2.2.2.2.2.2.2.2.2.2.2).setCell h2 v⟩
theorem Three.one (h : Three w0 g K1 t1 z1 A1 n1 c1 K2 t2 z2 A2 n2 c2 d W) (o : Obj) : Three w0 g K1 t1 z1 A1 n1 c1 K2 t2 z2 A2 n2 c2 d (W.alloc o) := h.on ((Below.refl _ _).alloc (Nat.le_refl _) _)
theorem Three.two (h : Three w0 g K1 t1 z1 A1 n1 c1 K2 t2 z2 A2 n2 c2 d W) (o o' : Obj) : Three w0 g K1 t1 z1 A1 n1 c1 K2 t2 z2 A2 n2 c2 d ((W.alloc o).alloc o') := (h.one o).one o'
theorem Three.boxed (h : Three w0 g K1 t1 z1 A1 n1 c1 K2 t2 z2 A2 n2 c2 d W) (k : Nat) (h1 : g + 1 + 1 < k) (h2 : w0.heap.size ≤ k) (v : Value) (o : Obj) : Three w0 g K1 t1 z1 A1 n1 c1 K2 t2 z2 A2 n2 c2 d (((((W.setCell ⟨k, 0, none⟩ (.int .u8 3)).setCell ⟨k, 1, none⟩ (.string ⟨#[]⟩)).setCell ⟨k, 2, none⟩ (.int .i64 0)).setCell ⟨k, 3, none⟩ v).alloc o) :=
  ((((h.set _ h1 h2 _).set _ h1 h2 _).set _ h1 h2 _).set _ h1 h2 _).on ((Below.refl _ _).alloc (Nat.le_refl _) _)
theorem Three.bel (h : Three w0 g K1 t1 z1 A1 n1 c1 K2 t2 z2 A2 n2 c2 d W) : Below w0.heap.size w0 W := h.2.2.2.2.2.2.2.2.2.2.2
end
theorem Three.new (w : World) (K1 : Int) (t1 : List UInt8) (z1 : Int) (A1 : Option Addr) (n1 c1 : Nat) (K2 : Int) (t2 : List UInt8) (z2 : Int) (A2 : Option Addr) (n2 c2 : Nat) (d : M.D) : Three w w.heap.size K1 t1 z1 A1 n1 c1 K2 t2 z2 A2 n2 c2 d (((w.alloc (.cells #[.int .u8 K1, .string ⟨t1.toArray⟩, .int .i64 z1, .slice A1 n1 c1] 24)).alloc (.cells #[.int .u8 K2, .string ⟨t2.toArray⟩, .int .i64 z2, .slice A2 n2 c2] 24)).alloc (.cells #[.string ⟨d.id.toArray⟩, .int .i64 d.time, .string ⟨d.text.toArray⟩] 26)) := by
  obtain ⟨W1, h1⟩ : ∃ W1, W1 = w.alloc (.cells #[.int .u8 K1, .string ⟨t1.toArray⟩, .int .i64 z1, .slice A1 n1 c1] 24) := ⟨_, rfl⟩
  obtain ⟨W2, h2⟩ : ∃ W2, W2 = W1.alloc (.cells #[.int .u8 K2, .string ⟨t2.toArray⟩, .int .i64 z2, .slice A2 n2 c2] 24) := ⟨_, rfl⟩
  have s1 : W1.heap.size = w.heap.size + 1 := by rw [h1]; simp
  have s2 : W2.heap.size = w.heap.size + 1 + 1 := by rw [h2]; simp; omega
  have x1 : BoxIn W1 w.heap.size K1 t1 z1 A1 n1 c1 := by rw [h1]; exact BoxIn.new w _ _ _ _ _ _
  have x2 : BoxIn W2 W1.heap.size K2 t2 z2 A2 n2 c2 := by rw [h2]; exact BoxIn.new W1 _ _ _ _ _ _
  have b1 : Below w.heap.size w W1 := by rw [h1]; exact (Below.refl _ _).alloc (Nat.le_refl _) _
  have b2 : Below W1.heap.size W1 W2 := by rw [h2]; exact (Below.refl _ _).alloc (Nat.le_refl _) _
  rw [← h1, ← h2]
  have b3 := (Below.refl W2.heap.size W2).alloc (Nat.le_refl _) (.cells #[.string ⟨d.id.toArray⟩, .int .i64 d.time, .string ⟨d.text.toArray⟩] 26)
  have y1 := ((x1.on b2).on b3).cells
  have y2 := (x2.on b3).cells
  have y3 := (DocIn.new W2 d).cells
  rw [s1] at y2
  rw [s2] at y3
  exact ⟨y1.1, y1.2.1, y1.2.2.1, y1.2.2.2, y2.1, y2.2.1, y2.2.2.1, y2.2.2.2, y3.1, y3.2.1, y3.2.2, b1.trans ((b2.trans (b3.mono b2.size)).mono b1.size)⟩

abbrev zeroQ : Obj := .cells #[.int .u8 0, .string ⟨#[]⟩, .int .i64 0, .slice none 0 0] 24
theorem zero_drew {W w' : World} (h : Below (W.alloc zeroQ).drew.heap.size (W.alloc zeroQ).drew w') : w'.heap[W.heap.size]? = some zeroQ := (h.block W.heap.size (by show _ < (W.alloc zeroQ).heap.size; simp)).trans (heap_alloc_new W _)
theorem zero_new {W w' : World} (h : Below (W.alloc zeroQ).heap.size (W.alloc zeroQ) w') : w'.heap[W.heap.size]? = some zeroQ := (h.block W.heap.size (by simp)).trans (heap_alloc_new W _)
theorem b_self {W w' : World} (h : Below W.heap.size W w') : Below W.heap.size W w' := h
theorem b_drew {W w' : World} (h : Below W.drew.heap.size W.drew w') : Below W.heap.size W w' := ⟨h.os, h.tape, h.output, h.size, h.block⟩
theorem b_new {W w' : World} {o : Obj} (h : Below (W.alloc o).heap.size (W.alloc o) w') : Below W.heap.size W w' := ((Below.refl W.heap.size W).alloc (Nat.le_refl _) o).trans (h.mono (by simp))
theorem b_zero {W w' : World} {o : Obj} (h : Below (W.alloc o).drew.heap.size (W.alloc o).drew w') : Below W.heap.size W w' := b_new (o := o) ⟨h.os, h.tape, h.output, h.size, h.block⟩
theorem zero_on {W w' : World} {g : Nat} (h : Below W.heap.size W w') (hz : W.heap[g]? = some zeroQ) : w'.heap[g]? = some zeroQ := (h.block g (heapLt hz)).trans hz
/-- the AND of the NOTs, made in new memory -/
def Parts (W6 : World) (p q : Q) (s9 : Value) (wx : World) : Prop := ∃ g9 gs gp gq, s9 = .pointer (some ⟨g9, 0, none⟩) ∧ BoxIn wx g9 3 [] 0 (some ⟨gs, 0, none⟩) 2 2 ∧
  Q.Ok wx wx.heap.size (.mk 3 [] 0 (some ⟨gs, 0, none⟩) 2 2 [.mk 5 [] 0 (some ⟨gp, 0, none⟩) 1 1 [p], .mk 5 [] 0 (some ⟨gq, 0, none⟩) 1 1 [q]]) ∧ Below W6.heap.size W6 wx

section
variable {W6 wR : World} {k1 : Nat} {t1 : List UInt8} {z1 : Int} {A1 : Option Addr} {n1 c1 : Nat} {ks1 : List Q} {k2 : Nat} {t2 : List UInt8} {z2 : Int} {A2 : Option Addr} {n2 c2 : Nat} {ks2 : List Q} {gP gR : Nat}
theorem parts_of {wx : World} {g9 gs : Nat} (hbox : BoxIn wx g9 3 [] 0 (some ⟨gs, 0, none⟩) 2 2)
    (hrow : wx.heap[gs]? = some (.cells #[.int .u8 5, .string ⟨#[]⟩, .int .i64 0, .slice (some ⟨gP, 0, none⟩) 1 1, .int .u8 5, .string ⟨#[]⟩, .int .i64 0, .slice (some ⟨gR, 0, none⟩) 1 1] 24 (0, 0)))
    (hp : wx.heap[gP]? = some (.cells #[.int .u8 (k1 : Int), .string ⟨t1.toArray⟩, .int .i64 z1, .slice A1 n1 c1] 24 (0, 0))) (hq : wx.heap[gR]? = some (.cells #[.int .u8 (k2 : Int), .string ⟨t2.toArray⟩, .int .i64 z2, .slice A2 n2 c2] 24 (0, 0)))
    (hb : Below W6.heap.size W6 wx) (okp : Q.Ok W6 W6.heap.size (.mk k1 t1 z1 A1 n1 c1 ks1)) (okq : Q.Ok W6 W6.heap.size (.mk k2 t2 z2 A2 n2 c2 ks2)) :
    Parts W6 (.mk k1 t1 z1 A1 n1 c1 ks1) (.mk k2 t2 z2 A2 n2 c2 ks2) (.pointer (some ⟨g9, 0, none⟩)) wx :=
  ⟨g9, gs, gP, gR, rfl, hbox, ok2 (by omega) (p := .mk 5 [] 0 (some ⟨gP, 0, none⟩) 1 1 [_]) (q := .mk 5 [] 0 (some ⟨gR, 0, none⟩) 1 1 [_]) hrow (ok1 (by omega) (q := .mk k1 t1 z1 A1 n1 c1 ks1) hp ((okp.on hb).more hb.size)) (ok1 (by omega) (q := .mk k2 t2 z2 A2 n2 c2 ks2) hq ((okq.on hb).more hb.size)), hb⟩
abbrev rowPR (gP gR : Nat) : Obj := .cells #[.int .u8 5, .string ⟨#[]⟩, .int .i64 0, .slice (some ⟨gP, 0, none⟩) 1 1, .int .u8 5, .string ⟨#[]⟩, .int .i64 0, .slice (some ⟨gR, 0, none⟩) 1 1] 24
abbrev andBox (g : Nat) : Obj := .cells #[.int .u8 3, .string ⟨#[]⟩, .int .i64 0, .slice (some ⟨g, 0, none⟩) 2 2] 24
variable (hp : wR.heap[gP]? = some (.cells #[.int .u8 (k1 : Int), .string ⟨t1.toArray⟩, .int .i64 z1, .slice A1 n1 c1] 24 (0, 0))) (hq : wR.heap[gR]? = some (.cells #[.int .u8 (k2 : Int), .string ⟨t2.toArray⟩, .int .i64 z2, .slice A2 n2 c2] 24 (0, 0)))
  (hb : Below W6.heap.size W6 wR) (okp : Q.Ok W6 W6.heap.size (.mk k1 t1 z1 A1 n1 c1 ks1)) (okq : Q.Ok W6 W6.heap.size (.mk k2 t2 z2 A2 n2 c2 ks2))
include hp hq hb okp okq
theorem parts_new2 : Parts W6 (.mk k1 t1 z1 A1 n1 c1 ks1) (.mk k2 t2 z2 A2 n2 c2 ks2) (.pointer (some ⟨wR.heap.size, 0, none⟩)) ((wR.alloc (andBox (wR.heap.size + 1))).alloc (rowPR gP gR)) := by
  have h2 := heap_alloc_new (wR.alloc (andBox (wR.heap.size + 1))) (rowPR gP gR)
  rw [show (wR.alloc (andBox (wR.heap.size + 1))).heap.size = wR.heap.size + 1 from by simp] at h2
  exact parts_of (heapOld (heap_alloc_new wR _)) h2 (heapOld (heapOld hp)) (heapOld (heapOld hq)) ((hb.alloc hb.size _).alloc (Nat.le_trans hb.size (by simp)) _) okp okq
theorem parts_new1 : Parts W6 (.mk k1 t1 z1 A1 n1 c1 ks1) (.mk k2 t2 z2 A2 n2 c2 ks2) (.pointer (some ⟨wR.heap.size + 1, 0, none⟩)) ((wR.alloc (rowPR gP gR)).alloc (andBox wR.heap.size)) := by
  have h2 := heap_alloc_new (wR.alloc (rowPR gP gR)) (andBox wR.heap.size)
  rw [show (wR.alloc (rowPR gP gR)).heap.size = wR.heap.size + 1 from by simp] at h2
  exact parts_of h2 (heapOld (heap_alloc_new wR _)) (heapOld (heapOld hp)) (heapOld (heapOld hq)) ((hb.alloc hb.size _).alloc (Nat.le_trans hb.size (by simp)) _) okp okq
theorem parts_old {k : Nat} (hz : wR.heap[k]? = some zeroQ) (hk : W6.heap.size ≤ k) (hkP : gP ≠ k) (hkR : gR ≠ k) : Parts W6 (.mk k1 t1 z1 A1 n1 c1 ks1) (.mk k2 t2 z2 A2 n2 c2 ks2) (.pointer (some ⟨k, 0, none⟩))
    (((((wR.setCell ⟨k, 0, none⟩ (.int .u8 3)).setCell ⟨k, 1, none⟩ (.string ⟨#[]⟩)).setCell ⟨k, 2, none⟩ (.int .i64 0)).setCell ⟨k, 3, none⟩ (.slice (some ⟨wR.heap.size, 0, none⟩) 2 2)).alloc (rowPR gP gR)) := by
  obtain ⟨W, hW⟩ : ∃ W, W = (((wR.setCell ⟨k, 0, none⟩ (.int .u8 3)).setCell ⟨k, 1, none⟩ (.string ⟨#[]⟩)).setCell ⟨k, 2, none⟩ (.int .i64 0)).setCell ⟨k, 3, none⟩ (.slice (some ⟨wR.heap.size, 0, none⟩) 2 2) := ⟨_, rfl⟩
  have hs : W.heap.size = wR.heap.size := by rw [hW]; simp [World.setCell]
  have hbox : BoxIn W k 3 [] 0 (some ⟨wR.heap.size, 0, none⟩) 2 2 := by
    rw [hW]
    exact heapSet 3 _ (heapSet 2 _ (heapSet 1 _ (heapSet 0 _ hz)))
  have far : ∀ {g : Nat} {o : Obj}, g ≠ k → wR.heap[g]? = some o → W.heap[g]? = some o := fun {g o} hne h => by
    rw [hW]
    exact heapFar (p := ⟨k, 3, none⟩) (heapFar (p := ⟨k, 2, none⟩) (heapFar (p := ⟨k, 1, none⟩) (heapFar (p := ⟨k, 0, none⟩) h hne) hne) hne) hne
  have hbW : Below W6.heap.size W6 W := by
    rw [hW]
    exact (((hb.setCell (p := ⟨k, 0, none⟩) hk _).setCell (p := ⟨k, 1, none⟩) hk _).setCell (p := ⟨k, 2, none⟩) hk _).setCell (p := ⟨k, 3, none⟩) hk _
  rw [← hW]
  have h2 := heap_alloc_new W (rowPR gP gR)
  rw [hs] at h2
  exact parts_of (heapOld hbox) h2 (heapOld (far hkP hp)) (heapOld (far hkR hq)) (hbW.alloc hbW.size _) okp okq
end

/-- what the law's last line reads: the three queries that were made, the first one, the entry -/
abbrev Ten (w9 : World) (g g3 g9 gs : Nat) (K1 : Int) (t1 : List UInt8) (z1 : Int) (A1 : Option Addr) (n1 c1 : Nat) (d : M.D) (W : World) : Prop := W.cell? ⟨g3 + 1, 0, none⟩ = some (.int .u8 3) ∧ W.cell? ⟨g3 + 1, 1, none⟩ = some (.string ⟨#[]⟩) ∧ W.cell? ⟨g3 + 1, 2, none⟩ = some (.int .i64 0) ∧ W.cell? ⟨g3 + 1, 3, none⟩ = some (.slice (some ⟨g3, 0, none⟩) 2 2) ∧ W.cell? ⟨g3 + 1 + 1 + 1, 0, none⟩ = some (.int .u8 4) ∧ W.cell? ⟨g3 + 1 + 1 + 1, 1, none⟩ = some (.string ⟨#[]⟩) ∧ W.cell? ⟨g3 + 1 + 1 + 1, 2, none⟩ = some (.int .i64 0) ∧ W.cell? ⟨g3 + 1 + 1 + 1, 3, none⟩ = some (.slice (some ⟨g3 + 1 + 1, 0, none⟩) 2 2) ∧ W.cell? ⟨g9, 0, none⟩ = some (.int .u8 3) ∧ W.cell? ⟨g9, 1, none⟩ = some (.string ⟨#[]⟩) ∧ W.cell? ⟨g9, 2, none⟩ = some (.int .i64 0) ∧ W.cell? ⟨g9, 3, none⟩ = some (.slice (some ⟨gs, 0, none⟩) 2 2) ∧ W.cell? ⟨g, 0, none⟩ = some (.int .u8 K1) ∧ W.cell? ⟨g, 1, none⟩ = some (.string ⟨t1.toArray⟩) ∧ W.cell? ⟨g, 2, none⟩ = some (.int .i64 z1) ∧ W.cell? ⟨g, 3, none⟩ = some (.slice A1 n1 c1) ∧ W.cell? ⟨g + 1 + 1, 0, none⟩ = some (.string ⟨d.id.toArray⟩) ∧ W.cell? ⟨g + 1 + 1, 1, none⟩ = some (.int .i64 d.time) ∧ W.cell? ⟨g + 1 + 1, 2, none⟩ = some (.string ⟨d.text.toArray⟩) ∧ Below w9.heap.size w9 W
section
variable {w9 : World} {g g3 g9 gs : Nat} {K1 : Int} {t1 : List UInt8} {z1 : Int} {A1 : Option Addr} {n1 c1 : Nat} {d : M.D} {W W' : World}
theorem Ten.on (h : Ten w9 g g3 g9 gs K1 t1 z1 A1 n1 c1 d W) (hb : Below W.heap.size W W') : Ten w9 g g3 g9 gs K1 t1 z1 A1 n1 c1 d W' := ⟨cell_on hb h.1, cell_on hb h.2.1, cell_on hb h.2.2.1, cell_on hb h.2.2.2.1, cell_on hb h.2.2.2.2.1, cell_on hb h.2.2.2.2.2.1, cell_on hb h.2.2.2.2.2.2.1, cell_on hb h.2.2.2.2.2.2.2.1, cell_on hb h.2.2.2.2.2.2.2.2.1, cell_on hb h.2.2.2.2.2.2.2.2.2.1, cell_on hb h.2.2.2.2.2.2.2.2.2.2.1, cell_on hb h.2.2.2.2.2.2.2.2.2.2.2.1, cell_on hb h.2.2.2.2.2.2.2.2.2.2.2.2.1, cell_on hb h.2.2.2.2.2.2.2.2.2.2.2.2.2.1, cell_on hb h.2.2.2.2.2.2.2.2.2.2.2.2.2.2.1, cell_on hb h.2.2.2.2.2.2.2.2.2.2.2.2.2.2.2.1, cell_on hb h.2.2.2.2.2.2.2.2.2.2.2.2.2.2.2.2.1, cell_on hb h.2.2.2.2.2.2.2.2.2.2.2.2.2.2.2.2.2.1, cell_on hb h.2.2.2.2.2.2.2.2.2.2.2.2.2.2.2.2.2.2.1, h.2.2.2.2.2.2.2.2.2.2.2.2.2.2.2.2.2.2.2.trans (hb.mono h.2.2.2.2.2.2.2.2.2.2.2.2.2.2.2.2.2.2.2.size)⟩
theorem Ten.drew (h : Ten w9 g g3 g9 gs K1 t1 z1 A1 n1 c1 d W) : Ten w9 g g3 g9 gs K1 t1 z1 A1 n1 c1 d W.drew := ⟨h.1, h.2.1, h.2.2.1, h.2.2.2.1, h.2.2.2.2.1, h.2.2.2.2.2.1, h.2.2.2.2.2.2.1, h.2.2.2.2.2.2.2.1, h.2.2.2.2.2.2.2.2.1, h.2.2.2.2.2.2.2.2.2.1, h.2.2.2.2.2.2.2.2.2.2.1, h.2.2.2.2.2.2.2.2.2.2.2.1, h.2.2.2.2.2.2.2.2.2.2.2.2.1, h.2.2.2.2.2.2.2.2.2.2.2.2.2.1, h.2.2.2.2.2.2.2.2.2.2.2.2.2.2.1, h.2.2.2.2.2.2.2.2.2.2.2.2.2.2.2.1, h.2.2.2.2.2.2.2.2.2.2.2.2.2.2.2.2.1, h.2.2.2.2.2.2.2.2.2.2.2.2.2.2.2.2.2.1, h.2.2.2.2.2.2.2.2.2.2.2.2.2.2.2.2.2.2.1, bel_drewN h.2.2.2.2.2.2.2.2.2.2.2.2.2.2.2.2.2.2.2 1⟩
theorem Ten.bel (h : Ten w9 g g3 g9 gs K1 t1 z1 A1 n1 c1 d W) : Below w9.heap.size w9 W := h.2.2.2.2.2.2.2.2.2.2.2.2.2.2.2.2.2.2.2
end

set_option maxHeartbeats 16000000 in
theorem matchLogic_any (p q : Q) (d : M.D) (w : World) (hT : Tabs w) (hs : d.text.length ≤ 1048576) (hp : Q.Ok w w.heap.size p) (hq : Q.Ok w w.heap.size q) :
    Calls Tryd.prog 6 #[p.val, q.val, dval d] w (SaysB true w) := by
  have HP := Lib.hid hp
  have HQ := Lib.hid hq
  have HT := Lib.hid hT
  have HH := Lib.hid (fun (W : World) (h : Below w.heap.size w W) (x : Q) (hx : Q.Ok W W.heap.size x) => has_any x d W (HT.out.below h) (by omega) hx)
  have HW := Lib.hid (fun (W : World) (h : Below w.heap.size w W) => awake7_any W (HT.out.below h))
  obtain ⟨k1, t1, z1, A1, n1, c1, ks1⟩ := p
  obtain ⟨k2, t2, z2, A2, n2, c2, ks2⟩ := q
  obtain ⟨K1, hK1⟩ : ∃ K : Int, (k1 : Int) = K := ⟨_, rfl⟩
  obtain ⟨K2, hK2⟩ : ∃ K : Int, (k2 : Int) = K := ⟨_, rfl⟩
  have HX := Lib.hid (Three.new w K1 t1 z1 A1 n1 c1 K2 t2 z2 A2 n2 c2 d)
  have HG1 := Lib.hid (fun (W : World) (h : Below w.heap.size w W) => great_any (.mk k1 t1 z1 A1 n1 c1 ks1) W ((HP.out.on h).more h.size))
  have HG2 := Lib.hid (fun (W : World) (h : Below w.heap.size w W) => great_any (.mk k2 t2 z2 A2 n2 c2 ks2) W ((HQ.out.on h).more h.size))
  have HC1 := Lib.hid (fun (W : World) (h : Below w.heap.size w W) => HH.out W h (.mk k1 t1 z1 A1 n1 c1 ks1) ((HP.out.on h).more h.size))
  have HC2 := Lib.hid (fun (W : World) (h : Below w.heap.size w W) => HH.out W h (.mk k2 t2 z2 A2 n2 c2 ks2) ((HQ.out.on h).more h.size))
  unfold Q.val at HG1 HG2 HC1 HC2 ⊢
  unfold dval at HC1 HC2 ⊢
  simp only at HG1 HG2 HC1 HC2 ⊢
  rw [hK1] at HG1 HC1 ⊢
  rw [hK2] at HG2 HC2 ⊢
  clear hT hp hq hs
  have HK1 := Lib.hid hK1
  have HK2 := Lib.hid hK2
  clear hK1 hK2
  go_enter Tryd.func6, Tryd.ntmps6
  go_wp2_with fail
  refine (HG1.out _ HX.out.bel).mono ?_
  rintro e w1 ⟨gr1, rfl, hb1⟩
  have HX1 := Lib.hid (HX.out.on hb1)
  clear hb1 HX
  cases gr1 with
  | true =>
    go_wp2_with fail
    refine (HW.out _ HX1.out.bel).mono ?_
    rintro e w2 ⟨rfl, hb2⟩
    have HB2 := Lib.hid (HX1.out.on hb2).bel
    clear hb2
    go_wp2
    go_ret
    exact ⟨rfl, HB2.out⟩
  | false =>
    obtain ⟨p0, p1, p2, p3, q0, q1, q2, q3, d0, d1, d2, hb⟩ := HX1.out
    clear hb
    go_wp2_with fail
    refine (HG2.out _ HX1.out.bel).mono ?_
    rintro e w2 ⟨gr2, rfl, hb2⟩
    have HX2 := Lib.hid (HX1.out.on hb2)
    clear hb2 HX1 p0 p1 p2 p3 q0 q1 q2 q3 d0 d1 d2
    cases gr2 with
    | true =>
      go_wp2_with fail
      refine (HW.out _ HX2.out.bel).mono ?_
      rintro e w3 ⟨rfl, hb3⟩
      have HB3 := Lib.hid (HX2.out.on hb3).bel
      clear hb3
      go_wp2
      go_ret
      exact ⟨rfl, HB3.out⟩
    | false =>
      go_wp2_with fail
      refine (HW.out _ HX2.out.bel).mono ?_
      rintro e w3 ⟨rfl, hb3⟩
      have HX3 := Lib.hid (HX2.out.on hb3)
      clear hb3 HX2
      obtain ⟨p0, p1, p2, p3, q0, q1, q2, q3, d0, d1, d2, hb⟩ := HX3.out
      clear hb
      have l2 : w.heap.size + 1 + 1 < w3.heap.size := World.block_lt_of_cell? w3 _ d0
      have l1 : w.heap.size + 1 < w3.heap.size := by omega
      have l0 : w.heap.size < w3.heap.size := by omega
      go_wp2_with fail
      obtain ⟨W6, hW6⟩ : ∃ W6, W6 = (((w3.alloc (.cells #[.int .u8 K1, .string ⟨t1.toArray⟩, .int .i64 z1, .slice A1 n1 c1, .int .u8 K2, .string ⟨t2.toArray⟩, .int .i64 z2, .slice A2 n2 c2] 24)).alloc (.cells #[.int .u8 3, .string ⟨#[]⟩, .int .i64 0, .slice (some ⟨w3.heap.size, 0, none⟩) 2 2] 24)).alloc (.cells #[.int .u8 K1, .string ⟨t1.toArray⟩, .int .i64 z1, .slice A1 n1 c1, .int .u8 K2, .string ⟨t2.toArray⟩, .int .i64 z2, .slice A2 n2 c2] 24)).alloc (.cells #[.int .u8 4, .string ⟨#[]⟩, .int .i64 0, .slice (some ⟨w3.heap.size + 1 + 1, 0, none⟩) 2 2] 24) := ⟨_, rfl⟩
      have HB6 := Lib.hid (show Below w3.heap.size w3 W6 by rw [hW6]; exact ((((Below.refl _ _).alloc (Nat.le_refl _) _).alloc (by simp) _).alloc (by simp; omega) _).alloc (by simp; omega) _)
      have HX6 := Lib.hid (HX3.out.on HB6.out)
      rw [← hW6]
      have HW6 := Lib.hid hW6
      have HXz := Lib.hid (show Three w w.heap.size K1 t1 z1 A1 n1 c1 K2 t2 z2 A2 n2 c2 d (W6.alloc zeroQ).drew from (HX6.out.one zeroQ).drewN 1)
      have HX6d := Lib.hid (show Three w w.heap.size K1 t1 z1 A1 n1 c1 K2 t2 z2 A2 n2 c2 d W6.drew from HX6.out.drewN 1)
      have hs6 : W6.heap.size = w3.heap.size + 1 + 1 + 1 + 1 := by rw [hW6]; simp
      have HS6 := Lib.hid hs6
      have l6 : w.heap.size + 1 + 1 < W6.heap.size := by omega
      have l6b : w.heap.size ≤ W6.heap.size := by omega
      clear hW6 hs6 p0 p1 p2 p3 q0 q1 q2 q3 d0 d1 d2
      go_cut [9] (fun s9 wx => Hid (Parts W6 (.mk k1 t1 z1 A1 n1 c1 ks1) (.mk k2 t2 z2 A2 n2 c2 ks2) s9 wx))
      case first =>
        go_region_held3 (fun W => W.cell? ⟨w.heap.size, 0, none⟩ = some (.int .u8 K1) ∧ W.cell? ⟨w.heap.size, 1, none⟩ = some (.string ⟨t1.toArray⟩) ∧ W.cell? ⟨w.heap.size, 2, none⟩ = some (.int .i64 z1) ∧ W.cell? ⟨w.heap.size, 3, none⟩ = some (.slice A1 n1 c1) ∧ W.cell? ⟨w.heap.size + 1, 0, none⟩ = some (.int .u8 K2) ∧ W.cell? ⟨w.heap.size + 1, 1, none⟩ = some (.string ⟨t2.toArray⟩) ∧ W.cell? ⟨w.heap.size + 1, 2, none⟩ = some (.int .i64 z2) ∧ W.cell? ⟨w.heap.size + 1, 3, none⟩ = some (.slice A2 n2 c2) ∧ W.cell? ⟨w.heap.size + 1 + 1, 0, none⟩ = some (.string ⟨d.id.toArray⟩) ∧ W.cell? ⟨w.heap.size + 1 + 1, 1, none⟩ = some (.int .i64 d.time) ∧ W.cell? ⟨w.heap.size + 1 + 1, 2, none⟩ = some (.string ⟨d.text.toArray⟩) ∧ Below w.heap.size w W)
          (first | with_reducible exact hHeld | with_reducible exact HX6d.out | with_reducible exact hXgR | with_reducible exact hXgP | with_reducible exact hXgR.one _ | with_reducible exact hXgR.two _ _ | with_reducible exact hXgP.one _ | with_reducible exact HXz.out | with_reducible exact Three.boxed hXgR W6.heap.size l6 l6b _ _ | with_reducible exact Three.boxed hXgR wP.heap.size lPa lPb _ _ | fail)
          (first
            | (go_at_call 20; (with_reducible refine (not_any K1 t1 z1 A1 n1 c1 _).mono ?_); rintro e wP ⟨gP, rfl, hgP, hbgP, hngP⟩; have hXgP := Three.on (w0 := w) (g := w.heap.size) (K1 := K1) (t1 := t1) (z1 := z1) (A1 := A1) (n1 := n1) (c1 := c1) (K2 := K2) (t2 := t2) (z2 := z2) (A2 := A2) (n2 := n2) (c2 := c2) (d := d) (by assumption) hbgP; (first | (with_reducible have HbP := b_zero hbgP) | (with_reducible have HbP := b_drew hbgP) | fail); have lP := HbP.size; have lPa := Nat.lt_of_lt_of_le l6 lP; have lPb := Nat.le_trans l6b lP; (try (with_reducible have hZ := zero_drew hbgP; have yc0 := cellAt 0 hZ; have yc1 := cellAt 1 hZ; have yc2 := cellAt 2 hZ; have yc3 := cellAt 3 hZ; have yf0 := freeAt 0 hZ; have yf1 := freeAt 1 hZ; have yf2 := freeAt 2 hZ; have yf3 := freeAt 3 hZ; have hl := heapLt hZ)))
            | (go_at_call 20; (with_reducible refine (not_any K2 t2 z2 A2 n2 c2 _).mono ?_); rintro e wR ⟨gR, rfl, hgR, hbgR, hngR⟩; have hXgR := Three.on (w0 := w) (g := w.heap.size) (K1 := K1) (t1 := t1) (z1 := z1) (A1 := A1) (n1 := n1) (c1 := c1) (K2 := K2) (t2 := t2) (z2 := z2) (A2 := A2) (n2 := n2) (c2 := c2) (d := d) (by assumption) hbgR; (first | (with_reducible have HbR := b_new hbgR) | (with_reducible have HbR := b_self hbgR) | fail); have HpR := (HbR.block gP (heapLt hgP)).trans hgP; have HbW := HbP.trans (HbR.mono HbP.size); (try (with_reducible have hY := zero_on hbgR hZ; clear yc0 yc1 yc2 yc3 yf0 yf1 yf2 yf3 hl; have yc0 := cellAt 0 hY; have yc1 := cellAt 1 hY; have yc2 := cellAt 2 hY; have yc3 := cellAt 3 hY; have yf0 := freeAt 0 hY; have yf1 := freeAt 1 hY; have yf2 := freeAt 2 hY; have yf3 := freeAt 3 hY; have hl := heapLt hY)); (try (with_reducible have hY := zero_new hbgR; have yc0 := cellAt 0 hY; have yc1 := cellAt 1 hY; have yc2 := cellAt 2 hY; have yc3 := cellAt 3 hY; have yf0 := freeAt 0 hY; have yf1 := freeAt 1 hY; have yf2 := freeAt 2 hY; have yf3 := freeAt 3 hY; have hl := heapLt hY)))
            | fail)
        all_goals
          go_wp2_with fail
          go_meet
        all_goals
          have okp := (HP.out.on HX6.out.bel).more HX6.out.bel.size
          have okq := (HQ.out.on HX6.out.bel).more HX6.out.bel.size
          obtain rfl := HK1.out
          obtain rfl := HK2.out
        all_goals first
          | exact Lib.hid (parts_new2 HpR hgR HbW okp okq)
          | exact Lib.hid (parts_new1 HpR hgR HbW okp okq)
          | exact Lib.hid (parts_old HpR hgR HbW okp okq hY (Nat.le_refl _) (Nat.ne_of_gt (Nat.lt_of_lt_of_le (by simp) hngP)) (Nat.ne_of_gt (Nat.lt_of_lt_of_le (heapLt hZ) hngR)))
          | exact Lib.hid (parts_old HpR hgR HbW okp okq hY lP (Nat.ne_of_lt (heapLt hgP)) (Nat.ne_of_gt (Nat.lt_of_lt_of_le (by simp) hngR)))
          | fail
      case rest =>
        rename World => wc
        obtain ⟨g9, gs, gp, gq, rfl, hbox, okparts, hbc⟩ := hcut.out
        have HXc := Lib.hid (HX6.out.on hbc)
        have HBX := Lib.hid hbox
        have HOP := Lib.hid okparts
        have HBc := Lib.hid hbc
        clear hbox okparts hbc hcut
        obtain ⟨p0, p1, p2, p3, q0, q1, q2, q3, d0, d1, d2, hb⟩ := HXc.out
        clear hb
        go_wp2_with fail
        refine (HC1.out _ HXc.out.bel).mono ?_
        rintro e w8 ⟨rfl, hb8⟩
        have HX8 := Lib.hid (HXc.out.on hb8)
        have HB8 := Lib.hid hb8
        clear hb8 p0 p1 p2 p3 q0 q1 q2 q3 d0 d1 d2
        obtain ⟨p0, p1, p2, p3, q0, q1, q2, q3, d0, d1, d2, hb⟩ := HX8.out
        clear hb
        go_wp2_with fail
        refine (HC2.out _ HX8.out.bel).mono ?_
        rintro e w9 ⟨rfl, hb9⟩
        have HX9 := Lib.hid (HX8.out.on hb9)
        have hc9 := HB8.out.trans (hb9.mono HB8.out.size)
        have h69 := HBc.out.trans (hc9.mono HBc.out.size)
        clear hb9 p0 p1 p2 p3 q0 q1 q2 q3 d0 d1 d2
        have okp9 := (HP.out.on HX9.out.bel).more HX9.out.bel.size
        have okq9 := (HQ.out.on HX9.out.bel).more HX9.out.bel.size
        have okt9 := (HOP.out.on hc9).more hc9.size
        have hbx9 := HBX.out.on hc9
        have w60 : W6.heap[w3.heap.size]? = some (.cells #[.int .u8 K1, .string ⟨t1.toArray⟩, .int .i64 z1, .slice A1 n1 c1, .int .u8 K2, .string ⟨t2.toArray⟩, .int .i64 z2, .slice A2 n2 c2] 24 (0, 0)) := by rw [HW6.out]; exact heapOld (heapOld (heapOld (heap_alloc_new w3 _)))
        have w61 : BoxIn W6 (w3.heap.size + 1) 3 [] 0 (some ⟨w3.heap.size, 0, none⟩) 2 2 := by
          rw [HW6.out]
          have h := heap_alloc_new (w3.alloc (.cells #[.int .u8 K1, .string ⟨t1.toArray⟩, .int .i64 z1, .slice A1 n1 c1, .int .u8 K2, .string ⟨t2.toArray⟩, .int .i64 z2, .slice A2 n2 c2] 24)) (.cells #[.int .u8 3, .string ⟨#[]⟩, .int .i64 0, .slice (some ⟨w3.heap.size, 0, none⟩) 2 2] 24)
          rw [show (w3.alloc (.cells #[.int .u8 K1, .string ⟨t1.toArray⟩, .int .i64 z1, .slice A1 n1 c1, .int .u8 K2, .string ⟨t2.toArray⟩, .int .i64 z2, .slice A2 n2 c2] 24)).heap.size = w3.heap.size + 1 from by simp] at h
          exact heapOld (heapOld h)
        have w62 : W6.heap[w3.heap.size + 1 + 1]? = some (.cells #[.int .u8 K1, .string ⟨t1.toArray⟩, .int .i64 z1, .slice A1 n1 c1, .int .u8 K2, .string ⟨t2.toArray⟩, .int .i64 z2, .slice A2 n2 c2] 24 (0, 0)) := by
          rw [HW6.out]
          have h := heap_alloc_new ((w3.alloc (.cells #[.int .u8 K1, .string ⟨t1.toArray⟩, .int .i64 z1, .slice A1 n1 c1, .int .u8 K2, .string ⟨t2.toArray⟩, .int .i64 z2, .slice A2 n2 c2] 24)).alloc (.cells #[.int .u8 3, .string ⟨#[]⟩, .int .i64 0, .slice (some ⟨w3.heap.size, 0, none⟩) 2 2] 24)) (.cells #[.int .u8 K1, .string ⟨t1.toArray⟩, .int .i64 z1, .slice A1 n1 c1, .int .u8 K2, .string ⟨t2.toArray⟩, .int .i64 z2, .slice A2 n2 c2] 24)
          rw [show ((w3.alloc (.cells #[.int .u8 K1, .string ⟨t1.toArray⟩, .int .i64 z1, .slice A1 n1 c1, .int .u8 K2, .string ⟨t2.toArray⟩, .int .i64 z2, .slice A2 n2 c2] 24)).alloc (.cells #[.int .u8 3, .string ⟨#[]⟩, .int .i64 0, .slice (some ⟨w3.heap.size, 0, none⟩) 2 2] 24)).heap.size = w3.heap.size + 1 + 1 from by simp] at h
          exact heapOld h
        have w63 : BoxIn W6 (w3.heap.size + 1 + 1 + 1) 4 [] 0 (some ⟨w3.heap.size + 1 + 1, 0, none⟩) 2 2 := by
          rw [HW6.out]
          have h := heap_alloc_new (((w3.alloc (.cells #[.int .u8 K1, .string ⟨t1.toArray⟩, .int .i64 z1, .slice A1 n1 c1, .int .u8 K2, .string ⟨t2.toArray⟩, .int .i64 z2, .slice A2 n2 c2] 24)).alloc (.cells #[.int .u8 3, .string ⟨#[]⟩, .int .i64 0, .slice (some ⟨w3.heap.size, 0, none⟩) 2 2] 24)).alloc (.cells #[.int .u8 K1, .string ⟨t1.toArray⟩, .int .i64 z1, .slice A1 n1 c1, .int .u8 K2, .string ⟨t2.toArray⟩, .int .i64 z2, .slice A2 n2 c2] 24)) (.cells #[.int .u8 4, .string ⟨#[]⟩, .int .i64 0, .slice (some ⟨w3.heap.size + 1 + 1, 0, none⟩) 2 2] 24)
          rw [show (((w3.alloc (.cells #[.int .u8 K1, .string ⟨t1.toArray⟩, .int .i64 z1, .slice A1 n1 c1, .int .u8 K2, .string ⟨t2.toArray⟩, .int .i64 z2, .slice A2 n2 c2] 24)).alloc (.cells #[.int .u8 3, .string ⟨#[]⟩, .int .i64 0, .slice (some ⟨w3.heap.size, 0, none⟩) 2 2] 24)).alloc (.cells #[.int .u8 K1, .string ⟨t1.toArray⟩, .int .i64 z1, .slice A1 n1 c1, .int .u8 K2, .string ⟨t2.toArray⟩, .int .i64 z2, .slice A2 n2 c2] 24)).heap.size = w3.heap.size + 1 + 1 + 1 from by simp] at h
          exact h
        have v60 := (h69.block _ (heapLt w60)).trans w60
        have v62 := (h69.block _ (heapLt w62)).trans w62
        have v61 := w61.on h69
        have v63 := w63.on h69
        rw [← HK1.out, ← HK2.out] at v60 v62
        have okb9 := ok2 (k := 3) (p := .mk k1 t1 z1 A1 n1 c1 ks1) (q := .mk k2 t2 z2 A2 n2 c2 ks2) (by omega) v60 okp9 okq9
        have oks9 := ok2 (k := 4) (p := .mk k1 t1 z1 A1 n1 c1 ks1) (q := .mk k2 t2 z2 A2 n2 c2 ks2) (by omega) v62 okp9 okq9
        have HBoth := Lib.hid (fun (W : World) (h : Below w9.heap.size w9 W) => HH.out W (HX9.out.bel.trans (h.mono HX9.out.bel.size)) _ ((okb9.on h).more h.size))
        have HSome := Lib.hid (fun (W : World) (h : Below w9.heap.size w9 W) => HH.out W (HX9.out.bel.trans (h.mono HX9.out.bel.size)) _ ((oks9.on h).more h.size))
        have HParts := Lib.hid (fun (W : World) (h : Below w9.heap.size w9 W) => HH.out W (HX9.out.bel.trans (h.mono HX9.out.bel.size)) _ ((okt9.on h).more h.size))
        have HNS := Lib.hid (fun (W : World) (gC : Nat) (h : Below w9.heap.size w9 W) (hg : W.heap[gC]? = some (.cells #[.int .u8 4, .string ⟨#[]⟩, .int .i64 0, .slice (some ⟨w3.heap.size + 1 + 1, 0, none⟩) 2 2] 24 (0, 0))) => HH.out W (HX9.out.bel.trans (h.mono HX9.out.bel.size)) _ (ok1 (k := 5) (q := .mk 4 [] 0 (some ⟨w3.heap.size + 1 + 1, 0, none⟩) 2 2 [.mk k1 t1 z1 A1 n1 c1 ks1, .mk k2 t2 z2 A2 n2 c2 ks2]) (by omega) hg ((oks9.on h).more h.size)))
        have HNN := Lib.hid (fun (W : World) (gF gG : Nat) (h : Below w9.heap.size w9 W) (hF : W.heap[gF]? = some (.cells #[.int .u8 K1, .string ⟨t1.toArray⟩, .int .i64 z1, .slice A1 n1 c1] 24 (0, 0))) (hG : W.heap[gG]? = some (.cells #[.int .u8 5, .string ⟨#[]⟩, .int .i64 0, .slice (some ⟨gF, 0, none⟩) 1 1] 24 (0, 0))) => HH.out W (HX9.out.bel.trans (h.mono HX9.out.bel.size)) _ (ok1 (k := 5) (q := .mk 5 [] 0 (some ⟨gF, 0, none⟩) 1 1 [.mk k1 t1 z1 A1 n1 c1 ks1]) (by omega) hG (ok1 (k := 5) (q := .mk k1 t1 z1 A1 n1 c1 ks1) (by omega) (by rw [← HK1.out] at hF; exact hF) ((okp9.on h).more h.size))))
        simp only [has_not, has_and, has_or] at HBoth HSome HParts HNS HNN
        unfold Q.val dval at HBoth HSome HParts HNS HNN
        simp only at HBoth HSome HParts HNS HNN
        have HXT := Lib.hid (show Ten w9 w.heap.size w3.heap.size g9 gs K1 t1 z1 A1 n1 c1 d w9 from by
          obtain ⟨p0, p1, p2, p3, q0, q1, q2, q3, d0, d1, d2, hb⟩ := HX9.out
          have x1 := v61.cells
          have x3 := v63.cells
          have x9 := hbx9.cells
          exact ⟨x1.1, x1.2.1, x1.2.2.1, x1.2.2.2, x3.1, x3.2.1, x3.2.2.1, x3.2.2.2, x9.1, x9.2.1, x9.2.2.1, x9.2.2.2, p0, p1, p2, p3, d0, d1, d2, Below.refl _ _⟩)
        have HXTd := Lib.hid (show Ten w9 w.heap.size w3.heap.size g9 gs K1 t1 z1 A1 n1 c1 d w9.drew from HXT.out.drew)
        have HB9 := Lib.hid HX9.out.bel
        clear okp9 okq9 okt9 hbx9 w60 w61 w62 w63 v60 v61 v62 v63 okb9 oks9 hc9 h69 HX9 HX8 HXc HBc HB8 HBX HOP HX6 HX3 HW6 HS6 HB6 l0 l1 l2 l6 l6b HC1 HC2 HG1 HG2 HW HH HP HQ HT HK1 HK2
        generalize Q.has d.time (M.terms d.text) (.mk k1 t1 z1 A1 n1 c1 ks1) = a at *
        generalize Q.has d.time (M.terms d.text) (.mk k2 t2 z2 A2 n2 c2 ks2) = b at *
        rw [show ((3 : Nat) : Int) = 3 from rfl] at HBoth HParts
        rw [show ((4 : Nat) : Int) = 4 from rfl] at HSome
        rw [show ((5 : Nat) : Int) = 5 from rfl] at HNS HNN
        clear HXz HX6d
        cases a <;> cases b
        · as_aux_lemma =>
            try simp only [Bool.or_true] at HBoth HSome HParts HNS HNN
            try simp only [Bool.or_false] at HBoth HSome HParts HNS HNN
            try simp only [Bool.not_true] at HBoth HSome HParts HNS HNN
            try simp only [Bool.not_false] at HBoth HSome HParts HNS HNN
            try simp only [Bool.and_true] at HBoth HSome HParts HNS HNN
            try simp only [Bool.and_false] at HBoth HSome HParts HNS HNN
            try simp only [Bool.not_true] at HBoth HSome HParts HNS HNN
            try simp only [Bool.not_false] at HBoth HSome HParts HNS HNN
            go_wp2_with fail
            refine wp_region_held_drew (S := fun W => W.cell? ⟨w3.heap.size + 1, 0, none⟩ = some (.int .u8 3) ∧ W.cell? ⟨w3.heap.size + 1, 1, none⟩ = some (.string ⟨#[]⟩) ∧ W.cell? ⟨w3.heap.size + 1, 2, none⟩ = some (.int .i64 0) ∧ W.cell? ⟨w3.heap.size + 1, 3, none⟩ = some (.slice (some ⟨w3.heap.size, 0, none⟩) 2 2) ∧ W.cell? ⟨w3.heap.size + 1 + 1 + 1, 0, none⟩ = some (.int .u8 4) ∧ W.cell? ⟨w3.heap.size + 1 + 1 + 1, 1, none⟩ = some (.string ⟨#[]⟩) ∧ W.cell? ⟨w3.heap.size + 1 + 1 + 1, 2, none⟩ = some (.int .i64 0) ∧ W.cell? ⟨w3.heap.size + 1 + 1 + 1, 3, none⟩ = some (.slice (some ⟨w3.heap.size + 1 + 1, 0, none⟩) 2 2) ∧ W.cell? ⟨g9, 0, none⟩ = some (.int .u8 3) ∧ W.cell? ⟨g9, 1, none⟩ = some (.string ⟨#[]⟩) ∧ W.cell? ⟨g9, 2, none⟩ = some (.int .i64 0) ∧ W.cell? ⟨g9, 3, none⟩ = some (.slice (some ⟨gs, 0, none⟩) 2 2) ∧ W.cell? ⟨w.heap.size, 0, none⟩ = some (.int .u8 K1) ∧ W.cell? ⟨w.heap.size, 1, none⟩ = some (.string ⟨t1.toArray⟩) ∧ W.cell? ⟨w.heap.size, 2, none⟩ = some (.int .i64 z1) ∧ W.cell? ⟨w.heap.size, 3, none⟩ = some (.slice A1 n1 c1) ∧ W.cell? ⟨w.heap.size + 1 + 1, 0, none⟩ = some (.string ⟨d.id.toArray⟩) ∧ W.cell? ⟨w.heap.size + 1 + 1, 1, none⟩ = some (.int .i64 d.time) ∧ W.cell? ⟨w.heap.size + 1 + 1, 2, none⟩ = some (.string ⟨d.text.toArray⟩) ∧ Below w9.heap.size w9 W) (by kernel_rfl) HXTd.out (fun hHeld => ?_)
            refine wpAnyH_take (i := 0) (oi := ⟨some 41, _, _, _, _, _⟩) (v := ?_) rfl (by kernel_rfl) (by kernel_rfl) (by kernel_rfl) (fun _ _ _ h => h) (Or.inl ⟨by rfl, ?yy1⟩) hHeld ?rr1
            case yy1 => ((intro w hSw; (try dsimp only at hSw); go_simp) <;> (try with_reducible rfl))
            try simp only [Act.put, List.setIfInBounds_toArray, List.set_cons_zero, List.set_cons_succ]
            refine wpAnyH_take (i := 1) (oi := ⟨some 42, _, _, _, _, _⟩) (v := ?_) rfl (by kernel_rfl) (by kernel_rfl) (by kernel_rfl) (fun _ _ _ h => h) (Or.inl ⟨by rfl, ?yy2⟩) hHeld ?rr2
            case yy2 => ((intro w hSw; (try dsimp only at hSw); go_simp) <;> (try with_reducible rfl))
            try simp only [Act.put, List.setIfInBounds_toArray, List.set_cons_zero, List.set_cons_succ]
            refine wpAnyH_take (i := 3) (oi := ⟨some 44, _, _, _, _, _⟩) (v := ?_) rfl (by kernel_rfl) (by kernel_rfl) (by kernel_rfl) (fun _ _ _ h => h) (Or.inl ⟨by rfl, ?yy3⟩) hHeld ?rr3
            case yy3 => ((intro w hSw; (try dsimp only at hSw); go_simp) <;> (try with_reducible rfl))
            try simp only [Act.put, List.setIfInBounds_toArray, List.set_cons_zero, List.set_cons_succ]
            refine wpAnyH_ready (rs := [2]) (by kernel_rfl) (by simp) ?_
            refine AllReadyH.cons (o := ⟨some 43, _, _, _, _, _⟩) rfl (fun K hK => ?_) ?_
            · go_simp
              go_at_call 11
              refine (HBoth.out _ (Ten.bel (w9 := w9) (g := w.heap.size) (g3 := w3.heap.size) (g9 := g9) (gs := gs) (K1 := K1) (t1 := t1) (z1 := z1) (A1 := A1) (n1 := n1) (c1 := c1) (d := d) hHeld)).mono ?_
              rintro e wA ⟨rfl, hbA⟩
              have hSA := Ten.on (w9 := w9) (g := w.heap.size) (g3 := w3.heap.size) (g9 := g9) (gs := gs) (K1 := K1) (t1 := t1) (z1 := z1) (A1 := A1) (n1 := n1) (c1 := c1) (d := d) hHeld hbA
              refine hK.out _ _ hSA (fun hHeld => ?_)
              clear hK K
              try simp only [Act.put, List.setIfInBounds_toArray, List.set_cons_zero, List.set_cons_succ]
              refine wpAnyH_take (i := 4) (oi := ⟨some 45, _, _, _, _, _⟩) (v := ?_) rfl (by kernel_rfl) (by kernel_rfl) (by kernel_rfl) (fun _ _ _ h => h) (Or.inl ⟨by rfl, ?yy4⟩) hHeld ?rr4
              case yy4 => ((intro w hSw; (try dsimp only at hSw); go_simp) <;> (try with_reducible rfl))
              try simp only [Act.put, List.setIfInBounds_toArray, List.set_cons_zero, List.set_cons_succ]
              refine wpAnyH_take (i := 5) (oi := ⟨some 46, _, _, _, _, _⟩) (v := undef) rfl (by kernel_rfl) (by kernel_rfl) (by kernel_rfl) (fun _ _ _ h => h) (Or.inr ⟨by rfl, rfl⟩) hHeld ?_
              try simp only [Act.put, List.setIfInBounds_toArray, List.set_cons_zero, List.set_cons_succ]
              refine wpAnyH_take (i := 6) (oi := ⟨some 47, _, _, _, _, _⟩) (v := ?_) rfl (by kernel_rfl) (by kernel_rfl) (by kernel_rfl) (fun _ _ _ h => h) (Or.inl ⟨by rfl, ?yy5⟩) hHeld ?rr5
              case yy5 => ((intro w hSw; (try dsimp only at hSw); go_simp) <;> (try with_reducible rfl))
              try simp only [Act.put, List.setIfInBounds_toArray, List.set_cons_zero, List.set_cons_succ]
              refine wpAnyH_take (i := 7) (oi := ⟨some 48, _, _, _, _, _⟩) (v := ?_) rfl (by kernel_rfl) (by kernel_rfl) (by kernel_rfl) (fun _ _ _ h => h) (Or.inl ⟨by rfl, ?yy6⟩) hHeld ?rr6
              case yy6 => ((intro w hSw; (try dsimp only at hSw); go_simp) <;> (try with_reducible rfl))
              try simp only [Act.put, List.setIfInBounds_toArray, List.set_cons_zero, List.set_cons_succ]
              refine wpAnyH_take (i := 8) (oi := ⟨some 49, _, _, _, _, _⟩) (v := ?_) rfl (by kernel_rfl) (by kernel_rfl) (by kernel_rfl) (fun _ _ _ h => h) (Or.inl ⟨by rfl, ?yy7⟩) hHeld ?rr7
              case yy7 => ((intro w hSw; (try dsimp only at hSw); go_simp) <;> (try with_reducible rfl))
              try simp only [Act.put, List.setIfInBounds_toArray, List.set_cons_zero, List.set_cons_succ]
              refine wpAnyH_take (i := 9) (oi := ⟨some 50, _, _, _, _, _⟩) (v := ?_) rfl (by kernel_rfl) (by kernel_rfl) (by kernel_rfl) (fun _ _ _ h => h) (Or.inl ⟨by rfl, ?yy8⟩) hHeld ?rr8
              case yy8 => ((intro w hSw; (try dsimp only at hSw); go_simp) <;> (try with_reducible rfl))
              try simp only [Act.put, List.setIfInBounds_toArray, List.set_cons_zero, List.set_cons_succ]
              refine wpAnyH_take (i := 10) (oi := ⟨some 51, _, _, _, _, _⟩) (v := ?_) rfl (by kernel_rfl) (by kernel_rfl) (by kernel_rfl) (fun _ _ _ h => h) (Or.inl ⟨by rfl, ?yy9⟩) hHeld ?rr9
              case yy9 => ((intro w hSw; (try dsimp only at hSw); go_simp) <;> (try with_reducible rfl))
              try simp only [Act.put, List.setIfInBounds_toArray, List.set_cons_zero, List.set_cons_succ]
              refine wpAnyH_take (i := 12) (oi := ⟨some 53, _, _, _, _, _⟩) (v := ?_) rfl (by kernel_rfl) (by kernel_rfl) (by kernel_rfl) (fun _ _ _ h => h) (Or.inl ⟨by rfl, ?yy10⟩) hHeld ?rr10
              case yy10 => ((intro w hSw; (try dsimp only at hSw); go_simp) <;> (try with_reducible rfl))
              try simp only [Act.put, List.setIfInBounds_toArray, List.set_cons_zero, List.set_cons_succ]
              refine wpAnyH_ready (rs := [11]) (by kernel_rfl) (by simp) ?_
              refine AllReadyH.cons (o := ⟨some 52, _, _, _, _, _⟩) rfl (fun K hK => ?_) ?_
              · go_simp
                go_at_call 11
                refine (HSome.out _ (Ten.bel (w9 := w9) (g := w.heap.size) (g3 := w3.heap.size) (g9 := g9) (gs := gs) (K1 := K1) (t1 := t1) (z1 := z1) (A1 := A1) (n1 := n1) (c1 := c1) (d := d) hHeld)).mono ?_
                rintro e wB ⟨rfl, hbB⟩
                have hSB := Ten.on (w9 := w9) (g := w.heap.size) (g3 := w3.heap.size) (g9 := g9) (gs := gs) (K1 := K1) (t1 := t1) (z1 := z1) (A1 := A1) (n1 := n1) (c1 := c1) (d := d) hHeld hbB
                refine hK.out _ _ hSB (fun hHeld => ?_)
                clear hK K
                try simp only [Act.put, List.setIfInBounds_toArray, List.set_cons_zero, List.set_cons_succ]
                refine wpAnyH_take (i := 13) (oi := ⟨some 54, _, _, _, _, _⟩) (v := ?_) rfl (by kernel_rfl) (by kernel_rfl) (by kernel_rfl) (fun _ _ _ h => h) (Or.inl ⟨by rfl, ?yy11⟩) hHeld ?rr11
                case yy11 => ((intro w hSw; (try dsimp only at hSw); go_simp) <;> (try with_reducible rfl))
                try simp only [Act.put, List.setIfInBounds_toArray, List.set_cons_zero, List.set_cons_succ]
                refine wpAnyH_take (i := 14) (oi := ⟨some 55, _, _, _, _, _⟩) (v := ?_) rfl (by kernel_rfl) (by kernel_rfl) (by kernel_rfl) (fun _ _ _ h => h) (Or.inl ⟨by rfl, ?yy12⟩) hHeld ?rr12
                case yy12 => ((intro w hSw; (try dsimp only at hSw); go_simp) <;> (try with_reducible rfl))
                try simp only [Act.put, List.setIfInBounds_toArray, List.set_cons_zero, List.set_cons_succ]
                refine wpAnyH_take (i := 15) (oi := ⟨some 56, _, _, _, _, _⟩) (v := ?_) rfl (by kernel_rfl) (by kernel_rfl) (by kernel_rfl) (fun _ _ _ h => h) (Or.inl ⟨by rfl, ?yy13⟩) hHeld ?rr13
                case yy13 => ((intro w hSw; (try dsimp only at hSw); go_simp) <;> (try with_reducible rfl))
                try simp only [Act.put, List.setIfInBounds_toArray, List.set_cons_zero, List.set_cons_succ]
                refine wpAnyH_take (i := 16) (oi := ⟨some 57, _, _, _, _, _⟩) (v := ?_) rfl (by kernel_rfl) (by kernel_rfl) (by kernel_rfl) (fun _ _ _ h => h) (Or.inl ⟨by rfl, ?yy14⟩) hHeld ?rr14
                case yy14 => ((intro w hSw; (try dsimp only at hSw); go_simp) <;> (try with_reducible rfl))
                try simp only [Act.put, List.setIfInBounds_toArray, List.set_cons_zero, List.set_cons_succ]
                refine wpAnyH_take (i := 17) (oi := ⟨some 58, _, _, _, _, _⟩) (v := ?_) rfl (by kernel_rfl) (by kernel_rfl) (by kernel_rfl) (fun _ _ _ h => h) (Or.inl ⟨by rfl, ?yy15⟩) hHeld ?rr15
                case yy15 => ((intro w hSw; (try dsimp only at hSw); go_simp) <;> (try with_reducible rfl))
                try simp only [Act.put, List.setIfInBounds_toArray, List.set_cons_zero, List.set_cons_succ]
                refine wpAnyH_take (i := 18) (oi := ⟨some 59, _, _, _, _, _⟩) (v := ?_) rfl (by kernel_rfl) (by kernel_rfl) (by kernel_rfl) (fun _ _ _ h => h) (Or.inl ⟨by rfl, ?yy16⟩) hHeld ?rr16
                case yy16 => ((intro w hSw; (try dsimp only at hSw); go_simp) <;> (try with_reducible rfl))
                try simp only [Act.put, List.setIfInBounds_toArray, List.set_cons_zero, List.set_cons_succ]
                refine wpAnyH_take (i := 19) (oi := ⟨some 60, _, _, _, _, _⟩) (v := ?_) rfl (by kernel_rfl) (by kernel_rfl) (by kernel_rfl) (fun _ _ _ h => h) (Or.inl ⟨by rfl, ?yy17⟩) hHeld ?rr17
                case yy17 => ((intro w hSw; (try dsimp only at hSw); go_simp) <;> (try with_reducible rfl))
                try simp only [Act.put, List.setIfInBounds_toArray, List.set_cons_zero, List.set_cons_succ]
                refine wpAnyH_take (i := 21) (oi := ⟨some 62, _, _, _, _, _⟩) (v := ?_) rfl (by kernel_rfl) (by kernel_rfl) (by kernel_rfl) (fun _ _ _ h => h) (Or.inl ⟨by rfl, ?yy18⟩) hHeld ?rr18
                case yy18 => ((intro w hSw; (try dsimp only at hSw); go_simp) <;> (try with_reducible rfl))
                try simp only [Act.put, List.setIfInBounds_toArray, List.set_cons_zero, List.set_cons_succ]
                refine wpAnyH_take (i := 23) (oi := ⟨some 64, _, _, _, _, _⟩) (v := ?_) rfl (by kernel_rfl) (by kernel_rfl) (by kernel_rfl) (fun _ _ _ h => h) (Or.inl ⟨by rfl, ?yy19⟩) hHeld ?rr19
                case yy19 => ((intro w hSw; (try dsimp only at hSw); go_simp) <;> (try with_reducible rfl))
                try simp only [Act.put, List.setIfInBounds_toArray, List.set_cons_zero, List.set_cons_succ]
                refine wpAnyH_take (i := 24) (oi := ⟨some 65, _, _, _, _, _⟩) (v := ?_) rfl (by kernel_rfl) (by kernel_rfl) (by kernel_rfl) (fun _ _ _ h => h) (Or.inl ⟨by rfl, ?yy20⟩) hHeld ?rr20
                case yy20 => ((intro w hSw; (try dsimp only at hSw); go_simp) <;> (try with_reducible rfl))
                try simp only [Act.put, List.setIfInBounds_toArray, List.set_cons_zero, List.set_cons_succ]
                refine wpAnyH_ready (rs := [20]) (by kernel_rfl) (by simp) ?_
                refine AllReadyH.cons (o := ⟨some 61, _, _, _, _, _⟩) rfl (fun K hK => ?_) ?_
                · go_simp
                  go_at_call 20
                  refine (not_any 4 [] 0 (some ⟨w3.heap.size + 1 + 1, 0, none⟩) 2 2 _).mono ?_
                  rintro e wC ⟨gC, rfl, hhC, hbC, hnC⟩
                  have hSC := Ten.on (w9 := w9) (g := w.heap.size) (g3 := w3.heap.size) (g9 := g9) (gs := gs) (K1 := K1) (t1 := t1) (z1 := z1) (A1 := A1) (n1 := n1) (c1 := c1) (d := d) hHeld hbC
                  refine hK.out _ _ hSC (fun hHeld => ?_)
                  clear hK K
                  try simp only [Act.put, List.setIfInBounds_toArray, List.set_cons_zero, List.set_cons_succ]
                  refine wpAnyH_ready (rs := [22]) (by kernel_rfl) (by simp) ?_
                  refine AllReadyH.cons (o := ⟨some 63, _, _, _, _, _⟩) rfl (fun K hK => ?_) ?_
                  · go_simp
                    go_at_call 11
                    refine (HNS.out _ gC (Ten.bel (w9 := w9) (g := w.heap.size) (g3 := w3.heap.size) (g9 := g9) (gs := gs) (K1 := K1) (t1 := t1) (z1 := z1) (A1 := A1) (n1 := n1) (c1 := c1) (d := d) hHeld) hhC).mono ?_
                    rintro e wD ⟨rfl, hbD⟩
                    have hSD := Ten.on (w9 := w9) (g := w.heap.size) (g3 := w3.heap.size) (g9 := g9) (gs := gs) (K1 := K1) (t1 := t1) (z1 := z1) (A1 := A1) (n1 := n1) (c1 := c1) (d := d) hHeld hbD
                    refine hK.out _ _ hSD (fun hHeld => ?_)
                    clear hK K
                    try simp only [Act.put, List.setIfInBounds_toArray, List.set_cons_zero, List.set_cons_succ]
                    refine wpAnyH_ready (rs := [25]) (by kernel_rfl) (by simp) ?_
                    refine AllReadyH.cons (o := ⟨some 66, _, _, _, _, _⟩) rfl (fun K hK => ?_) ?_
                    · go_simp
                      go_at_call 11
                      refine (HParts.out _ (Ten.bel (w9 := w9) (g := w.heap.size) (g3 := w3.heap.size) (g9 := g9) (gs := gs) (K1 := K1) (t1 := t1) (z1 := z1) (A1 := A1) (n1 := n1) (c1 := c1) (d := d) hHeld)).mono ?_
                      rintro e wE ⟨rfl, hbE⟩
                      have hSE := Ten.on (w9 := w9) (g := w.heap.size) (g3 := w3.heap.size) (g9 := g9) (gs := gs) (K1 := K1) (t1 := t1) (z1 := z1) (A1 := A1) (n1 := n1) (c1 := c1) (d := d) hHeld hbE
                      refine hK.out _ _ hSE (fun hHeld => ?_)
                      clear hK K
                      try simp only [Act.put, List.setIfInBounds_toArray, List.set_cons_zero, List.set_cons_succ]
                      refine wpAnyH_take (i := 26) (oi := ⟨some 67, _, _, _, _, _⟩) (v := ?_) rfl (by kernel_rfl) (by kernel_rfl) (by kernel_rfl) (fun _ _ _ h => h) (Or.inl ⟨by rfl, ?yy21⟩) hHeld ?rr21
                      case yy21 => ((intro w hSw; (try dsimp only at hSw); go_simp) <;> (try with_reducible rfl))
                      try simp only [Act.put, List.setIfInBounds_toArray, List.set_cons_zero, List.set_cons_succ]
                      refine wpAnyH_take (i := 27) (oi := ⟨some 68, _, _, _, _, _⟩) (v := ?_) rfl (by kernel_rfl) (by kernel_rfl) (by kernel_rfl) (fun _ _ _ h => h) (Or.inl ⟨by rfl, ?yy22⟩) hHeld ?rr22
                      case yy22 => ((intro w hSw; (try dsimp only at hSw); go_simp) <;> (try with_reducible rfl))
                      try simp only [Act.put, List.setIfInBounds_toArray, List.set_cons_zero, List.set_cons_succ]
                      refine wpAnyH_take (i := 28) (oi := ⟨some 69, _, _, _, _, _⟩) (v := ?_) rfl (by kernel_rfl) (by kernel_rfl) (by kernel_rfl) (fun _ _ _ h => h) (Or.inl ⟨by rfl, ?yy23⟩) hHeld ?rr23
                      case yy23 => ((intro w hSw; (try dsimp only at hSw); go_simp) <;> (try with_reducible rfl))
                      try simp only [Act.put, List.setIfInBounds_toArray, List.set_cons_zero, List.set_cons_succ]
                      refine wpAnyH_take (i := 29) (oi := ⟨some 70, _, _, _, _, _⟩) (v := ?_) rfl (by kernel_rfl) (by kernel_rfl) (by kernel_rfl) (fun _ _ _ h => h) (Or.inl ⟨by rfl, ?yy24⟩) hHeld ?rr24
                      case yy24 => ((intro w hSw; (try dsimp only at hSw); go_simp) <;> (try with_reducible rfl))
                      try simp only [Act.put, List.setIfInBounds_toArray, List.set_cons_zero, List.set_cons_succ]
                      refine wpAnyH_take (i := 32) (oi := ⟨some 73, _, _, _, _, _⟩) (v := ?_) rfl (by kernel_rfl) (by kernel_rfl) (by kernel_rfl) (fun _ _ _ h => h) (Or.inl ⟨by rfl, ?yy25⟩) hHeld ?rr25
                      case yy25 => ((intro w hSw; (try dsimp only at hSw); go_simp) <;> (try with_reducible rfl))
                      try simp only [Act.put, List.setIfInBounds_toArray, List.set_cons_zero, List.set_cons_succ]
                      refine wpAnyH_take (i := 34) (oi := ⟨some 75, _, _, _, _, _⟩) (v := ?_) rfl (by kernel_rfl) (by kernel_rfl) (by kernel_rfl) (fun _ _ _ h => h) (Or.inl ⟨by rfl, ?yy26⟩) hHeld ?rr26
                      case yy26 => ((intro w hSw; (try dsimp only at hSw); go_simp) <;> (try with_reducible rfl))
                      try simp only [Act.put, List.setIfInBounds_toArray, List.set_cons_zero, List.set_cons_succ]
                      refine wpAnyH_ready (rs := [30]) (by kernel_rfl) (by simp) ?_
                      refine AllReadyH.cons (o := ⟨some 71, _, _, _, _, _⟩) rfl (fun K hK => ?_) ?_
                      · go_simp
                        go_at_call 20
                        refine (not_any K1 t1 z1 A1 n1 c1 _).mono ?_
                        rintro e wF ⟨gF, rfl, hhF, hbF, hnF⟩
                        have hSF := Ten.on (w9 := w9) (g := w.heap.size) (g3 := w3.heap.size) (g9 := g9) (gs := gs) (K1 := K1) (t1 := t1) (z1 := z1) (A1 := A1) (n1 := n1) (c1 := c1) (d := d) hHeld hbF
                        refine hK.out _ _ hSF (fun hHeld => ?_)
                        clear hK K
                        try simp only [Act.put, List.setIfInBounds_toArray, List.set_cons_zero, List.set_cons_succ]
                        refine wpAnyH_ready (rs := [31]) (by kernel_rfl) (by simp) ?_
                        refine AllReadyH.cons (o := ⟨some 72, _, _, _, _, _⟩) rfl (fun K hK => ?_) ?_
                        · go_simp
                          go_at_call 20
                          refine (not_any 5 [] 0 (some ⟨gF, 0, none⟩) 1 1 _).mono ?_
                          rintro e wG ⟨gG, rfl, hhG, hbG, hnG⟩
                          have hSG := Ten.on (w9 := w9) (g := w.heap.size) (g3 := w3.heap.size) (g9 := g9) (gs := gs) (K1 := K1) (t1 := t1) (z1 := z1) (A1 := A1) (n1 := n1) (c1 := c1) (d := d) hHeld hbG
                          refine hK.out _ _ hSG (fun hHeld => ?_)
                          clear hK K
                          try simp only [Act.put, List.setIfInBounds_toArray, List.set_cons_zero, List.set_cons_succ]
                          refine wpAnyH_ready (rs := [33]) (by kernel_rfl) (by simp) ?_
                          refine AllReadyH.cons (o := ⟨some 74, _, _, _, _, _⟩) rfl (fun K hK => ?_) ?_
                          · go_simp
                            go_at_call 11
                            refine (HNN.out _ gF gG (Ten.bel (w9 := w9) (g := w.heap.size) (g3 := w3.heap.size) (g9 := g9) (gs := gs) (K1 := K1) (t1 := t1) (z1 := z1) (A1 := A1) (n1 := n1) (c1 := c1) (d := d) hHeld) ((hbG.block _ (heapLt hhF)).trans hhF) hhG).mono ?_
                            rintro e wH ⟨rfl, hbH⟩
                            have hSH := Ten.on (w9 := w9) (g := w.heap.size) (g3 := w3.heap.size) (g9 := g9) (gs := gs) (K1 := K1) (t1 := t1) (z1 := z1) (A1 := A1) (n1 := n1) (c1 := c1) (d := d) hHeld hbH
                            refine hK.out _ _ hSH (fun hHeld => ?_)
                            clear hK K
                            try simp only [Act.put, List.setIfInBounds_toArray, List.set_cons_zero, List.set_cons_succ]
                            refine wpAnyH_take (i := 35) (oi := ⟨some 76, _, _, _, _, _⟩) (v := ?_) rfl (by kernel_rfl) (by kernel_rfl) (by kernel_rfl) (fun _ _ _ h => h) (Or.inl ⟨by rfl, ?yy27⟩) hHeld ?rr27
                            case yy27 => ((intro w hSw; (try dsimp only at hSw); go_simp) <;> (try with_reducible rfl))
                            try simp only [Act.put, List.setIfInBounds_toArray, List.set_cons_zero, List.set_cons_succ]
                            refine wpAnyH_take (i := 36) (oi := ⟨some 77, _, _, _, _, _⟩) (v := ?_) rfl (by kernel_rfl) (by kernel_rfl) (by kernel_rfl) (fun _ _ _ h => h) (Or.inl ⟨by rfl, ?yy28⟩) hHeld ?rr28
                            case yy28 => ((intro w hSw; (try dsimp only at hSw); go_simp) <;> (try with_reducible rfl))
                            try simp only [Act.put, List.setIfInBounds_toArray, List.set_cons_zero, List.set_cons_succ]
                            refine wpAnyH_take (i := 37) (oi := ⟨some 6, _, _, _, _, _⟩) (v := ?_) rfl (by kernel_rfl) (by kernel_rfl) (by kernel_rfl) (fun _ _ _ h => h) (Or.inl ⟨by rfl, ?yy29⟩) hHeld ?rr29
                            case yy29 => ((intro w hSw; (try dsimp only at hSw); go_simp) <;> (try with_reducible rfl))
                            try simp only [Act.put, List.setIfInBounds_toArray, List.set_cons_zero, List.set_cons_succ]
                            refine wpAnyH_done (by kernel_rfl) ?_ _
                            have HBB := Lib.hid (Ten.bel (w9 := w9) (g := w.heap.size) (g3 := w3.heap.size) (g9 := g9) (gs := gs) (K1 := K1) (t1 := t1) (z1 := z1) (A1 := A1) (n1 := n1) (c1 := c1) (d := d) hHeld)
                            have HBZ := Lib.hid (HB9.out.trans (HBB.out.mono HB9.out.size))
                            clear hHeld
                            go_wp2
                            go_ret
                            exact ⟨rfl, HBZ.out⟩
                          exact AllReadyH.nil
                        exact AllReadyH.nil
                      exact AllReadyH.nil
                    exact AllReadyH.nil
                  exact AllReadyH.nil
                exact AllReadyH.nil
              exact AllReadyH.nil
            exact AllReadyH.nil
        · as_aux_lemma =>
            try simp only [Bool.or_true] at HBoth HSome HParts HNS HNN
            try simp only [Bool.or_false] at HBoth HSome HParts HNS HNN
            try simp only [Bool.not_true] at HBoth HSome HParts HNS HNN
            try simp only [Bool.not_false] at HBoth HSome HParts HNS HNN
            try simp only [Bool.and_true] at HBoth HSome HParts HNS HNN
            try simp only [Bool.and_false] at HBoth HSome HParts HNS HNN
            try simp only [Bool.not_true] at HBoth HSome HParts HNS HNN
            try simp only [Bool.not_false] at HBoth HSome HParts HNS HNN
            go_wp2_with fail
            refine wp_region_held_drew (S := fun W => W.cell? ⟨w3.heap.size + 1, 0, none⟩ = some (.int .u8 3) ∧ W.cell? ⟨w3.heap.size + 1, 1, none⟩ = some (.string ⟨#[]⟩) ∧ W.cell? ⟨w3.heap.size + 1, 2, none⟩ = some (.int .i64 0) ∧ W.cell? ⟨w3.heap.size + 1, 3, none⟩ = some (.slice (some ⟨w3.heap.size, 0, none⟩) 2 2) ∧ W.cell? ⟨w3.heap.size + 1 + 1 + 1, 0, none⟩ = some (.int .u8 4) ∧ W.cell? ⟨w3.heap.size + 1 + 1 + 1, 1, none⟩ = some (.string ⟨#[]⟩) ∧ W.cell? ⟨w3.heap.size + 1 + 1 + 1, 2, none⟩ = some (.int .i64 0) ∧ W.cell? ⟨w3.heap.size + 1 + 1 + 1, 3, none⟩ = some (.slice (some ⟨w3.heap.size + 1 + 1, 0, none⟩) 2 2) ∧ W.cell? ⟨g9, 0, none⟩ = some (.int .u8 3) ∧ W.cell? ⟨g9, 1, none⟩ = some (.string ⟨#[]⟩) ∧ W.cell? ⟨g9, 2, none⟩ = some (.int .i64 0) ∧ W.cell? ⟨g9, 3, none⟩ = some (.slice (some ⟨gs, 0, none⟩) 2 2) ∧ W.cell? ⟨w.heap.size, 0, none⟩ = some (.int .u8 K1) ∧ W.cell? ⟨w.heap.size, 1, none⟩ = some (.string ⟨t1.toArray⟩) ∧ W.cell? ⟨w.heap.size, 2, none⟩ = some (.int .i64 z1) ∧ W.cell? ⟨w.heap.size, 3, none⟩ = some (.slice A1 n1 c1) ∧ W.cell? ⟨w.heap.size + 1 + 1, 0, none⟩ = some (.string ⟨d.id.toArray⟩) ∧ W.cell? ⟨w.heap.size + 1 + 1, 1, none⟩ = some (.int .i64 d.time) ∧ W.cell? ⟨w.heap.size + 1 + 1, 2, none⟩ = some (.string ⟨d.text.toArray⟩) ∧ Below w9.heap.size w9 W) (by kernel_rfl) HXTd.out (fun hHeld => ?_)
            refine wpAnyH_take (i := 0) (oi := ⟨some 41, _, _, _, _, _⟩) (v := ?_) rfl (by kernel_rfl) (by kernel_rfl) (by kernel_rfl) (fun _ _ _ h => h) (Or.inl ⟨by rfl, ?yy30⟩) hHeld ?rr30
            case yy30 => ((intro w hSw; (try dsimp only at hSw); go_simp) <;> (try with_reducible rfl))
            try simp only [Act.put, List.setIfInBounds_toArray, List.set_cons_zero, List.set_cons_succ]
            refine wpAnyH_take (i := 1) (oi := ⟨some 42, _, _, _, _, _⟩) (v := ?_) rfl (by kernel_rfl) (by kernel_rfl) (by kernel_rfl) (fun _ _ _ h => h) (Or.inl ⟨by rfl, ?yy31⟩) hHeld ?rr31
            case yy31 => ((intro w hSw; (try dsimp only at hSw); go_simp) <;> (try with_reducible rfl))
            try simp only [Act.put, List.setIfInBounds_toArray, List.set_cons_zero, List.set_cons_succ]
            refine wpAnyH_take (i := 3) (oi := ⟨some 44, _, _, _, _, _⟩) (v := ?_) rfl (by kernel_rfl) (by kernel_rfl) (by kernel_rfl) (fun _ _ _ h => h) (Or.inl ⟨by rfl, ?yy32⟩) hHeld ?rr32
            case yy32 => ((intro w hSw; (try dsimp only at hSw); go_simp) <;> (try with_reducible rfl))
            try simp only [Act.put, List.setIfInBounds_toArray, List.set_cons_zero, List.set_cons_succ]
            refine wpAnyH_ready (rs := [2]) (by kernel_rfl) (by simp) ?_
            refine AllReadyH.cons (o := ⟨some 43, _, _, _, _, _⟩) rfl (fun K hK => ?_) ?_
            · go_simp
              go_at_call 11
              refine (HBoth.out _ (Ten.bel (w9 := w9) (g := w.heap.size) (g3 := w3.heap.size) (g9 := g9) (gs := gs) (K1 := K1) (t1 := t1) (z1 := z1) (A1 := A1) (n1 := n1) (c1 := c1) (d := d) hHeld)).mono ?_
              rintro e wA ⟨rfl, hbA⟩
              have hSA := Ten.on (w9 := w9) (g := w.heap.size) (g3 := w3.heap.size) (g9 := g9) (gs := gs) (K1 := K1) (t1 := t1) (z1 := z1) (A1 := A1) (n1 := n1) (c1 := c1) (d := d) hHeld hbA
              refine hK.out _ _ hSA (fun hHeld => ?_)
              clear hK K
              try simp only [Act.put, List.setIfInBounds_toArray, List.set_cons_zero, List.set_cons_succ]
              refine wpAnyH_take (i := 4) (oi := ⟨some 45, _, _, _, _, _⟩) (v := ?_) rfl (by kernel_rfl) (by kernel_rfl) (by kernel_rfl) (fun _ _ _ h => h) (Or.inl ⟨by rfl, ?yy33⟩) hHeld ?rr33
              case yy33 => ((intro w hSw; (try dsimp only at hSw); go_simp) <;> (try with_reducible rfl))
              try simp only [Act.put, List.setIfInBounds_toArray, List.set_cons_zero, List.set_cons_succ]
              refine wpAnyH_take (i := 5) (oi := ⟨some 46, _, _, _, _, _⟩) (v := undef) rfl (by kernel_rfl) (by kernel_rfl) (by kernel_rfl) (fun _ _ _ h => h) (Or.inr ⟨by rfl, rfl⟩) hHeld ?_
              try simp only [Act.put, List.setIfInBounds_toArray, List.set_cons_zero, List.set_cons_succ]
              refine wpAnyH_take (i := 6) (oi := ⟨some 47, _, _, _, _, _⟩) (v := ?_) rfl (by kernel_rfl) (by kernel_rfl) (by kernel_rfl) (fun _ _ _ h => h) (Or.inl ⟨by rfl, ?yy34⟩) hHeld ?rr34
              case yy34 => ((intro w hSw; (try dsimp only at hSw); go_simp) <;> (try with_reducible rfl))
              try simp only [Act.put, List.setIfInBounds_toArray, List.set_cons_zero, List.set_cons_succ]
              refine wpAnyH_take (i := 7) (oi := ⟨some 48, _, _, _, _, _⟩) (v := ?_) rfl (by kernel_rfl) (by kernel_rfl) (by kernel_rfl) (fun _ _ _ h => h) (Or.inl ⟨by rfl, ?yy35⟩) hHeld ?rr35
              case yy35 => ((intro w hSw; (try dsimp only at hSw); go_simp) <;> (try with_reducible rfl))
              try simp only [Act.put, List.setIfInBounds_toArray, List.set_cons_zero, List.set_cons_succ]
              refine wpAnyH_take (i := 8) (oi := ⟨some 49, _, _, _, _, _⟩) (v := ?_) rfl (by kernel_rfl) (by kernel_rfl) (by kernel_rfl) (fun _ _ _ h => h) (Or.inl ⟨by rfl, ?yy36⟩) hHeld ?rr36
              case yy36 => ((intro w hSw; (try dsimp only at hSw); go_simp) <;> (try with_reducible rfl))
              try simp only [Act.put, List.setIfInBounds_toArray, List.set_cons_zero, List.set_cons_succ]
              refine wpAnyH_take (i := 9) (oi := ⟨some 50, _, _, _, _, _⟩) (v := ?_) rfl (by kernel_rfl) (by kernel_rfl) (by kernel_rfl) (fun _ _ _ h => h) (Or.inl ⟨by rfl, ?yy37⟩) hHeld ?rr37
              case yy37 => ((intro w hSw; (try dsimp only at hSw); go_simp) <;> (try with_reducible rfl))
              try simp only [Act.put, List.setIfInBounds_toArray, List.set_cons_zero, List.set_cons_succ]
              refine wpAnyH_take (i := 10) (oi := ⟨some 51, _, _, _, _, _⟩) (v := ?_) rfl (by kernel_rfl) (by kernel_rfl) (by kernel_rfl) (fun _ _ _ h => h) (Or.inl ⟨by rfl, ?yy38⟩) hHeld ?rr38
              case yy38 => ((intro w hSw; (try dsimp only at hSw); go_simp) <;> (try with_reducible rfl))
              try simp only [Act.put, List.setIfInBounds_toArray, List.set_cons_zero, List.set_cons_succ]
              refine wpAnyH_take (i := 12) (oi := ⟨some 53, _, _, _, _, _⟩) (v := ?_) rfl (by kernel_rfl) (by kernel_rfl) (by kernel_rfl) (fun _ _ _ h => h) (Or.inl ⟨by rfl, ?yy39⟩) hHeld ?rr39
              case yy39 => ((intro w hSw; (try dsimp only at hSw); go_simp) <;> (try with_reducible rfl))
              try simp only [Act.put, List.setIfInBounds_toArray, List.set_cons_zero, List.set_cons_succ]
              refine wpAnyH_ready (rs := [11]) (by kernel_rfl) (by simp) ?_
              refine AllReadyH.cons (o := ⟨some 52, _, _, _, _, _⟩) rfl (fun K hK => ?_) ?_
              · go_simp
                go_at_call 11
                refine (HSome.out _ (Ten.bel (w9 := w9) (g := w.heap.size) (g3 := w3.heap.size) (g9 := g9) (gs := gs) (K1 := K1) (t1 := t1) (z1 := z1) (A1 := A1) (n1 := n1) (c1 := c1) (d := d) hHeld)).mono ?_
                rintro e wB ⟨rfl, hbB⟩
                have hSB := Ten.on (w9 := w9) (g := w.heap.size) (g3 := w3.heap.size) (g9 := g9) (gs := gs) (K1 := K1) (t1 := t1) (z1 := z1) (A1 := A1) (n1 := n1) (c1 := c1) (d := d) hHeld hbB
                refine hK.out _ _ hSB (fun hHeld => ?_)
                clear hK K
                try simp only [Act.put, List.setIfInBounds_toArray, List.set_cons_zero, List.set_cons_succ]
                refine wpAnyH_take (i := 13) (oi := ⟨some 54, _, _, _, _, _⟩) (v := ?_) rfl (by kernel_rfl) (by kernel_rfl) (by kernel_rfl) (fun _ _ _ h => h) (Or.inl ⟨by rfl, ?yy40⟩) hHeld ?rr40
                case yy40 => ((intro w hSw; (try dsimp only at hSw); go_simp) <;> (try with_reducible rfl))
                try simp only [Act.put, List.setIfInBounds_toArray, List.set_cons_zero, List.set_cons_succ]
                refine wpAnyH_take (i := 14) (oi := ⟨some 55, _, _, _, _, _⟩) (v := ?_) rfl (by kernel_rfl) (by kernel_rfl) (by kernel_rfl) (fun _ _ _ h => h) (Or.inl ⟨by rfl, ?yy41⟩) hHeld ?rr41
                case yy41 => ((intro w hSw; (try dsimp only at hSw); go_simp) <;> (try with_reducible rfl))
                try simp only [Act.put, List.setIfInBounds_toArray, List.set_cons_zero, List.set_cons_succ]
                refine wpAnyH_take (i := 15) (oi := ⟨some 56, _, _, _, _, _⟩) (v := ?_) rfl (by kernel_rfl) (by kernel_rfl) (by kernel_rfl) (fun _ _ _ h => h) (Or.inl ⟨by rfl, ?yy42⟩) hHeld ?rr42
                case yy42 => ((intro w hSw; (try dsimp only at hSw); go_simp) <;> (try with_reducible rfl))
                try simp only [Act.put, List.setIfInBounds_toArray, List.set_cons_zero, List.set_cons_succ]
                refine wpAnyH_take (i := 16) (oi := ⟨some 57, _, _, _, _, _⟩) (v := ?_) rfl (by kernel_rfl) (by kernel_rfl) (by kernel_rfl) (fun _ _ _ h => h) (Or.inl ⟨by rfl, ?yy43⟩) hHeld ?rr43
                case yy43 => ((intro w hSw; (try dsimp only at hSw); go_simp) <;> (try with_reducible rfl))
                try simp only [Act.put, List.setIfInBounds_toArray, List.set_cons_zero, List.set_cons_succ]
                refine wpAnyH_take (i := 17) (oi := ⟨some 58, _, _, _, _, _⟩) (v := ?_) rfl (by kernel_rfl) (by kernel_rfl) (by kernel_rfl) (fun _ _ _ h => h) (Or.inl ⟨by rfl, ?yy44⟩) hHeld ?rr44
                case yy44 => ((intro w hSw; (try dsimp only at hSw); go_simp) <;> (try with_reducible rfl))
                try simp only [Act.put, List.setIfInBounds_toArray, List.set_cons_zero, List.set_cons_succ]
                refine wpAnyH_take (i := 18) (oi := ⟨some 59, _, _, _, _, _⟩) (v := ?_) rfl (by kernel_rfl) (by kernel_rfl) (by kernel_rfl) (fun _ _ _ h => h) (Or.inl ⟨by rfl, ?yy45⟩) hHeld ?rr45
                case yy45 => ((intro w hSw; (try dsimp only at hSw); go_simp) <;> (try with_reducible rfl))
                try simp only [Act.put, List.setIfInBounds_toArray, List.set_cons_zero, List.set_cons_succ]
                refine wpAnyH_take (i := 19) (oi := ⟨some 60, _, _, _, _, _⟩) (v := ?_) rfl (by kernel_rfl) (by kernel_rfl) (by kernel_rfl) (fun _ _ _ h => h) (Or.inl ⟨by rfl, ?yy46⟩) hHeld ?rr46
                case yy46 => ((intro w hSw; (try dsimp only at hSw); go_simp) <;> (try with_reducible rfl))
                try simp only [Act.put, List.setIfInBounds_toArray, List.set_cons_zero, List.set_cons_succ]
                refine wpAnyH_take (i := 21) (oi := ⟨some 62, _, _, _, _, _⟩) (v := ?_) rfl (by kernel_rfl) (by kernel_rfl) (by kernel_rfl) (fun _ _ _ h => h) (Or.inl ⟨by rfl, ?yy47⟩) hHeld ?rr47
                case yy47 => ((intro w hSw; (try dsimp only at hSw); go_simp) <;> (try with_reducible rfl))
                try simp only [Act.put, List.setIfInBounds_toArray, List.set_cons_zero, List.set_cons_succ]
                refine wpAnyH_take (i := 23) (oi := ⟨some 64, _, _, _, _, _⟩) (v := ?_) rfl (by kernel_rfl) (by kernel_rfl) (by kernel_rfl) (fun _ _ _ h => h) (Or.inl ⟨by rfl, ?yy48⟩) hHeld ?rr48
                case yy48 => ((intro w hSw; (try dsimp only at hSw); go_simp) <;> (try with_reducible rfl))
                try simp only [Act.put, List.setIfInBounds_toArray, List.set_cons_zero, List.set_cons_succ]
                refine wpAnyH_take (i := 24) (oi := ⟨some 65, _, _, _, _, _⟩) (v := ?_) rfl (by kernel_rfl) (by kernel_rfl) (by kernel_rfl) (fun _ _ _ h => h) (Or.inl ⟨by rfl, ?yy49⟩) hHeld ?rr49
                case yy49 => ((intro w hSw; (try dsimp only at hSw); go_simp) <;> (try with_reducible rfl))
                try simp only [Act.put, List.setIfInBounds_toArray, List.set_cons_zero, List.set_cons_succ]
                refine wpAnyH_ready (rs := [20]) (by kernel_rfl) (by simp) ?_
                refine AllReadyH.cons (o := ⟨some 61, _, _, _, _, _⟩) rfl (fun K hK => ?_) ?_
                · go_simp
                  go_at_call 20
                  refine (not_any 4 [] 0 (some ⟨w3.heap.size + 1 + 1, 0, none⟩) 2 2 _).mono ?_
                  rintro e wC ⟨gC, rfl, hhC, hbC, hnC⟩
                  have hSC := Ten.on (w9 := w9) (g := w.heap.size) (g3 := w3.heap.size) (g9 := g9) (gs := gs) (K1 := K1) (t1 := t1) (z1 := z1) (A1 := A1) (n1 := n1) (c1 := c1) (d := d) hHeld hbC
                  refine hK.out _ _ hSC (fun hHeld => ?_)
                  clear hK K
                  try simp only [Act.put, List.setIfInBounds_toArray, List.set_cons_zero, List.set_cons_succ]
                  refine wpAnyH_ready (rs := [22]) (by kernel_rfl) (by simp) ?_
                  refine AllReadyH.cons (o := ⟨some 63, _, _, _, _, _⟩) rfl (fun K hK => ?_) ?_
                  · go_simp
                    go_at_call 11
                    refine (HNS.out _ gC (Ten.bel (w9 := w9) (g := w.heap.size) (g3 := w3.heap.size) (g9 := g9) (gs := gs) (K1 := K1) (t1 := t1) (z1 := z1) (A1 := A1) (n1 := n1) (c1 := c1) (d := d) hHeld) hhC).mono ?_
                    rintro e wD ⟨rfl, hbD⟩
                    have hSD := Ten.on (w9 := w9) (g := w.heap.size) (g3 := w3.heap.size) (g9 := g9) (gs := gs) (K1 := K1) (t1 := t1) (z1 := z1) (A1 := A1) (n1 := n1) (c1 := c1) (d := d) hHeld hbD
                    refine hK.out _ _ hSD (fun hHeld => ?_)
                    clear hK K
                    try simp only [Act.put, List.setIfInBounds_toArray, List.set_cons_zero, List.set_cons_succ]
                    refine wpAnyH_ready (rs := [25]) (by kernel_rfl) (by simp) ?_
                    refine AllReadyH.cons (o := ⟨some 66, _, _, _, _, _⟩) rfl (fun K hK => ?_) ?_
                    · go_simp
                      go_at_call 11
                      refine (HParts.out _ (Ten.bel (w9 := w9) (g := w.heap.size) (g3 := w3.heap.size) (g9 := g9) (gs := gs) (K1 := K1) (t1 := t1) (z1 := z1) (A1 := A1) (n1 := n1) (c1 := c1) (d := d) hHeld)).mono ?_
                      rintro e wE ⟨rfl, hbE⟩
                      have hSE := Ten.on (w9 := w9) (g := w.heap.size) (g3 := w3.heap.size) (g9 := g9) (gs := gs) (K1 := K1) (t1 := t1) (z1 := z1) (A1 := A1) (n1 := n1) (c1 := c1) (d := d) hHeld hbE
                      refine hK.out _ _ hSE (fun hHeld => ?_)
                      clear hK K
                      try simp only [Act.put, List.setIfInBounds_toArray, List.set_cons_zero, List.set_cons_succ]
                      refine wpAnyH_take (i := 26) (oi := ⟨some 67, _, _, _, _, _⟩) (v := ?_) rfl (by kernel_rfl) (by kernel_rfl) (by kernel_rfl) (fun _ _ _ h => h) (Or.inl ⟨by rfl, ?yy50⟩) hHeld ?rr50
                      case yy50 => ((intro w hSw; (try dsimp only at hSw); go_simp) <;> (try with_reducible rfl))
                      try simp only [Act.put, List.setIfInBounds_toArray, List.set_cons_zero, List.set_cons_succ]
                      refine wpAnyH_take (i := 27) (oi := ⟨some 68, _, _, _, _, _⟩) (v := ?_) rfl (by kernel_rfl) (by kernel_rfl) (by kernel_rfl) (fun _ _ _ h => h) (Or.inl ⟨by rfl, ?yy51⟩) hHeld ?rr51
                      case yy51 => ((intro w hSw; (try dsimp only at hSw); go_simp) <;> (try with_reducible rfl))
                      try simp only [Act.put, List.setIfInBounds_toArray, List.set_cons_zero, List.set_cons_succ]
                      refine wpAnyH_take (i := 28) (oi := ⟨some 69, _, _, _, _, _⟩) (v := ?_) rfl (by kernel_rfl) (by kernel_rfl) (by kernel_rfl) (fun _ _ _ h => h) (Or.inl ⟨by rfl, ?yy52⟩) hHeld ?rr52
                      case yy52 => ((intro w hSw; (try dsimp only at hSw); go_simp) <;> (try with_reducible rfl))
                      try simp only [Act.put, List.setIfInBounds_toArray, List.set_cons_zero, List.set_cons_succ]
                      refine wpAnyH_take (i := 29) (oi := ⟨some 70, _, _, _, _, _⟩) (v := ?_) rfl (by kernel_rfl) (by kernel_rfl) (by kernel_rfl) (fun _ _ _ h => h) (Or.inl ⟨by rfl, ?yy53⟩) hHeld ?rr53
                      case yy53 => ((intro w hSw; (try dsimp only at hSw); go_simp) <;> (try with_reducible rfl))
                      try simp only [Act.put, List.setIfInBounds_toArray, List.set_cons_zero, List.set_cons_succ]
                      refine wpAnyH_take (i := 32) (oi := ⟨some 73, _, _, _, _, _⟩) (v := ?_) rfl (by kernel_rfl) (by kernel_rfl) (by kernel_rfl) (fun _ _ _ h => h) (Or.inl ⟨by rfl, ?yy54⟩) hHeld ?rr54
                      case yy54 => ((intro w hSw; (try dsimp only at hSw); go_simp) <;> (try with_reducible rfl))
                      try simp only [Act.put, List.setIfInBounds_toArray, List.set_cons_zero, List.set_cons_succ]
                      refine wpAnyH_take (i := 34) (oi := ⟨some 75, _, _, _, _, _⟩) (v := ?_) rfl (by kernel_rfl) (by kernel_rfl) (by kernel_rfl) (fun _ _ _ h => h) (Or.inl ⟨by rfl, ?yy55⟩) hHeld ?rr55
                      case yy55 => ((intro w hSw; (try dsimp only at hSw); go_simp) <;> (try with_reducible rfl))
                      try simp only [Act.put, List.setIfInBounds_toArray, List.set_cons_zero, List.set_cons_succ]
                      refine wpAnyH_ready (rs := [30]) (by kernel_rfl) (by simp) ?_
                      refine AllReadyH.cons (o := ⟨some 71, _, _, _, _, _⟩) rfl (fun K hK => ?_) ?_
                      · go_simp
                        go_at_call 20
                        refine (not_any K1 t1 z1 A1 n1 c1 _).mono ?_
                        rintro e wF ⟨gF, rfl, hhF, hbF, hnF⟩
                        have hSF := Ten.on (w9 := w9) (g := w.heap.size) (g3 := w3.heap.size) (g9 := g9) (gs := gs) (K1 := K1) (t1 := t1) (z1 := z1) (A1 := A1) (n1 := n1) (c1 := c1) (d := d) hHeld hbF
                        refine hK.out _ _ hSF (fun hHeld => ?_)
                        clear hK K
                        try simp only [Act.put, List.setIfInBounds_toArray, List.set_cons_zero, List.set_cons_succ]
                        refine wpAnyH_ready (rs := [31]) (by kernel_rfl) (by simp) ?_
                        refine AllReadyH.cons (o := ⟨some 72, _, _, _, _, _⟩) rfl (fun K hK => ?_) ?_
                        · go_simp
                          go_at_call 20
                          refine (not_any 5 [] 0 (some ⟨gF, 0, none⟩) 1 1 _).mono ?_
                          rintro e wG ⟨gG, rfl, hhG, hbG, hnG⟩
                          have hSG := Ten.on (w9 := w9) (g := w.heap.size) (g3 := w3.heap.size) (g9 := g9) (gs := gs) (K1 := K1) (t1 := t1) (z1 := z1) (A1 := A1) (n1 := n1) (c1 := c1) (d := d) hHeld hbG
                          refine hK.out _ _ hSG (fun hHeld => ?_)
                          clear hK K
                          try simp only [Act.put, List.setIfInBounds_toArray, List.set_cons_zero, List.set_cons_succ]
                          refine wpAnyH_ready (rs := [33]) (by kernel_rfl) (by simp) ?_
                          refine AllReadyH.cons (o := ⟨some 74, _, _, _, _, _⟩) rfl (fun K hK => ?_) ?_
                          · go_simp
                            go_at_call 11
                            refine (HNN.out _ gF gG (Ten.bel (w9 := w9) (g := w.heap.size) (g3 := w3.heap.size) (g9 := g9) (gs := gs) (K1 := K1) (t1 := t1) (z1 := z1) (A1 := A1) (n1 := n1) (c1 := c1) (d := d) hHeld) ((hbG.block _ (heapLt hhF)).trans hhF) hhG).mono ?_
                            rintro e wH ⟨rfl, hbH⟩
                            have hSH := Ten.on (w9 := w9) (g := w.heap.size) (g3 := w3.heap.size) (g9 := g9) (gs := gs) (K1 := K1) (t1 := t1) (z1 := z1) (A1 := A1) (n1 := n1) (c1 := c1) (d := d) hHeld hbH
                            refine hK.out _ _ hSH (fun hHeld => ?_)
                            clear hK K
                            try simp only [Act.put, List.setIfInBounds_toArray, List.set_cons_zero, List.set_cons_succ]
                            refine wpAnyH_take (i := 35) (oi := ⟨some 76, _, _, _, _, _⟩) (v := ?_) rfl (by kernel_rfl) (by kernel_rfl) (by kernel_rfl) (fun _ _ _ h => h) (Or.inl ⟨by rfl, ?yy56⟩) hHeld ?rr56
                            case yy56 => ((intro w hSw; (try dsimp only at hSw); go_simp) <;> (try with_reducible rfl))
                            try simp only [Act.put, List.setIfInBounds_toArray, List.set_cons_zero, List.set_cons_succ]
                            refine wpAnyH_take (i := 36) (oi := ⟨some 77, _, _, _, _, _⟩) (v := ?_) rfl (by kernel_rfl) (by kernel_rfl) (by kernel_rfl) (fun _ _ _ h => h) (Or.inl ⟨by rfl, ?yy57⟩) hHeld ?rr57
                            case yy57 => ((intro w hSw; (try dsimp only at hSw); go_simp) <;> (try with_reducible rfl))
                            try simp only [Act.put, List.setIfInBounds_toArray, List.set_cons_zero, List.set_cons_succ]
                            refine wpAnyH_take (i := 37) (oi := ⟨some 6, _, _, _, _, _⟩) (v := ?_) rfl (by kernel_rfl) (by kernel_rfl) (by kernel_rfl) (fun _ _ _ h => h) (Or.inl ⟨by rfl, ?yy58⟩) hHeld ?rr58
                            case yy58 => ((intro w hSw; (try dsimp only at hSw); go_simp) <;> (try with_reducible rfl))
                            try simp only [Act.put, List.setIfInBounds_toArray, List.set_cons_zero, List.set_cons_succ]
                            refine wpAnyH_done (by kernel_rfl) ?_ _
                            have HBB := Lib.hid (Ten.bel (w9 := w9) (g := w.heap.size) (g3 := w3.heap.size) (g9 := g9) (gs := gs) (K1 := K1) (t1 := t1) (z1 := z1) (A1 := A1) (n1 := n1) (c1 := c1) (d := d) hHeld)
                            have HBZ := Lib.hid (HB9.out.trans (HBB.out.mono HB9.out.size))
                            clear hHeld
                            go_wp2
                            go_ret
                            exact ⟨rfl, HBZ.out⟩
                          exact AllReadyH.nil
                        exact AllReadyH.nil
                      exact AllReadyH.nil
                    exact AllReadyH.nil
                  exact AllReadyH.nil
                exact AllReadyH.nil
              exact AllReadyH.nil
            exact AllReadyH.nil
        · as_aux_lemma =>
            try simp only [Bool.or_true] at HBoth HSome HParts HNS HNN
            try simp only [Bool.or_false] at HBoth HSome HParts HNS HNN
            try simp only [Bool.not_true] at HBoth HSome HParts HNS HNN
            try simp only [Bool.not_false] at HBoth HSome HParts HNS HNN
            try simp only [Bool.and_true] at HBoth HSome HParts HNS HNN
            try simp only [Bool.and_false] at HBoth HSome HParts HNS HNN
            try simp only [Bool.not_true] at HBoth HSome HParts HNS HNN
            try simp only [Bool.not_false] at HBoth HSome HParts HNS HNN
            go_wp2_with fail
            refine wp_region_held_drew (S := fun W => W.cell? ⟨w3.heap.size + 1, 0, none⟩ = some (.int .u8 3) ∧ W.cell? ⟨w3.heap.size + 1, 1, none⟩ = some (.string ⟨#[]⟩) ∧ W.cell? ⟨w3.heap.size + 1, 2, none⟩ = some (.int .i64 0) ∧ W.cell? ⟨w3.heap.size + 1, 3, none⟩ = some (.slice (some ⟨w3.heap.size, 0, none⟩) 2 2) ∧ W.cell? ⟨w3.heap.size + 1 + 1 + 1, 0, none⟩ = some (.int .u8 4) ∧ W.cell? ⟨w3.heap.size + 1 + 1 + 1, 1, none⟩ = some (.string ⟨#[]⟩) ∧ W.cell? ⟨w3.heap.size + 1 + 1 + 1, 2, none⟩ = some (.int .i64 0) ∧ W.cell? ⟨w3.heap.size + 1 + 1 + 1, 3, none⟩ = some (.slice (some ⟨w3.heap.size + 1 + 1, 0, none⟩) 2 2) ∧ W.cell? ⟨g9, 0, none⟩ = some (.int .u8 3) ∧ W.cell? ⟨g9, 1, none⟩ = some (.string ⟨#[]⟩) ∧ W.cell? ⟨g9, 2, none⟩ = some (.int .i64 0) ∧ W.cell? ⟨g9, 3, none⟩ = some (.slice (some ⟨gs, 0, none⟩) 2 2) ∧ W.cell? ⟨w.heap.size, 0, none⟩ = some (.int .u8 K1) ∧ W.cell? ⟨w.heap.size, 1, none⟩ = some (.string ⟨t1.toArray⟩) ∧ W.cell? ⟨w.heap.size, 2, none⟩ = some (.int .i64 z1) ∧ W.cell? ⟨w.heap.size, 3, none⟩ = some (.slice A1 n1 c1) ∧ W.cell? ⟨w.heap.size + 1 + 1, 0, none⟩ = some (.string ⟨d.id.toArray⟩) ∧ W.cell? ⟨w.heap.size + 1 + 1, 1, none⟩ = some (.int .i64 d.time) ∧ W.cell? ⟨w.heap.size + 1 + 1, 2, none⟩ = some (.string ⟨d.text.toArray⟩) ∧ Below w9.heap.size w9 W) (by kernel_rfl) HXTd.out (fun hHeld => ?_)
            refine wpAnyH_take (i := 0) (oi := ⟨some 41, _, _, _, _, _⟩) (v := ?_) rfl (by kernel_rfl) (by kernel_rfl) (by kernel_rfl) (fun _ _ _ h => h) (Or.inl ⟨by rfl, ?yy59⟩) hHeld ?rr59
            case yy59 => ((intro w hSw; (try dsimp only at hSw); go_simp) <;> (try with_reducible rfl))
            try simp only [Act.put, List.setIfInBounds_toArray, List.set_cons_zero, List.set_cons_succ]
            refine wpAnyH_take (i := 1) (oi := ⟨some 42, _, _, _, _, _⟩) (v := ?_) rfl (by kernel_rfl) (by kernel_rfl) (by kernel_rfl) (fun _ _ _ h => h) (Or.inl ⟨by rfl, ?yy60⟩) hHeld ?rr60
            case yy60 => ((intro w hSw; (try dsimp only at hSw); go_simp) <;> (try with_reducible rfl))
            try simp only [Act.put, List.setIfInBounds_toArray, List.set_cons_zero, List.set_cons_succ]
            refine wpAnyH_take (i := 3) (oi := ⟨some 44, _, _, _, _, _⟩) (v := ?_) rfl (by kernel_rfl) (by kernel_rfl) (by kernel_rfl) (fun _ _ _ h => h) (Or.inl ⟨by rfl, ?yy61⟩) hHeld ?rr61
            case yy61 => ((intro w hSw; (try dsimp only at hSw); go_simp) <;> (try with_reducible rfl))
            try simp only [Act.put, List.setIfInBounds_toArray, List.set_cons_zero, List.set_cons_succ]
            refine wpAnyH_ready (rs := [2]) (by kernel_rfl) (by simp) ?_
            refine AllReadyH.cons (o := ⟨some 43, _, _, _, _, _⟩) rfl (fun K hK => ?_) ?_
            · go_simp
              go_at_call 11
              refine (HBoth.out _ (Ten.bel (w9 := w9) (g := w.heap.size) (g3 := w3.heap.size) (g9 := g9) (gs := gs) (K1 := K1) (t1 := t1) (z1 := z1) (A1 := A1) (n1 := n1) (c1 := c1) (d := d) hHeld)).mono ?_
              rintro e wA ⟨rfl, hbA⟩
              have hSA := Ten.on (w9 := w9) (g := w.heap.size) (g3 := w3.heap.size) (g9 := g9) (gs := gs) (K1 := K1) (t1 := t1) (z1 := z1) (A1 := A1) (n1 := n1) (c1 := c1) (d := d) hHeld hbA
              refine hK.out _ _ hSA (fun hHeld => ?_)
              clear hK K
              try simp only [Act.put, List.setIfInBounds_toArray, List.set_cons_zero, List.set_cons_succ]
              refine wpAnyH_take (i := 4) (oi := ⟨some 45, _, _, _, _, _⟩) (v := ?_) rfl (by kernel_rfl) (by kernel_rfl) (by kernel_rfl) (fun _ _ _ h => h) (Or.inl ⟨by rfl, ?yy62⟩) hHeld ?rr62
              case yy62 => ((intro w hSw; (try dsimp only at hSw); go_simp) <;> (try with_reducible rfl))
              try simp only [Act.put, List.setIfInBounds_toArray, List.set_cons_zero, List.set_cons_succ]
              refine wpAnyH_take (i := 5) (oi := ⟨some 46, _, _, _, _, _⟩) (v := ?_) rfl (by kernel_rfl) (by kernel_rfl) (by kernel_rfl) (fun _ _ _ h => h) (Or.inl ⟨by rfl, ?yy63⟩) hHeld ?rr63
              case yy63 => ((intro w hSw; (try dsimp only at hSw); go_simp) <;> (try with_reducible rfl))
              try simp only [Act.put, List.setIfInBounds_toArray, List.set_cons_zero, List.set_cons_succ]
              refine wpAnyH_take (i := 6) (oi := ⟨some 47, _, _, _, _, _⟩) (v := ?_) rfl (by kernel_rfl) (by kernel_rfl) (by kernel_rfl) (fun _ _ _ h => h) (Or.inl ⟨by rfl, ?yy64⟩) hHeld ?rr64
              case yy64 => ((intro w hSw; (try dsimp only at hSw); go_simp) <;> (try with_reducible rfl))
              try simp only [Act.put, List.setIfInBounds_toArray, List.set_cons_zero, List.set_cons_succ]
              refine wpAnyH_take (i := 7) (oi := ⟨some 48, _, _, _, _, _⟩) (v := ?_) rfl (by kernel_rfl) (by kernel_rfl) (by kernel_rfl) (fun _ _ _ h => h) (Or.inl ⟨by rfl, ?yy65⟩) hHeld ?rr65
              case yy65 => ((intro w hSw; (try dsimp only at hSw); go_simp) <;> (try with_reducible rfl))
              try simp only [Act.put, List.setIfInBounds_toArray, List.set_cons_zero, List.set_cons_succ]
              refine wpAnyH_take (i := 8) (oi := ⟨some 49, _, _, _, _, _⟩) (v := ?_) rfl (by kernel_rfl) (by kernel_rfl) (by kernel_rfl) (fun _ _ _ h => h) (Or.inl ⟨by rfl, ?yy66⟩) hHeld ?rr66
              case yy66 => ((intro w hSw; (try dsimp only at hSw); go_simp) <;> (try with_reducible rfl))
              try simp only [Act.put, List.setIfInBounds_toArray, List.set_cons_zero, List.set_cons_succ]
              refine wpAnyH_take (i := 9) (oi := ⟨some 50, _, _, _, _, _⟩) (v := ?_) rfl (by kernel_rfl) (by kernel_rfl) (by kernel_rfl) (fun _ _ _ h => h) (Or.inl ⟨by rfl, ?yy67⟩) hHeld ?rr67
              case yy67 => ((intro w hSw; (try dsimp only at hSw); go_simp) <;> (try with_reducible rfl))
              try simp only [Act.put, List.setIfInBounds_toArray, List.set_cons_zero, List.set_cons_succ]
              refine wpAnyH_take (i := 10) (oi := ⟨some 51, _, _, _, _, _⟩) (v := ?_) rfl (by kernel_rfl) (by kernel_rfl) (by kernel_rfl) (fun _ _ _ h => h) (Or.inl ⟨by rfl, ?yy68⟩) hHeld ?rr68
              case yy68 => ((intro w hSw; (try dsimp only at hSw); go_simp) <;> (try with_reducible rfl))
              try simp only [Act.put, List.setIfInBounds_toArray, List.set_cons_zero, List.set_cons_succ]
              refine wpAnyH_take (i := 12) (oi := ⟨some 53, _, _, _, _, _⟩) (v := ?_) rfl (by kernel_rfl) (by kernel_rfl) (by kernel_rfl) (fun _ _ _ h => h) (Or.inl ⟨by rfl, ?yy69⟩) hHeld ?rr69
              case yy69 => ((intro w hSw; (try dsimp only at hSw); go_simp) <;> (try with_reducible rfl))
              try simp only [Act.put, List.setIfInBounds_toArray, List.set_cons_zero, List.set_cons_succ]
              refine wpAnyH_ready (rs := [11]) (by kernel_rfl) (by simp) ?_
              refine AllReadyH.cons (o := ⟨some 52, _, _, _, _, _⟩) rfl (fun K hK => ?_) ?_
              · go_simp
                go_at_call 11
                refine (HSome.out _ (Ten.bel (w9 := w9) (g := w.heap.size) (g3 := w3.heap.size) (g9 := g9) (gs := gs) (K1 := K1) (t1 := t1) (z1 := z1) (A1 := A1) (n1 := n1) (c1 := c1) (d := d) hHeld)).mono ?_
                rintro e wB ⟨rfl, hbB⟩
                have hSB := Ten.on (w9 := w9) (g := w.heap.size) (g3 := w3.heap.size) (g9 := g9) (gs := gs) (K1 := K1) (t1 := t1) (z1 := z1) (A1 := A1) (n1 := n1) (c1 := c1) (d := d) hHeld hbB
                refine hK.out _ _ hSB (fun hHeld => ?_)
                clear hK K
                try simp only [Act.put, List.setIfInBounds_toArray, List.set_cons_zero, List.set_cons_succ]
                refine wpAnyH_take (i := 13) (oi := ⟨some 54, _, _, _, _, _⟩) (v := ?_) rfl (by kernel_rfl) (by kernel_rfl) (by kernel_rfl) (fun _ _ _ h => h) (Or.inl ⟨by rfl, ?yy70⟩) hHeld ?rr70
                case yy70 => ((intro w hSw; (try dsimp only at hSw); go_simp) <;> (try with_reducible rfl))
                try simp only [Act.put, List.setIfInBounds_toArray, List.set_cons_zero, List.set_cons_succ]
                refine wpAnyH_take (i := 14) (oi := ⟨some 55, _, _, _, _, _⟩) (v := undef) rfl (by kernel_rfl) (by kernel_rfl) (by kernel_rfl) (fun _ _ _ h => h) (Or.inr ⟨by rfl, rfl⟩) hHeld ?_
                try simp only [Act.put, List.setIfInBounds_toArray, List.set_cons_zero, List.set_cons_succ]
                refine wpAnyH_take (i := 15) (oi := ⟨some 56, _, _, _, _, _⟩) (v := ?_) rfl (by kernel_rfl) (by kernel_rfl) (by kernel_rfl) (fun _ _ _ h => h) (Or.inl ⟨by rfl, ?yy71⟩) hHeld ?rr71
                case yy71 => ((intro w hSw; (try dsimp only at hSw); go_simp) <;> (try with_reducible rfl))
                try simp only [Act.put, List.setIfInBounds_toArray, List.set_cons_zero, List.set_cons_succ]
                refine wpAnyH_take (i := 16) (oi := ⟨some 57, _, _, _, _, _⟩) (v := ?_) rfl (by kernel_rfl) (by kernel_rfl) (by kernel_rfl) (fun _ _ _ h => h) (Or.inl ⟨by rfl, ?yy72⟩) hHeld ?rr72
                case yy72 => ((intro w hSw; (try dsimp only at hSw); go_simp) <;> (try with_reducible rfl))
                try simp only [Act.put, List.setIfInBounds_toArray, List.set_cons_zero, List.set_cons_succ]
                refine wpAnyH_take (i := 17) (oi := ⟨some 58, _, _, _, _, _⟩) (v := ?_) rfl (by kernel_rfl) (by kernel_rfl) (by kernel_rfl) (fun _ _ _ h => h) (Or.inl ⟨by rfl, ?yy73⟩) hHeld ?rr73
                case yy73 => ((intro w hSw; (try dsimp only at hSw); go_simp) <;> (try with_reducible rfl))
                try simp only [Act.put, List.setIfInBounds_toArray, List.set_cons_zero, List.set_cons_succ]
                refine wpAnyH_take (i := 18) (oi := ⟨some 59, _, _, _, _, _⟩) (v := ?_) rfl (by kernel_rfl) (by kernel_rfl) (by kernel_rfl) (fun _ _ _ h => h) (Or.inl ⟨by rfl, ?yy74⟩) hHeld ?rr74
                case yy74 => ((intro w hSw; (try dsimp only at hSw); go_simp) <;> (try with_reducible rfl))
                try simp only [Act.put, List.setIfInBounds_toArray, List.set_cons_zero, List.set_cons_succ]
                refine wpAnyH_take (i := 19) (oi := ⟨some 60, _, _, _, _, _⟩) (v := ?_) rfl (by kernel_rfl) (by kernel_rfl) (by kernel_rfl) (fun _ _ _ h => h) (Or.inl ⟨by rfl, ?yy75⟩) hHeld ?rr75
                case yy75 => ((intro w hSw; (try dsimp only at hSw); go_simp) <;> (try with_reducible rfl))
                try simp only [Act.put, List.setIfInBounds_toArray, List.set_cons_zero, List.set_cons_succ]
                refine wpAnyH_take (i := 21) (oi := ⟨some 62, _, _, _, _, _⟩) (v := ?_) rfl (by kernel_rfl) (by kernel_rfl) (by kernel_rfl) (fun _ _ _ h => h) (Or.inl ⟨by rfl, ?yy76⟩) hHeld ?rr76
                case yy76 => ((intro w hSw; (try dsimp only at hSw); go_simp) <;> (try with_reducible rfl))
                try simp only [Act.put, List.setIfInBounds_toArray, List.set_cons_zero, List.set_cons_succ]
                refine wpAnyH_take (i := 23) (oi := ⟨some 64, _, _, _, _, _⟩) (v := ?_) rfl (by kernel_rfl) (by kernel_rfl) (by kernel_rfl) (fun _ _ _ h => h) (Or.inl ⟨by rfl, ?yy77⟩) hHeld ?rr77
                case yy77 => ((intro w hSw; (try dsimp only at hSw); go_simp) <;> (try with_reducible rfl))
                try simp only [Act.put, List.setIfInBounds_toArray, List.set_cons_zero, List.set_cons_succ]
                refine wpAnyH_take (i := 24) (oi := ⟨some 65, _, _, _, _, _⟩) (v := ?_) rfl (by kernel_rfl) (by kernel_rfl) (by kernel_rfl) (fun _ _ _ h => h) (Or.inl ⟨by rfl, ?yy78⟩) hHeld ?rr78
                case yy78 => ((intro w hSw; (try dsimp only at hSw); go_simp) <;> (try with_reducible rfl))
                try simp only [Act.put, List.setIfInBounds_toArray, List.set_cons_zero, List.set_cons_succ]
                refine wpAnyH_ready (rs := [20]) (by kernel_rfl) (by simp) ?_
                refine AllReadyH.cons (o := ⟨some 61, _, _, _, _, _⟩) rfl (fun K hK => ?_) ?_
                · go_simp
                  go_at_call 20
                  refine (not_any 4 [] 0 (some ⟨w3.heap.size + 1 + 1, 0, none⟩) 2 2 _).mono ?_
                  rintro e wC ⟨gC, rfl, hhC, hbC, hnC⟩
                  have hSC := Ten.on (w9 := w9) (g := w.heap.size) (g3 := w3.heap.size) (g9 := g9) (gs := gs) (K1 := K1) (t1 := t1) (z1 := z1) (A1 := A1) (n1 := n1) (c1 := c1) (d := d) hHeld hbC
                  refine hK.out _ _ hSC (fun hHeld => ?_)
                  clear hK K
                  try simp only [Act.put, List.setIfInBounds_toArray, List.set_cons_zero, List.set_cons_succ]
                  refine wpAnyH_ready (rs := [22]) (by kernel_rfl) (by simp) ?_
                  refine AllReadyH.cons (o := ⟨some 63, _, _, _, _, _⟩) rfl (fun K hK => ?_) ?_
                  · go_simp
                    go_at_call 11
                    refine (HNS.out _ gC (Ten.bel (w9 := w9) (g := w.heap.size) (g3 := w3.heap.size) (g9 := g9) (gs := gs) (K1 := K1) (t1 := t1) (z1 := z1) (A1 := A1) (n1 := n1) (c1 := c1) (d := d) hHeld) hhC).mono ?_
                    rintro e wD ⟨rfl, hbD⟩
                    have hSD := Ten.on (w9 := w9) (g := w.heap.size) (g3 := w3.heap.size) (g9 := g9) (gs := gs) (K1 := K1) (t1 := t1) (z1 := z1) (A1 := A1) (n1 := n1) (c1 := c1) (d := d) hHeld hbD
                    refine hK.out _ _ hSD (fun hHeld => ?_)
                    clear hK K
                    try simp only [Act.put, List.setIfInBounds_toArray, List.set_cons_zero, List.set_cons_succ]
                    refine wpAnyH_ready (rs := [25]) (by kernel_rfl) (by simp) ?_
                    refine AllReadyH.cons (o := ⟨some 66, _, _, _, _, _⟩) rfl (fun K hK => ?_) ?_
                    · go_simp
                      go_at_call 11
                      refine (HParts.out _ (Ten.bel (w9 := w9) (g := w.heap.size) (g3 := w3.heap.size) (g9 := g9) (gs := gs) (K1 := K1) (t1 := t1) (z1 := z1) (A1 := A1) (n1 := n1) (c1 := c1) (d := d) hHeld)).mono ?_
                      rintro e wE ⟨rfl, hbE⟩
                      have hSE := Ten.on (w9 := w9) (g := w.heap.size) (g3 := w3.heap.size) (g9 := g9) (gs := gs) (K1 := K1) (t1 := t1) (z1 := z1) (A1 := A1) (n1 := n1) (c1 := c1) (d := d) hHeld hbE
                      refine hK.out _ _ hSE (fun hHeld => ?_)
                      clear hK K
                      try simp only [Act.put, List.setIfInBounds_toArray, List.set_cons_zero, List.set_cons_succ]
                      refine wpAnyH_take (i := 26) (oi := ⟨some 67, _, _, _, _, _⟩) (v := ?_) rfl (by kernel_rfl) (by kernel_rfl) (by kernel_rfl) (fun _ _ _ h => h) (Or.inl ⟨by rfl, ?yy79⟩) hHeld ?rr79
                      case yy79 => ((intro w hSw; (try dsimp only at hSw); go_simp) <;> (try with_reducible rfl))
                      try simp only [Act.put, List.setIfInBounds_toArray, List.set_cons_zero, List.set_cons_succ]
                      refine wpAnyH_take (i := 27) (oi := ⟨some 68, _, _, _, _, _⟩) (v := ?_) rfl (by kernel_rfl) (by kernel_rfl) (by kernel_rfl) (fun _ _ _ h => h) (Or.inl ⟨by rfl, ?yy80⟩) hHeld ?rr80
                      case yy80 => ((intro w hSw; (try dsimp only at hSw); go_simp) <;> (try with_reducible rfl))
                      try simp only [Act.put, List.setIfInBounds_toArray, List.set_cons_zero, List.set_cons_succ]
                      refine wpAnyH_take (i := 28) (oi := ⟨some 69, _, _, _, _, _⟩) (v := ?_) rfl (by kernel_rfl) (by kernel_rfl) (by kernel_rfl) (fun _ _ _ h => h) (Or.inl ⟨by rfl, ?yy81⟩) hHeld ?rr81
                      case yy81 => ((intro w hSw; (try dsimp only at hSw); go_simp) <;> (try with_reducible rfl))
                      try simp only [Act.put, List.setIfInBounds_toArray, List.set_cons_zero, List.set_cons_succ]
                      refine wpAnyH_take (i := 29) (oi := ⟨some 70, _, _, _, _, _⟩) (v := ?_) rfl (by kernel_rfl) (by kernel_rfl) (by kernel_rfl) (fun _ _ _ h => h) (Or.inl ⟨by rfl, ?yy82⟩) hHeld ?rr82
                      case yy82 => ((intro w hSw; (try dsimp only at hSw); go_simp) <;> (try with_reducible rfl))
                      try simp only [Act.put, List.setIfInBounds_toArray, List.set_cons_zero, List.set_cons_succ]
                      refine wpAnyH_take (i := 32) (oi := ⟨some 73, _, _, _, _, _⟩) (v := ?_) rfl (by kernel_rfl) (by kernel_rfl) (by kernel_rfl) (fun _ _ _ h => h) (Or.inl ⟨by rfl, ?yy83⟩) hHeld ?rr83
                      case yy83 => ((intro w hSw; (try dsimp only at hSw); go_simp) <;> (try with_reducible rfl))
                      try simp only [Act.put, List.setIfInBounds_toArray, List.set_cons_zero, List.set_cons_succ]
                      refine wpAnyH_take (i := 34) (oi := ⟨some 75, _, _, _, _, _⟩) (v := ?_) rfl (by kernel_rfl) (by kernel_rfl) (by kernel_rfl) (fun _ _ _ h => h) (Or.inl ⟨by rfl, ?yy84⟩) hHeld ?rr84
                      case yy84 => ((intro w hSw; (try dsimp only at hSw); go_simp) <;> (try with_reducible rfl))
                      try simp only [Act.put, List.setIfInBounds_toArray, List.set_cons_zero, List.set_cons_succ]
                      refine wpAnyH_ready (rs := [30]) (by kernel_rfl) (by simp) ?_
                      refine AllReadyH.cons (o := ⟨some 71, _, _, _, _, _⟩) rfl (fun K hK => ?_) ?_
                      · go_simp
                        go_at_call 20
                        refine (not_any K1 t1 z1 A1 n1 c1 _).mono ?_
                        rintro e wF ⟨gF, rfl, hhF, hbF, hnF⟩
                        have hSF := Ten.on (w9 := w9) (g := w.heap.size) (g3 := w3.heap.size) (g9 := g9) (gs := gs) (K1 := K1) (t1 := t1) (z1 := z1) (A1 := A1) (n1 := n1) (c1 := c1) (d := d) hHeld hbF
                        refine hK.out _ _ hSF (fun hHeld => ?_)
                        clear hK K
                        try simp only [Act.put, List.setIfInBounds_toArray, List.set_cons_zero, List.set_cons_succ]
                        refine wpAnyH_ready (rs := [31]) (by kernel_rfl) (by simp) ?_
                        refine AllReadyH.cons (o := ⟨some 72, _, _, _, _, _⟩) rfl (fun K hK => ?_) ?_
                        · go_simp
                          go_at_call 20
                          refine (not_any 5 [] 0 (some ⟨gF, 0, none⟩) 1 1 _).mono ?_
                          rintro e wG ⟨gG, rfl, hhG, hbG, hnG⟩
                          have hSG := Ten.on (w9 := w9) (g := w.heap.size) (g3 := w3.heap.size) (g9 := g9) (gs := gs) (K1 := K1) (t1 := t1) (z1 := z1) (A1 := A1) (n1 := n1) (c1 := c1) (d := d) hHeld hbG
                          refine hK.out _ _ hSG (fun hHeld => ?_)
                          clear hK K
                          try simp only [Act.put, List.setIfInBounds_toArray, List.set_cons_zero, List.set_cons_succ]
                          refine wpAnyH_ready (rs := [33]) (by kernel_rfl) (by simp) ?_
                          refine AllReadyH.cons (o := ⟨some 74, _, _, _, _, _⟩) rfl (fun K hK => ?_) ?_
                          · go_simp
                            go_at_call 11
                            refine (HNN.out _ gF gG (Ten.bel (w9 := w9) (g := w.heap.size) (g3 := w3.heap.size) (g9 := g9) (gs := gs) (K1 := K1) (t1 := t1) (z1 := z1) (A1 := A1) (n1 := n1) (c1 := c1) (d := d) hHeld) ((hbG.block _ (heapLt hhF)).trans hhF) hhG).mono ?_
                            rintro e wH ⟨rfl, hbH⟩
                            have hSH := Ten.on (w9 := w9) (g := w.heap.size) (g3 := w3.heap.size) (g9 := g9) (gs := gs) (K1 := K1) (t1 := t1) (z1 := z1) (A1 := A1) (n1 := n1) (c1 := c1) (d := d) hHeld hbH
                            refine hK.out _ _ hSH (fun hHeld => ?_)
                            clear hK K
                            try simp only [Act.put, List.setIfInBounds_toArray, List.set_cons_zero, List.set_cons_succ]
                            refine wpAnyH_take (i := 35) (oi := ⟨some 76, _, _, _, _, _⟩) (v := ?_) rfl (by kernel_rfl) (by kernel_rfl) (by kernel_rfl) (fun _ _ _ h => h) (Or.inl ⟨by rfl, ?yy85⟩) hHeld ?rr85
                            case yy85 => ((intro w hSw; (try dsimp only at hSw); go_simp) <;> (try with_reducible rfl))
                            try simp only [Act.put, List.setIfInBounds_toArray, List.set_cons_zero, List.set_cons_succ]
                            refine wpAnyH_take (i := 36) (oi := ⟨some 77, _, _, _, _, _⟩) (v := ?_) rfl (by kernel_rfl) (by kernel_rfl) (by kernel_rfl) (fun _ _ _ h => h) (Or.inl ⟨by rfl, ?yy86⟩) hHeld ?rr86
                            case yy86 => ((intro w hSw; (try dsimp only at hSw); go_simp) <;> (try with_reducible rfl))
                            try simp only [Act.put, List.setIfInBounds_toArray, List.set_cons_zero, List.set_cons_succ]
                            refine wpAnyH_take (i := 37) (oi := ⟨some 6, _, _, _, _, _⟩) (v := ?_) rfl (by kernel_rfl) (by kernel_rfl) (by kernel_rfl) (fun _ _ _ h => h) (Or.inl ⟨by rfl, ?yy87⟩) hHeld ?rr87
                            case yy87 => ((intro w hSw; (try dsimp only at hSw); go_simp) <;> (try with_reducible rfl))
                            try simp only [Act.put, List.setIfInBounds_toArray, List.set_cons_zero, List.set_cons_succ]
                            refine wpAnyH_done (by kernel_rfl) ?_ _
                            have HBB := Lib.hid (Ten.bel (w9 := w9) (g := w.heap.size) (g3 := w3.heap.size) (g9 := g9) (gs := gs) (K1 := K1) (t1 := t1) (z1 := z1) (A1 := A1) (n1 := n1) (c1 := c1) (d := d) hHeld)
                            have HBZ := Lib.hid (HB9.out.trans (HBB.out.mono HB9.out.size))
                            clear hHeld
                            go_wp2
                            go_ret
                            exact ⟨rfl, HBZ.out⟩
                          exact AllReadyH.nil
                        exact AllReadyH.nil
                      exact AllReadyH.nil
                    exact AllReadyH.nil
                  exact AllReadyH.nil
                exact AllReadyH.nil
              exact AllReadyH.nil
            exact AllReadyH.nil
        · as_aux_lemma =>
            try simp only [Bool.or_true] at HBoth HSome HParts HNS HNN
            try simp only [Bool.or_false] at HBoth HSome HParts HNS HNN
            try simp only [Bool.not_true] at HBoth HSome HParts HNS HNN
            try simp only [Bool.not_false] at HBoth HSome HParts HNS HNN
            try simp only [Bool.and_true] at HBoth HSome HParts HNS HNN
            try simp only [Bool.and_false] at HBoth HSome HParts HNS HNN
            try simp only [Bool.not_true] at HBoth HSome HParts HNS HNN
            try simp only [Bool.not_false] at HBoth HSome HParts HNS HNN
            go_wp2_with fail
            refine wp_region_held_drew (S := fun W => W.cell? ⟨w3.heap.size + 1, 0, none⟩ = some (.int .u8 3) ∧ W.cell? ⟨w3.heap.size + 1, 1, none⟩ = some (.string ⟨#[]⟩) ∧ W.cell? ⟨w3.heap.size + 1, 2, none⟩ = some (.int .i64 0) ∧ W.cell? ⟨w3.heap.size + 1, 3, none⟩ = some (.slice (some ⟨w3.heap.size, 0, none⟩) 2 2) ∧ W.cell? ⟨w3.heap.size + 1 + 1 + 1, 0, none⟩ = some (.int .u8 4) ∧ W.cell? ⟨w3.heap.size + 1 + 1 + 1, 1, none⟩ = some (.string ⟨#[]⟩) ∧ W.cell? ⟨w3.heap.size + 1 + 1 + 1, 2, none⟩ = some (.int .i64 0) ∧ W.cell? ⟨w3.heap.size + 1 + 1 + 1, 3, none⟩ = some (.slice (some ⟨w3.heap.size + 1 + 1, 0, none⟩) 2 2) ∧ W.cell? ⟨g9, 0, none⟩ = some (.int .u8 3) ∧ W.cell? ⟨g9, 1, none⟩ = some (.string ⟨#[]⟩) ∧ W.cell? ⟨g9, 2, none⟩ = some (.int .i64 0) ∧ W.cell? ⟨g9, 3, none⟩ = some (.slice (some ⟨gs, 0, none⟩) 2 2) ∧ W.cell? ⟨w.heap.size, 0, none⟩ = some (.int .u8 K1) ∧ W.cell? ⟨w.heap.size, 1, none⟩ = some (.string ⟨t1.toArray⟩) ∧ W.cell? ⟨w.heap.size, 2, none⟩ = some (.int .i64 z1) ∧ W.cell? ⟨w.heap.size, 3, none⟩ = some (.slice A1 n1 c1) ∧ W.cell? ⟨w.heap.size + 1 + 1, 0, none⟩ = some (.string ⟨d.id.toArray⟩) ∧ W.cell? ⟨w.heap.size + 1 + 1, 1, none⟩ = some (.int .i64 d.time) ∧ W.cell? ⟨w.heap.size + 1 + 1, 2, none⟩ = some (.string ⟨d.text.toArray⟩) ∧ Below w9.heap.size w9 W) (by kernel_rfl) HXTd.out (fun hHeld => ?_)
            refine wpAnyH_take (i := 0) (oi := ⟨some 41, _, _, _, _, _⟩) (v := ?_) rfl (by kernel_rfl) (by kernel_rfl) (by kernel_rfl) (fun _ _ _ h => h) (Or.inl ⟨by rfl, ?yy88⟩) hHeld ?rr88
            case yy88 => ((intro w hSw; (try dsimp only at hSw); go_simp) <;> (try with_reducible rfl))
            try simp only [Act.put, List.setIfInBounds_toArray, List.set_cons_zero, List.set_cons_succ]
            refine wpAnyH_take (i := 1) (oi := ⟨some 42, _, _, _, _, _⟩) (v := ?_) rfl (by kernel_rfl) (by kernel_rfl) (by kernel_rfl) (fun _ _ _ h => h) (Or.inl ⟨by rfl, ?yy89⟩) hHeld ?rr89
            case yy89 => ((intro w hSw; (try dsimp only at hSw); go_simp) <;> (try with_reducible rfl))
            try simp only [Act.put, List.setIfInBounds_toArray, List.set_cons_zero, List.set_cons_succ]
            refine wpAnyH_take (i := 3) (oi := ⟨some 44, _, _, _, _, _⟩) (v := ?_) rfl (by kernel_rfl) (by kernel_rfl) (by kernel_rfl) (fun _ _ _ h => h) (Or.inl ⟨by rfl, ?yy90⟩) hHeld ?rr90
            case yy90 => ((intro w hSw; (try dsimp only at hSw); go_simp) <;> (try with_reducible rfl))
            try simp only [Act.put, List.setIfInBounds_toArray, List.set_cons_zero, List.set_cons_succ]
            refine wpAnyH_ready (rs := [2]) (by kernel_rfl) (by simp) ?_
            refine AllReadyH.cons (o := ⟨some 43, _, _, _, _, _⟩) rfl (fun K hK => ?_) ?_
            · go_simp
              go_at_call 11
              refine (HBoth.out _ (Ten.bel (w9 := w9) (g := w.heap.size) (g3 := w3.heap.size) (g9 := g9) (gs := gs) (K1 := K1) (t1 := t1) (z1 := z1) (A1 := A1) (n1 := n1) (c1 := c1) (d := d) hHeld)).mono ?_
              rintro e wA ⟨rfl, hbA⟩
              have hSA := Ten.on (w9 := w9) (g := w.heap.size) (g3 := w3.heap.size) (g9 := g9) (gs := gs) (K1 := K1) (t1 := t1) (z1 := z1) (A1 := A1) (n1 := n1) (c1 := c1) (d := d) hHeld hbA
              refine hK.out _ _ hSA (fun hHeld => ?_)
              clear hK K
              try simp only [Act.put, List.setIfInBounds_toArray, List.set_cons_zero, List.set_cons_succ]
              refine wpAnyH_take (i := 4) (oi := ⟨some 45, _, _, _, _, _⟩) (v := ?_) rfl (by kernel_rfl) (by kernel_rfl) (by kernel_rfl) (fun _ _ _ h => h) (Or.inl ⟨by rfl, ?yy91⟩) hHeld ?rr91
              case yy91 => ((intro w hSw; (try dsimp only at hSw); go_simp) <;> (try with_reducible rfl))
              try simp only [Act.put, List.setIfInBounds_toArray, List.set_cons_zero, List.set_cons_succ]
              refine wpAnyH_take (i := 5) (oi := ⟨some 46, _, _, _, _, _⟩) (v := ?_) rfl (by kernel_rfl) (by kernel_rfl) (by kernel_rfl) (fun _ _ _ h => h) (Or.inl ⟨by rfl, ?yy92⟩) hHeld ?rr92
              case yy92 => ((intro w hSw; (try dsimp only at hSw); go_simp) <;> (try with_reducible rfl))
              try simp only [Act.put, List.setIfInBounds_toArray, List.set_cons_zero, List.set_cons_succ]
              refine wpAnyH_take (i := 6) (oi := ⟨some 47, _, _, _, _, _⟩) (v := ?_) rfl (by kernel_rfl) (by kernel_rfl) (by kernel_rfl) (fun _ _ _ h => h) (Or.inl ⟨by rfl, ?yy93⟩) hHeld ?rr93
              case yy93 => ((intro w hSw; (try dsimp only at hSw); go_simp) <;> (try with_reducible rfl))
              try simp only [Act.put, List.setIfInBounds_toArray, List.set_cons_zero, List.set_cons_succ]
              refine wpAnyH_take (i := 7) (oi := ⟨some 48, _, _, _, _, _⟩) (v := ?_) rfl (by kernel_rfl) (by kernel_rfl) (by kernel_rfl) (fun _ _ _ h => h) (Or.inl ⟨by rfl, ?yy94⟩) hHeld ?rr94
              case yy94 => ((intro w hSw; (try dsimp only at hSw); go_simp) <;> (try with_reducible rfl))
              try simp only [Act.put, List.setIfInBounds_toArray, List.set_cons_zero, List.set_cons_succ]
              refine wpAnyH_take (i := 8) (oi := ⟨some 49, _, _, _, _, _⟩) (v := ?_) rfl (by kernel_rfl) (by kernel_rfl) (by kernel_rfl) (fun _ _ _ h => h) (Or.inl ⟨by rfl, ?yy95⟩) hHeld ?rr95
              case yy95 => ((intro w hSw; (try dsimp only at hSw); go_simp) <;> (try with_reducible rfl))
              try simp only [Act.put, List.setIfInBounds_toArray, List.set_cons_zero, List.set_cons_succ]
              refine wpAnyH_take (i := 9) (oi := ⟨some 50, _, _, _, _, _⟩) (v := ?_) rfl (by kernel_rfl) (by kernel_rfl) (by kernel_rfl) (fun _ _ _ h => h) (Or.inl ⟨by rfl, ?yy96⟩) hHeld ?rr96
              case yy96 => ((intro w hSw; (try dsimp only at hSw); go_simp) <;> (try with_reducible rfl))
              try simp only [Act.put, List.setIfInBounds_toArray, List.set_cons_zero, List.set_cons_succ]
              refine wpAnyH_take (i := 10) (oi := ⟨some 51, _, _, _, _, _⟩) (v := ?_) rfl (by kernel_rfl) (by kernel_rfl) (by kernel_rfl) (fun _ _ _ h => h) (Or.inl ⟨by rfl, ?yy97⟩) hHeld ?rr97
              case yy97 => ((intro w hSw; (try dsimp only at hSw); go_simp) <;> (try with_reducible rfl))
              try simp only [Act.put, List.setIfInBounds_toArray, List.set_cons_zero, List.set_cons_succ]
              refine wpAnyH_take (i := 12) (oi := ⟨some 53, _, _, _, _, _⟩) (v := ?_) rfl (by kernel_rfl) (by kernel_rfl) (by kernel_rfl) (fun _ _ _ h => h) (Or.inl ⟨by rfl, ?yy98⟩) hHeld ?rr98
              case yy98 => ((intro w hSw; (try dsimp only at hSw); go_simp) <;> (try with_reducible rfl))
              try simp only [Act.put, List.setIfInBounds_toArray, List.set_cons_zero, List.set_cons_succ]
              refine wpAnyH_ready (rs := [11]) (by kernel_rfl) (by simp) ?_
              refine AllReadyH.cons (o := ⟨some 52, _, _, _, _, _⟩) rfl (fun K hK => ?_) ?_
              · go_simp
                go_at_call 11
                refine (HSome.out _ (Ten.bel (w9 := w9) (g := w.heap.size) (g3 := w3.heap.size) (g9 := g9) (gs := gs) (K1 := K1) (t1 := t1) (z1 := z1) (A1 := A1) (n1 := n1) (c1 := c1) (d := d) hHeld)).mono ?_
                rintro e wB ⟨rfl, hbB⟩
                have hSB := Ten.on (w9 := w9) (g := w.heap.size) (g3 := w3.heap.size) (g9 := g9) (gs := gs) (K1 := K1) (t1 := t1) (z1 := z1) (A1 := A1) (n1 := n1) (c1 := c1) (d := d) hHeld hbB
                refine hK.out _ _ hSB (fun hHeld => ?_)
                clear hK K
                try simp only [Act.put, List.setIfInBounds_toArray, List.set_cons_zero, List.set_cons_succ]
                refine wpAnyH_take (i := 13) (oi := ⟨some 54, _, _, _, _, _⟩) (v := ?_) rfl (by kernel_rfl) (by kernel_rfl) (by kernel_rfl) (fun _ _ _ h => h) (Or.inl ⟨by rfl, ?yy99⟩) hHeld ?rr99
                case yy99 => ((intro w hSw; (try dsimp only at hSw); go_simp) <;> (try with_reducible rfl))
                try simp only [Act.put, List.setIfInBounds_toArray, List.set_cons_zero, List.set_cons_succ]
                refine wpAnyH_take (i := 14) (oi := ⟨some 55, _, _, _, _, _⟩) (v := undef) rfl (by kernel_rfl) (by kernel_rfl) (by kernel_rfl) (fun _ _ _ h => h) (Or.inr ⟨by rfl, rfl⟩) hHeld ?_
                try simp only [Act.put, List.setIfInBounds_toArray, List.set_cons_zero, List.set_cons_succ]
                refine wpAnyH_take (i := 15) (oi := ⟨some 56, _, _, _, _, _⟩) (v := ?_) rfl (by kernel_rfl) (by kernel_rfl) (by kernel_rfl) (fun _ _ _ h => h) (Or.inl ⟨by rfl, ?yy100⟩) hHeld ?rr100
                case yy100 => ((intro w hSw; (try dsimp only at hSw); go_simp) <;> (try with_reducible rfl))
                try simp only [Act.put, List.setIfInBounds_toArray, List.set_cons_zero, List.set_cons_succ]
                refine wpAnyH_take (i := 16) (oi := ⟨some 57, _, _, _, _, _⟩) (v := ?_) rfl (by kernel_rfl) (by kernel_rfl) (by kernel_rfl) (fun _ _ _ h => h) (Or.inl ⟨by rfl, ?yy101⟩) hHeld ?rr101
                case yy101 => ((intro w hSw; (try dsimp only at hSw); go_simp) <;> (try with_reducible rfl))
                try simp only [Act.put, List.setIfInBounds_toArray, List.set_cons_zero, List.set_cons_succ]
                refine wpAnyH_take (i := 17) (oi := ⟨some 58, _, _, _, _, _⟩) (v := ?_) rfl (by kernel_rfl) (by kernel_rfl) (by kernel_rfl) (fun _ _ _ h => h) (Or.inl ⟨by rfl, ?yy102⟩) hHeld ?rr102
                case yy102 => ((intro w hSw; (try dsimp only at hSw); go_simp) <;> (try with_reducible rfl))
                try simp only [Act.put, List.setIfInBounds_toArray, List.set_cons_zero, List.set_cons_succ]
                refine wpAnyH_take (i := 18) (oi := ⟨some 59, _, _, _, _, _⟩) (v := ?_) rfl (by kernel_rfl) (by kernel_rfl) (by kernel_rfl) (fun _ _ _ h => h) (Or.inl ⟨by rfl, ?yy103⟩) hHeld ?rr103
                case yy103 => ((intro w hSw; (try dsimp only at hSw); go_simp) <;> (try with_reducible rfl))
                try simp only [Act.put, List.setIfInBounds_toArray, List.set_cons_zero, List.set_cons_succ]
                refine wpAnyH_take (i := 19) (oi := ⟨some 60, _, _, _, _, _⟩) (v := ?_) rfl (by kernel_rfl) (by kernel_rfl) (by kernel_rfl) (fun _ _ _ h => h) (Or.inl ⟨by rfl, ?yy104⟩) hHeld ?rr104
                case yy104 => ((intro w hSw; (try dsimp only at hSw); go_simp) <;> (try with_reducible rfl))
                try simp only [Act.put, List.setIfInBounds_toArray, List.set_cons_zero, List.set_cons_succ]
                refine wpAnyH_take (i := 21) (oi := ⟨some 62, _, _, _, _, _⟩) (v := ?_) rfl (by kernel_rfl) (by kernel_rfl) (by kernel_rfl) (fun _ _ _ h => h) (Or.inl ⟨by rfl, ?yy105⟩) hHeld ?rr105
                case yy105 => ((intro w hSw; (try dsimp only at hSw); go_simp) <;> (try with_reducible rfl))
                try simp only [Act.put, List.setIfInBounds_toArray, List.set_cons_zero, List.set_cons_succ]
                refine wpAnyH_take (i := 23) (oi := ⟨some 64, _, _, _, _, _⟩) (v := ?_) rfl (by kernel_rfl) (by kernel_rfl) (by kernel_rfl) (fun _ _ _ h => h) (Or.inl ⟨by rfl, ?yy106⟩) hHeld ?rr106
                case yy106 => ((intro w hSw; (try dsimp only at hSw); go_simp) <;> (try with_reducible rfl))
                try simp only [Act.put, List.setIfInBounds_toArray, List.set_cons_zero, List.set_cons_succ]
                refine wpAnyH_take (i := 24) (oi := ⟨some 65, _, _, _, _, _⟩) (v := ?_) rfl (by kernel_rfl) (by kernel_rfl) (by kernel_rfl) (fun _ _ _ h => h) (Or.inl ⟨by rfl, ?yy107⟩) hHeld ?rr107
                case yy107 => ((intro w hSw; (try dsimp only at hSw); go_simp) <;> (try with_reducible rfl))
                try simp only [Act.put, List.setIfInBounds_toArray, List.set_cons_zero, List.set_cons_succ]
                refine wpAnyH_ready (rs := [20]) (by kernel_rfl) (by simp) ?_
                refine AllReadyH.cons (o := ⟨some 61, _, _, _, _, _⟩) rfl (fun K hK => ?_) ?_
                · go_simp
                  go_at_call 20
                  refine (not_any 4 [] 0 (some ⟨w3.heap.size + 1 + 1, 0, none⟩) 2 2 _).mono ?_
                  rintro e wC ⟨gC, rfl, hhC, hbC, hnC⟩
                  have hSC := Ten.on (w9 := w9) (g := w.heap.size) (g3 := w3.heap.size) (g9 := g9) (gs := gs) (K1 := K1) (t1 := t1) (z1 := z1) (A1 := A1) (n1 := n1) (c1 := c1) (d := d) hHeld hbC
                  refine hK.out _ _ hSC (fun hHeld => ?_)
                  clear hK K
                  try simp only [Act.put, List.setIfInBounds_toArray, List.set_cons_zero, List.set_cons_succ]
                  refine wpAnyH_ready (rs := [22]) (by kernel_rfl) (by simp) ?_
                  refine AllReadyH.cons (o := ⟨some 63, _, _, _, _, _⟩) rfl (fun K hK => ?_) ?_
                  · go_simp
                    go_at_call 11
                    refine (HNS.out _ gC (Ten.bel (w9 := w9) (g := w.heap.size) (g3 := w3.heap.size) (g9 := g9) (gs := gs) (K1 := K1) (t1 := t1) (z1 := z1) (A1 := A1) (n1 := n1) (c1 := c1) (d := d) hHeld) hhC).mono ?_
                    rintro e wD ⟨rfl, hbD⟩
                    have hSD := Ten.on (w9 := w9) (g := w.heap.size) (g3 := w3.heap.size) (g9 := g9) (gs := gs) (K1 := K1) (t1 := t1) (z1 := z1) (A1 := A1) (n1 := n1) (c1 := c1) (d := d) hHeld hbD
                    refine hK.out _ _ hSD (fun hHeld => ?_)
                    clear hK K
                    try simp only [Act.put, List.setIfInBounds_toArray, List.set_cons_zero, List.set_cons_succ]
                    refine wpAnyH_ready (rs := [25]) (by kernel_rfl) (by simp) ?_
                    refine AllReadyH.cons (o := ⟨some 66, _, _, _, _, _⟩) rfl (fun K hK => ?_) ?_
                    · go_simp
                      go_at_call 11
                      refine (HParts.out _ (Ten.bel (w9 := w9) (g := w.heap.size) (g3 := w3.heap.size) (g9 := g9) (gs := gs) (K1 := K1) (t1 := t1) (z1 := z1) (A1 := A1) (n1 := n1) (c1 := c1) (d := d) hHeld)).mono ?_
                      rintro e wE ⟨rfl, hbE⟩
                      have hSE := Ten.on (w9 := w9) (g := w.heap.size) (g3 := w3.heap.size) (g9 := g9) (gs := gs) (K1 := K1) (t1 := t1) (z1 := z1) (A1 := A1) (n1 := n1) (c1 := c1) (d := d) hHeld hbE
                      refine hK.out _ _ hSE (fun hHeld => ?_)
                      clear hK K
                      try simp only [Act.put, List.setIfInBounds_toArray, List.set_cons_zero, List.set_cons_succ]
                      refine wpAnyH_take (i := 26) (oi := ⟨some 67, _, _, _, _, _⟩) (v := ?_) rfl (by kernel_rfl) (by kernel_rfl) (by kernel_rfl) (fun _ _ _ h => h) (Or.inl ⟨by rfl, ?yy108⟩) hHeld ?rr108
                      case yy108 => ((intro w hSw; (try dsimp only at hSw); go_simp) <;> (try with_reducible rfl))
                      try simp only [Act.put, List.setIfInBounds_toArray, List.set_cons_zero, List.set_cons_succ]
                      refine wpAnyH_take (i := 27) (oi := ⟨some 68, _, _, _, _, _⟩) (v := ?_) rfl (by kernel_rfl) (by kernel_rfl) (by kernel_rfl) (fun _ _ _ h => h) (Or.inl ⟨by rfl, ?yy109⟩) hHeld ?rr109
                      case yy109 => ((intro w hSw; (try dsimp only at hSw); go_simp) <;> (try with_reducible rfl))
                      try simp only [Act.put, List.setIfInBounds_toArray, List.set_cons_zero, List.set_cons_succ]
                      refine wpAnyH_take (i := 28) (oi := ⟨some 69, _, _, _, _, _⟩) (v := ?_) rfl (by kernel_rfl) (by kernel_rfl) (by kernel_rfl) (fun _ _ _ h => h) (Or.inl ⟨by rfl, ?yy110⟩) hHeld ?rr110
                      case yy110 => ((intro w hSw; (try dsimp only at hSw); go_simp) <;> (try with_reducible rfl))
                      try simp only [Act.put, List.setIfInBounds_toArray, List.set_cons_zero, List.set_cons_succ]
                      refine wpAnyH_take (i := 29) (oi := ⟨some 70, _, _, _, _, _⟩) (v := ?_) rfl (by kernel_rfl) (by kernel_rfl) (by kernel_rfl) (fun _ _ _ h => h) (Or.inl ⟨by rfl, ?yy111⟩) hHeld ?rr111
                      case yy111 => ((intro w hSw; (try dsimp only at hSw); go_simp) <;> (try with_reducible rfl))
                      try simp only [Act.put, List.setIfInBounds_toArray, List.set_cons_zero, List.set_cons_succ]
                      refine wpAnyH_take (i := 32) (oi := ⟨some 73, _, _, _, _, _⟩) (v := ?_) rfl (by kernel_rfl) (by kernel_rfl) (by kernel_rfl) (fun _ _ _ h => h) (Or.inl ⟨by rfl, ?yy112⟩) hHeld ?rr112
                      case yy112 => ((intro w hSw; (try dsimp only at hSw); go_simp) <;> (try with_reducible rfl))
                      try simp only [Act.put, List.setIfInBounds_toArray, List.set_cons_zero, List.set_cons_succ]
                      refine wpAnyH_take (i := 34) (oi := ⟨some 75, _, _, _, _, _⟩) (v := ?_) rfl (by kernel_rfl) (by kernel_rfl) (by kernel_rfl) (fun _ _ _ h => h) (Or.inl ⟨by rfl, ?yy113⟩) hHeld ?rr113
                      case yy113 => ((intro w hSw; (try dsimp only at hSw); go_simp) <;> (try with_reducible rfl))
                      try simp only [Act.put, List.setIfInBounds_toArray, List.set_cons_zero, List.set_cons_succ]
                      refine wpAnyH_ready (rs := [30]) (by kernel_rfl) (by simp) ?_
                      refine AllReadyH.cons (o := ⟨some 71, _, _, _, _, _⟩) rfl (fun K hK => ?_) ?_
                      · go_simp
                        go_at_call 20
                        refine (not_any K1 t1 z1 A1 n1 c1 _).mono ?_
                        rintro e wF ⟨gF, rfl, hhF, hbF, hnF⟩
                        have hSF := Ten.on (w9 := w9) (g := w.heap.size) (g3 := w3.heap.size) (g9 := g9) (gs := gs) (K1 := K1) (t1 := t1) (z1 := z1) (A1 := A1) (n1 := n1) (c1 := c1) (d := d) hHeld hbF
                        refine hK.out _ _ hSF (fun hHeld => ?_)
                        clear hK K
                        try simp only [Act.put, List.setIfInBounds_toArray, List.set_cons_zero, List.set_cons_succ]
                        refine wpAnyH_ready (rs := [31]) (by kernel_rfl) (by simp) ?_
                        refine AllReadyH.cons (o := ⟨some 72, _, _, _, _, _⟩) rfl (fun K hK => ?_) ?_
                        · go_simp
                          go_at_call 20
                          refine (not_any 5 [] 0 (some ⟨gF, 0, none⟩) 1 1 _).mono ?_
                          rintro e wG ⟨gG, rfl, hhG, hbG, hnG⟩
                          have hSG := Ten.on (w9 := w9) (g := w.heap.size) (g3 := w3.heap.size) (g9 := g9) (gs := gs) (K1 := K1) (t1 := t1) (z1 := z1) (A1 := A1) (n1 := n1) (c1 := c1) (d := d) hHeld hbG
                          refine hK.out _ _ hSG (fun hHeld => ?_)
                          clear hK K
                          try simp only [Act.put, List.setIfInBounds_toArray, List.set_cons_zero, List.set_cons_succ]
                          refine wpAnyH_ready (rs := [33]) (by kernel_rfl) (by simp) ?_
                          refine AllReadyH.cons (o := ⟨some 74, _, _, _, _, _⟩) rfl (fun K hK => ?_) ?_
                          · go_simp
                            go_at_call 11
                            refine (HNN.out _ gF gG (Ten.bel (w9 := w9) (g := w.heap.size) (g3 := w3.heap.size) (g9 := g9) (gs := gs) (K1 := K1) (t1 := t1) (z1 := z1) (A1 := A1) (n1 := n1) (c1 := c1) (d := d) hHeld) ((hbG.block _ (heapLt hhF)).trans hhF) hhG).mono ?_
                            rintro e wH ⟨rfl, hbH⟩
                            have hSH := Ten.on (w9 := w9) (g := w.heap.size) (g3 := w3.heap.size) (g9 := g9) (gs := gs) (K1 := K1) (t1 := t1) (z1 := z1) (A1 := A1) (n1 := n1) (c1 := c1) (d := d) hHeld hbH
                            refine hK.out _ _ hSH (fun hHeld => ?_)
                            clear hK K
                            try simp only [Act.put, List.setIfInBounds_toArray, List.set_cons_zero, List.set_cons_succ]
                            refine wpAnyH_take (i := 35) (oi := ⟨some 76, _, _, _, _, _⟩) (v := ?_) rfl (by kernel_rfl) (by kernel_rfl) (by kernel_rfl) (fun _ _ _ h => h) (Or.inl ⟨by rfl, ?yy114⟩) hHeld ?rr114
                            case yy114 => ((intro w hSw; (try dsimp only at hSw); go_simp) <;> (try with_reducible rfl))
                            try simp only [Act.put, List.setIfInBounds_toArray, List.set_cons_zero, List.set_cons_succ]
                            refine wpAnyH_take (i := 36) (oi := ⟨some 77, _, _, _, _, _⟩) (v := ?_) rfl (by kernel_rfl) (by kernel_rfl) (by kernel_rfl) (fun _ _ _ h => h) (Or.inl ⟨by rfl, ?yy115⟩) hHeld ?rr115
                            case yy115 => ((intro w hSw; (try dsimp only at hSw); go_simp) <;> (try with_reducible rfl))
                            try simp only [Act.put, List.setIfInBounds_toArray, List.set_cons_zero, List.set_cons_succ]
                            refine wpAnyH_take (i := 37) (oi := ⟨some 6, _, _, _, _, _⟩) (v := ?_) rfl (by kernel_rfl) (by kernel_rfl) (by kernel_rfl) (fun _ _ _ h => h) (Or.inl ⟨by rfl, ?yy116⟩) hHeld ?rr116
                            case yy116 => ((intro w hSw; (try dsimp only at hSw); go_simp) <;> (try with_reducible rfl))
                            try simp only [Act.put, List.setIfInBounds_toArray, List.set_cons_zero, List.set_cons_succ]
                            refine wpAnyH_done (by kernel_rfl) ?_ _
                            have HBB := Lib.hid (Ten.bel (w9 := w9) (g := w.heap.size) (g3 := w3.heap.size) (g9 := g9) (gs := gs) (K1 := K1) (t1 := t1) (z1 := z1) (A1 := A1) (n1 := n1) (c1 := c1) (d := d) hHeld)
                            have HBZ := Lib.hid (HB9.out.trans (HBB.out.mono HB9.out.size))
                            clear hHeld
                            go_wp2
                            go_ret
                            exact ⟨rfl, HBZ.out⟩
                          exact AllReadyH.nil
                        exact AllReadyH.nil
                      exact AllReadyH.nil
                    exact AllReadyH.nil
                  exact AllReadyH.nil
                exact AllReadyH.nil
              exact AllReadyH.nil
            exact AllReadyH.nil
end Go.Proofs.YtkchmbcaihknkaaDoor
