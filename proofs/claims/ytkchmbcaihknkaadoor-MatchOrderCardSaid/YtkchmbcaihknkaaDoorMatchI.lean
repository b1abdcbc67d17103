/-
  The law MatchOrder, by the contracts.
-/
import Derived.Test.YtkchmbcaihknkaaDoorMatchG
namespace Go.Proofs.YtkchmbcaihknkaaDoor
open Go.RowKit Mem
set_option linter.unusedVariables false
set_option maxRecDepth 100000

/-- three entries in three blocks -/
def DocsIn (W : World) (g : Nat) (a b c : M.D) : Prop := DocIn W g a ∧ DocIn W (g + 1) b ∧ DocIn W (g + 1 + 1) c
theorem DocsIn.on {W W' : World} {g : Nat} {a b c : M.D} (h : DocsIn W g a b c) (hb : Below W.heap.size W W') : DocsIn W' g a b c := ⟨h.1.on hb, h.2.1.on hb, h.2.2.on hb⟩
theorem DocsIn.cells {W : World} {g : Nat} {a b c : M.D} (h : DocsIn W g a b c) : (W.cell? ⟨g, 0, none⟩ = some (.string ⟨a.id.toArray⟩) ∧ W.cell? ⟨g, 1, none⟩ = some (.int .i64 a.time) ∧ W.cell? ⟨g, 2, none⟩ = some (.string ⟨a.text.toArray⟩)) ∧
    (W.cell? ⟨g + 1, 0, none⟩ = some (.string ⟨b.id.toArray⟩) ∧ W.cell? ⟨g + 1, 1, none⟩ = some (.int .i64 b.time) ∧ W.cell? ⟨g + 1, 2, none⟩ = some (.string ⟨b.text.toArray⟩)) ∧
    (W.cell? ⟨g + 1 + 1, 0, none⟩ = some (.string ⟨c.id.toArray⟩) ∧ W.cell? ⟨g + 1 + 1, 1, none⟩ = some (.int .i64 c.time) ∧ W.cell? ⟨g + 1 + 1, 2, none⟩ = some (.string ⟨c.text.toArray⟩)) := ⟨h.1.cells, h.2.1.cells, h.2.2.cells⟩

set_option maxHeartbeats 4000000 in
theorem matchOrder_any (a b c : M.D) (w : World) (hT : Tabs w) : Calls Tryd.prog 5 #[dval a, dval b, dval c] w (SaysB true w) := by
  have HB0 := Lib.hid ((((Below.refl w.heap.size w).alloc (Nat.le_refl _) (.cells #[.string ⟨a.id.toArray⟩, .int .i64 a.time, .string ⟨a.text.toArray⟩] 26)).alloc (by simp) (.cells #[.string ⟨b.id.toArray⟩, .int .i64 b.time, .string ⟨b.text.toArray⟩] 26)).alloc (by simp; omega) (.cells #[.string ⟨c.id.toArray⟩, .int .i64 c.time, .string ⟨c.text.toArray⟩] 26))
  have HT := Lib.hid (((hT.alloc (.cells #[.string ⟨a.id.toArray⟩, .int .i64 a.time, .string ⟨a.text.toArray⟩] 26)).alloc (.cells #[.string ⟨b.id.toArray⟩, .int .i64 b.time, .string ⟨b.text.toArray⟩] 26)).alloc (.cells #[.string ⟨c.id.toArray⟩, .int .i64 c.time, .string ⟨c.text.toArray⟩] 26))
  have HDS0 := Lib.hid (show DocsIn (((w.alloc (.cells #[.string ⟨a.id.toArray⟩, .int .i64 a.time, .string ⟨a.text.toArray⟩] 26)).alloc (.cells #[.string ⟨b.id.toArray⟩, .int .i64 b.time, .string ⟨b.text.toArray⟩] 26)).alloc (.cells #[.string ⟨c.id.toArray⟩, .int .i64 c.time, .string ⟨c.text.toArray⟩] 26)) w.heap.size a b c from
    ⟨((DocIn.new w a).on ((Below.refl _ _).alloc (Nat.le_refl _) _)).on ((Below.refl _ _).alloc (Nat.le_refl _) _), by
      have h := (DocIn.new (w.alloc (.cells #[.string ⟨a.id.toArray⟩, .int .i64 a.time, .string ⟨a.text.toArray⟩] 26)) b).on ((Below.refl _ _).alloc (Nat.le_refl _) (.cells #[.string ⟨c.id.toArray⟩, .int .i64 c.time, .string ⟨c.text.toArray⟩] 26))
      simpa using h, by
      have h := DocIn.new ((w.alloc (.cells #[.string ⟨a.id.toArray⟩, .int .i64 a.time, .string ⟨a.text.toArray⟩] 26)).alloc (.cells #[.string ⟨b.id.toArray⟩, .int .i64 b.time, .string ⟨b.text.toArray⟩] 26)) c
      simpa using h⟩)
  have HTR := Lib.hid (@M.order_le_trans a b c)
  clear hT
  rcases M.order_cases a b with ⟨hx1, hx2, hx3⟩ | ⟨hx1, hx2, hx3, -, -⟩ | ⟨hx1, hx2, hx3⟩
  · have HTR2 := Lib.hid (fun (hy : M.order b c ≤ 0) => HTR.out (by omega) hy)
    clear HTR
    by_cases hy : M.order b c ≤ 0
    · have hz := HTR2.out hy
      clear HTR2
      have HX := Lib.hid (fun W => order_any a b W)
      have HX' := Lib.hid (fun W => order_any b a W)
      have HY := Lib.hid (fun W => order_any b c W)
      have HZ := Lib.hid (fun W => order_any a c W)
      have HAB := Lib.hid (fun W => ahead_any a b W)
      have HBA := Lib.hid (fun W => ahead_any b a W)
      rw [M.order_neg a b, hx1] at HX'
      rw [hx1] at HX
      rw [hx2] at HAB
      rw [hx3] at HBA
      clear hx1 hx2 hx3
      unfold dval at HX HX' HY HZ HAB HBA ⊢
      generalize M.order b c = y at *
      generalize M.order a c = z at *
      go_enter Tryd.func5, Tryd.ntmps5
      go_wp2_with fail
      refine (awake7_any _ HT.out).mono ?_
      rintro e w1 ⟨rfl, hb⟩
      have HDS1 := Lib.hid (HDS0.out.on hb)
      have HB1 := Lib.hid (HB0.out.trans (hb.mono HB0.out.size))
      clear hb
      obtain ⟨⟨c0, c1, c2⟩, ⟨d0, d1, d2⟩, ⟨e0, e1, e2⟩⟩ := HDS1.out.cells
      go_wp2_with fail
      refine (HX.out w1).mono ?_
      rintro e w2 ⟨rfl, hb⟩
      have HDS2 := Lib.hid (HDS1.out.on hb)
      have HB2 := Lib.hid (HB1.out.trans (hb.mono HB1.out.size))
      clear hb c0 c1 c2 d0 d1 d2 e0 e1 e2
      obtain ⟨⟨c0, c1, c2⟩, ⟨d0, d1, d2⟩, ⟨e0, e1, e2⟩⟩ := HDS2.out.cells
      go_wp2_with fail
      refine (HY.out w2).mono ?_
      rintro e w3 ⟨rfl, hb⟩
      have HDS3 := Lib.hid (HDS2.out.on hb)
      have HB3 := Lib.hid (HB2.out.trans (hb.mono HB2.out.size))
      clear hb c0 c1 c2 d0 d1 d2 e0 e1 e2
      obtain ⟨⟨c0, c1, c2⟩, ⟨d0, d1, d2⟩, ⟨e0, e1, e2⟩⟩ := HDS3.out.cells
      go_wp2_with fail
      refine (HZ.out w3).mono ?_
      rintro e w4 ⟨rfl, hb⟩
      have HDS4 := Lib.hid (HDS3.out.on hb)
      have HB4 := Lib.hid (HB3.out.trans (hb.mono HB3.out.size))
      clear hb c0 c1 c2 d0 d1 d2 e0 e1 e2
      obtain ⟨⟨c0, c1, c2⟩, ⟨d0, d1, d2⟩, ⟨e0, e1, e2⟩⟩ := HDS4.out.cells
      go_wp2_with fail
      refine (HAB.out w4).mono ?_
      rintro e w5 ⟨rfl, hb⟩
      have HDS5 := Lib.hid (HDS4.out.on hb)
      have HB5 := Lib.hid (HB4.out.trans (hb.mono HB4.out.size))
      clear hb c0 c1 c2 d0 d1 d2 e0 e1 e2
      obtain ⟨⟨c0, c1, c2⟩, ⟨d0, d1, d2⟩, ⟨e0, e1, e2⟩⟩ := HDS5.out.cells
      go_wp2_with fail
      refine (HBA.out w5).mono ?_
      rintro e w6 ⟨rfl, hb⟩
      have HDS6 := Lib.hid (HDS5.out.on hb)
      have HB6 := Lib.hid (HB5.out.trans (hb.mono HB5.out.size))
      clear hb c0 c1 c2 d0 d1 d2 e0 e1 e2
      obtain ⟨⟨c0, c1, c2⟩, ⟨d0, d1, d2⟩, ⟨e0, e1, e2⟩⟩ := HDS6.out.cells
      go_wp2_with fail
      refine (HX'.out w6).mono ?_
      rintro e w7 ⟨rfl, hb⟩
      have HDS7 := Lib.hid (HDS6.out.on hb)
      have HB7 := Lib.hid (HB6.out.trans (hb.mono HB6.out.size))
      clear hb c0 c1 c2 d0 d1 d2 e0 e1 e2
      obtain ⟨⟨c0, c1, c2⟩, ⟨d0, d1, d2⟩, ⟨e0, e1, e2⟩⟩ := HDS7.out.cells
      go_wp2
      go_ret
      exact ⟨rfl, HB7.out⟩
    · clear HTR2
      have HX := Lib.hid (fun W => order_any a b W)
      have HX' := Lib.hid (fun W => order_any b a W)
      have HY := Lib.hid (fun W => order_any b c W)
      have HZ := Lib.hid (fun W => order_any a c W)
      have HAB := Lib.hid (fun W => ahead_any a b W)
      have HBA := Lib.hid (fun W => ahead_any b a W)
      rw [M.order_neg a b, hx1] at HX'
      rw [hx1] at HX
      rw [hx2] at HAB
      rw [hx3] at HBA
      clear hx1 hx2 hx3
      unfold dval at HX HX' HY HZ HAB HBA ⊢
      generalize M.order b c = y at *
      generalize M.order a c = z at *
      go_enter Tryd.func5, Tryd.ntmps5
      go_wp2_with fail
      refine (awake7_any _ HT.out).mono ?_
      rintro e w1 ⟨rfl, hb⟩
      have HDS1 := Lib.hid (HDS0.out.on hb)
      have HB1 := Lib.hid (HB0.out.trans (hb.mono HB0.out.size))
      clear hb
      obtain ⟨⟨c0, c1, c2⟩, ⟨d0, d1, d2⟩, ⟨e0, e1, e2⟩⟩ := HDS1.out.cells
      go_wp2_with fail
      refine (HX.out w1).mono ?_
      rintro e w2 ⟨rfl, hb⟩
      have HDS2 := Lib.hid (HDS1.out.on hb)
      have HB2 := Lib.hid (HB1.out.trans (hb.mono HB1.out.size))
      clear hb c0 c1 c2 d0 d1 d2 e0 e1 e2
      obtain ⟨⟨c0, c1, c2⟩, ⟨d0, d1, d2⟩, ⟨e0, e1, e2⟩⟩ := HDS2.out.cells
      go_wp2_with fail
      refine (HY.out w2).mono ?_
      rintro e w3 ⟨rfl, hb⟩
      have HDS3 := Lib.hid (HDS2.out.on hb)
      have HB3 := Lib.hid (HB2.out.trans (hb.mono HB2.out.size))
      clear hb c0 c1 c2 d0 d1 d2 e0 e1 e2
      obtain ⟨⟨c0, c1, c2⟩, ⟨d0, d1, d2⟩, ⟨e0, e1, e2⟩⟩ := HDS3.out.cells
      go_wp2_with fail
      refine (HZ.out w3).mono ?_
      rintro e w4 ⟨rfl, hb⟩
      have HDS4 := Lib.hid (HDS3.out.on hb)
      have HB4 := Lib.hid (HB3.out.trans (hb.mono HB3.out.size))
      clear hb c0 c1 c2 d0 d1 d2 e0 e1 e2
      obtain ⟨⟨c0, c1, c2⟩, ⟨d0, d1, d2⟩, ⟨e0, e1, e2⟩⟩ := HDS4.out.cells
      go_wp2_with fail
      refine (HAB.out w4).mono ?_
      rintro e w5 ⟨rfl, hb⟩
      have HDS5 := Lib.hid (HDS4.out.on hb)
      have HB5 := Lib.hid (HB4.out.trans (hb.mono HB4.out.size))
      clear hb c0 c1 c2 d0 d1 d2 e0 e1 e2
      obtain ⟨⟨c0, c1, c2⟩, ⟨d0, d1, d2⟩, ⟨e0, e1, e2⟩⟩ := HDS5.out.cells
      go_wp2_with fail
      refine (HBA.out w5).mono ?_
      rintro e w6 ⟨rfl, hb⟩
      have HDS6 := Lib.hid (HDS5.out.on hb)
      have HB6 := Lib.hid (HB5.out.trans (hb.mono HB5.out.size))
      clear hb c0 c1 c2 d0 d1 d2 e0 e1 e2
      obtain ⟨⟨c0, c1, c2⟩, ⟨d0, d1, d2⟩, ⟨e0, e1, e2⟩⟩ := HDS6.out.cells
      go_wp2_with fail
      refine (HX'.out w6).mono ?_
      rintro e w7 ⟨rfl, hb⟩
      have HDS7 := Lib.hid (HDS6.out.on hb)
      have HB7 := Lib.hid (HB6.out.trans (hb.mono HB6.out.size))
      clear hb c0 c1 c2 d0 d1 d2 e0 e1 e2
      obtain ⟨⟨c0, c1, c2⟩, ⟨d0, d1, d2⟩, ⟨e0, e1, e2⟩⟩ := HDS7.out.cells
      go_wp2
      go_ret
      exact ⟨rfl, HB7.out⟩
  · have HTR2 := Lib.hid (fun (hy : M.order b c ≤ 0) => HTR.out (by omega) hy)
    clear HTR
    by_cases hy : M.order b c ≤ 0
    · have hz := HTR2.out hy
      clear HTR2
      have HX := Lib.hid (fun W => order_any a b W)
      have HX' := Lib.hid (fun W => order_any b a W)
      have HY := Lib.hid (fun W => order_any b c W)
      have HZ := Lib.hid (fun W => order_any a c W)
      have HAB := Lib.hid (fun W => ahead_any a b W)
      have HBA := Lib.hid (fun W => ahead_any b a W)
      rw [M.order_neg a b, hx1] at HX'
      rw [hx1] at HX
      rw [hx2] at HAB
      rw [hx3] at HBA
      clear hx1 hx2 hx3
      unfold dval at HX HX' HY HZ HAB HBA ⊢
      generalize M.order b c = y at *
      generalize M.order a c = z at *
      go_enter Tryd.func5, Tryd.ntmps5
      go_wp2_with fail
      refine (awake7_any _ HT.out).mono ?_
      rintro e w1 ⟨rfl, hb⟩
      have HDS1 := Lib.hid (HDS0.out.on hb)
      have HB1 := Lib.hid (HB0.out.trans (hb.mono HB0.out.size))
      clear hb
      obtain ⟨⟨c0, c1, c2⟩, ⟨d0, d1, d2⟩, ⟨e0, e1, e2⟩⟩ := HDS1.out.cells
      go_wp2_with fail
      refine (HX.out w1).mono ?_
      rintro e w2 ⟨rfl, hb⟩
      have HDS2 := Lib.hid (HDS1.out.on hb)
      have HB2 := Lib.hid (HB1.out.trans (hb.mono HB1.out.size))
      clear hb c0 c1 c2 d0 d1 d2 e0 e1 e2
      obtain ⟨⟨c0, c1, c2⟩, ⟨d0, d1, d2⟩, ⟨e0, e1, e2⟩⟩ := HDS2.out.cells
      go_wp2_with fail
      refine (HY.out w2).mono ?_
      rintro e w3 ⟨rfl, hb⟩
      have HDS3 := Lib.hid (HDS2.out.on hb)
      have HB3 := Lib.hid (HB2.out.trans (hb.mono HB2.out.size))
      clear hb c0 c1 c2 d0 d1 d2 e0 e1 e2
      obtain ⟨⟨c0, c1, c2⟩, ⟨d0, d1, d2⟩, ⟨e0, e1, e2⟩⟩ := HDS3.out.cells
      go_wp2_with fail
      refine (HZ.out w3).mono ?_
      rintro e w4 ⟨rfl, hb⟩
      have HDS4 := Lib.hid (HDS3.out.on hb)
      have HB4 := Lib.hid (HB3.out.trans (hb.mono HB3.out.size))
      clear hb c0 c1 c2 d0 d1 d2 e0 e1 e2
      obtain ⟨⟨c0, c1, c2⟩, ⟨d0, d1, d2⟩, ⟨e0, e1, e2⟩⟩ := HDS4.out.cells
      go_wp2_with fail
      refine (HAB.out w4).mono ?_
      rintro e w5 ⟨rfl, hb⟩
      have HDS5 := Lib.hid (HDS4.out.on hb)
      have HB5 := Lib.hid (HB4.out.trans (hb.mono HB4.out.size))
      clear hb c0 c1 c2 d0 d1 d2 e0 e1 e2
      obtain ⟨⟨c0, c1, c2⟩, ⟨d0, d1, d2⟩, ⟨e0, e1, e2⟩⟩ := HDS5.out.cells
      go_wp2_with fail
      refine (HBA.out w5).mono ?_
      rintro e w6 ⟨rfl, hb⟩
      have HDS6 := Lib.hid (HDS5.out.on hb)
      have HB6 := Lib.hid (HB5.out.trans (hb.mono HB5.out.size))
      clear hb c0 c1 c2 d0 d1 d2 e0 e1 e2
      obtain ⟨⟨c0, c1, c2⟩, ⟨d0, d1, d2⟩, ⟨e0, e1, e2⟩⟩ := HDS6.out.cells
      go_wp2_with fail
      refine (HX'.out w6).mono ?_
      rintro e w7 ⟨rfl, hb⟩
      have HDS7 := Lib.hid (HDS6.out.on hb)
      have HB7 := Lib.hid (HB6.out.trans (hb.mono HB6.out.size))
      clear hb c0 c1 c2 d0 d1 d2 e0 e1 e2
      obtain ⟨⟨c0, c1, c2⟩, ⟨d0, d1, d2⟩, ⟨e0, e1, e2⟩⟩ := HDS7.out.cells
      go_wp2
      go_ret
      exact ⟨rfl, HB7.out⟩
    · clear HTR2
      have HX := Lib.hid (fun W => order_any a b W)
      have HX' := Lib.hid (fun W => order_any b a W)
      have HY := Lib.hid (fun W => order_any b c W)
      have HZ := Lib.hid (fun W => order_any a c W)
      have HAB := Lib.hid (fun W => ahead_any a b W)
      have HBA := Lib.hid (fun W => ahead_any b a W)
      rw [M.order_neg a b, hx1] at HX'
      rw [hx1] at HX
      rw [hx2] at HAB
      rw [hx3] at HBA
      clear hx1 hx2 hx3
      unfold dval at HX HX' HY HZ HAB HBA ⊢
      generalize M.order b c = y at *
      generalize M.order a c = z at *
      go_enter Tryd.func5, Tryd.ntmps5
      go_wp2_with fail
      refine (awake7_any _ HT.out).mono ?_
      rintro e w1 ⟨rfl, hb⟩
      have HDS1 := Lib.hid (HDS0.out.on hb)
      have HB1 := Lib.hid (HB0.out.trans (hb.mono HB0.out.size))
      clear hb
      obtain ⟨⟨c0, c1, c2⟩, ⟨d0, d1, d2⟩, ⟨e0, e1, e2⟩⟩ := HDS1.out.cells
      go_wp2_with fail
      refine (HX.out w1).mono ?_
      rintro e w2 ⟨rfl, hb⟩
      have HDS2 := Lib.hid (HDS1.out.on hb)
      have HB2 := Lib.hid (HB1.out.trans (hb.mono HB1.out.size))
      clear hb c0 c1 c2 d0 d1 d2 e0 e1 e2
      obtain ⟨⟨c0, c1, c2⟩, ⟨d0, d1, d2⟩, ⟨e0, e1, e2⟩⟩ := HDS2.out.cells
      go_wp2_with fail
      refine (HY.out w2).mono ?_
      rintro e w3 ⟨rfl, hb⟩
      have HDS3 := Lib.hid (HDS2.out.on hb)
      have HB3 := Lib.hid (HB2.out.trans (hb.mono HB2.out.size))
      clear hb c0 c1 c2 d0 d1 d2 e0 e1 e2
      obtain ⟨⟨c0, c1, c2⟩, ⟨d0, d1, d2⟩, ⟨e0, e1, e2⟩⟩ := HDS3.out.cells
      go_wp2_with fail
      refine (HZ.out w3).mono ?_
      rintro e w4 ⟨rfl, hb⟩
      have HDS4 := Lib.hid (HDS3.out.on hb)
      have HB4 := Lib.hid (HB3.out.trans (hb.mono HB3.out.size))
      clear hb c0 c1 c2 d0 d1 d2 e0 e1 e2
      obtain ⟨⟨c0, c1, c2⟩, ⟨d0, d1, d2⟩, ⟨e0, e1, e2⟩⟩ := HDS4.out.cells
      go_wp2_with fail
      refine (HAB.out w4).mono ?_
      rintro e w5 ⟨rfl, hb⟩
      have HDS5 := Lib.hid (HDS4.out.on hb)
      have HB5 := Lib.hid (HB4.out.trans (hb.mono HB4.out.size))
      clear hb c0 c1 c2 d0 d1 d2 e0 e1 e2
      obtain ⟨⟨c0, c1, c2⟩, ⟨d0, d1, d2⟩, ⟨e0, e1, e2⟩⟩ := HDS5.out.cells
      go_wp2_with fail
      refine (HBA.out w5).mono ?_
      rintro e w6 ⟨rfl, hb⟩
      have HDS6 := Lib.hid (HDS5.out.on hb)
      have HB6 := Lib.hid (HB5.out.trans (hb.mono HB5.out.size))
      clear hb c0 c1 c2 d0 d1 d2 e0 e1 e2
      obtain ⟨⟨c0, c1, c2⟩, ⟨d0, d1, d2⟩, ⟨e0, e1, e2⟩⟩ := HDS6.out.cells
      go_wp2_with fail
      refine (HX'.out w6).mono ?_
      rintro e w7 ⟨rfl, hb⟩
      have HDS7 := Lib.hid (HDS6.out.on hb)
      have HB7 := Lib.hid (HB6.out.trans (hb.mono HB6.out.size))
      clear hb c0 c1 c2 d0 d1 d2 e0 e1 e2
      obtain ⟨⟨c0, c1, c2⟩, ⟨d0, d1, d2⟩, ⟨e0, e1, e2⟩⟩ := HDS7.out.cells
      go_wp2
      go_ret
      exact ⟨rfl, HB7.out⟩
  · clear HTR
    have HX := Lib.hid (fun W => order_any a b W)
    have HX' := Lib.hid (fun W => order_any b a W)
    have HY := Lib.hid (fun W => order_any b c W)
    have HZ := Lib.hid (fun W => order_any a c W)
    have HAB := Lib.hid (fun W => ahead_any a b W)
    have HBA := Lib.hid (fun W => ahead_any b a W)
    rw [M.order_neg a b, hx1] at HX'
    rw [hx1] at HX
    rw [hx2] at HAB
    rw [hx3] at HBA
    clear hx1 hx2 hx3
    unfold dval at HX HX' HY HZ HAB HBA ⊢
    generalize M.order b c = y at *
    generalize M.order a c = z at *
    go_enter Tryd.func5, Tryd.ntmps5
    go_wp2_with fail
    refine (awake7_any _ HT.out).mono ?_
    rintro e w1 ⟨rfl, hb⟩
    have HDS1 := Lib.hid (HDS0.out.on hb)
    have HB1 := Lib.hid (HB0.out.trans (hb.mono HB0.out.size))
    clear hb
    obtain ⟨⟨c0, c1, c2⟩, ⟨d0, d1, d2⟩, ⟨e0, e1, e2⟩⟩ := HDS1.out.cells
    go_wp2_with fail
    refine (HX.out w1).mono ?_
    rintro e w2 ⟨rfl, hb⟩
    have HDS2 := Lib.hid (HDS1.out.on hb)
    have HB2 := Lib.hid (HB1.out.trans (hb.mono HB1.out.size))
    clear hb c0 c1 c2 d0 d1 d2 e0 e1 e2
    obtain ⟨⟨c0, c1, c2⟩, ⟨d0, d1, d2⟩, ⟨e0, e1, e2⟩⟩ := HDS2.out.cells
    go_wp2_with fail
    refine (HY.out w2).mono ?_
    rintro e w3 ⟨rfl, hb⟩
    have HDS3 := Lib.hid (HDS2.out.on hb)
    have HB3 := Lib.hid (HB2.out.trans (hb.mono HB2.out.size))
    clear hb c0 c1 c2 d0 d1 d2 e0 e1 e2
    obtain ⟨⟨c0, c1, c2⟩, ⟨d0, d1, d2⟩, ⟨e0, e1, e2⟩⟩ := HDS3.out.cells
    go_wp2_with fail
    refine (HZ.out w3).mono ?_
    rintro e w4 ⟨rfl, hb⟩
    have HDS4 := Lib.hid (HDS3.out.on hb)
    have HB4 := Lib.hid (HB3.out.trans (hb.mono HB3.out.size))
    clear hb c0 c1 c2 d0 d1 d2 e0 e1 e2
    obtain ⟨⟨c0, c1, c2⟩, ⟨d0, d1, d2⟩, ⟨e0, e1, e2⟩⟩ := HDS4.out.cells
    go_wp2_with fail
    refine (HAB.out w4).mono ?_
    rintro e w5 ⟨rfl, hb⟩
    have HDS5 := Lib.hid (HDS4.out.on hb)
    have HB5 := Lib.hid (HB4.out.trans (hb.mono HB4.out.size))
    clear hb c0 c1 c2 d0 d1 d2 e0 e1 e2
    obtain ⟨⟨c0, c1, c2⟩, ⟨d0, d1, d2⟩, ⟨e0, e1, e2⟩⟩ := HDS5.out.cells
    go_wp2_with fail
    refine (HBA.out w5).mono ?_
    rintro e w6 ⟨rfl, hb⟩
    have HDS6 := Lib.hid (HDS5.out.on hb)
    have HB6 := Lib.hid (HB5.out.trans (hb.mono HB5.out.size))
    clear hb c0 c1 c2 d0 d1 d2 e0 e1 e2
    obtain ⟨⟨c0, c1, c2⟩, ⟨d0, d1, d2⟩, ⟨e0, e1, e2⟩⟩ := HDS6.out.cells
    go_wp2_with fail
    refine (HX'.out w6).mono ?_
    rintro e w7 ⟨rfl, hb⟩
    have HDS7 := Lib.hid (HDS6.out.on hb)
    have HB7 := Lib.hid (HB6.out.trans (hb.mono HB6.out.size))
    clear hb c0 c1 c2 d0 d1 d2 e0 e1 e2
    obtain ⟨⟨c0, c1, c2⟩, ⟨d0, d1, d2⟩, ⟨e0, e1, e2⟩⟩ := HDS7.out.cells
    go_wp2
    go_ret
    exact ⟨rfl, HB7.out⟩
end Go.Proofs.YtkchmbcaihknkaaDoor
