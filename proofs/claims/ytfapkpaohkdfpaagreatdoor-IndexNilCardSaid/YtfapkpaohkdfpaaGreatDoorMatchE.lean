/-
  The entry that is asked: does it have a term? By a contract.
-/
import Derived.Test.YtfapkpaohkdfpaaGreatDoorMatchD
namespace Go.Proofs.YtfapkpaohkdfpaaGreatDoor
open Go.RowKit Mem
set_option linter.unusedVariables false
set_option maxRecDepth 100000

theorem terms_rising (l : List UInt8) : M.Rising (M.terms l) := M.gather_rising _

set_option maxHeartbeats 2000000 in
theorem askHas_any (w0 : World) (g : Nat) (d : M.D) (t : List UInt8) (w : World) (hT : Tabs w0) (hs : d.text.length ≤ 1073741824) (hg : w0.heap.size ≤ g) (hb : Below w0.heap.size w0 w) (ha : AskAt w g d) :
    Calls Tryz.prog 110 #[.pointer (some ⟨g, 0, none⟩), .string ⟨t.toArray⟩] w (Told w0 g d (decide (t ∈ M.terms d.text))) := by
  obtain ⟨tk, A, n, c, hh, hr⟩ := ha
  have hgw := heapLt hh
  have HL := Lib.hid (terms_len d.text)
  have HRS := Lib.hid (terms_rising d.text)
  have HB := Lib.hid hb
  have HTW := Lib.hid (hT.below hb)
  clear hT hb
  have c2 : w.cell? ⟨g, 2, none⟩ = some (.string ⟨d.text.toArray⟩) := cellAt 2 hh
  have c3 : w.cell? ⟨g, 3, none⟩ = some (.slice A n c) := cellAt 3 hh
  have c4 : w.cell? ⟨g, 4, none⟩ = some (.bool tk) := cellAt 4 hh
  have f3 := freeAt 3 hh
  have f4 := freeAt 4 hh
  have HH := Lib.hid hh
  clear hh
  cases tk with
  | true =>
    have HR := Lib.hid (hr rfl)
    have HNL := Lib.hid (show n = (M.terms d.text).length by have := HR.out.1; simpa using this)
    have hn : n < 4611686018427387904 := by have := HNL.out; have := HL.out; omega
    clear hr f3 f4
    go_enter Tryz.func110, Tryz.ntmps110
    go_wp2_with fail
    refine (search_any A n c _ _ t w HR.out HRS.out hn).mono ?_
    rintro e w1 ⟨i, rfl, rfl⟩
    go_wp2
    go_ret
    exact ⟨rfl, ⟨true, A, n, c, HH.out, fun _ => HR.out⟩, HB.out⟩
  | false =>
    clear hr
    have HCALL := Lib.hid (show Calls Tryz.prog 77 #[.string ⟨d.text.toArray⟩] w (SaysN (M.terms d.text) w) from terms_new ⟨d.text.toArray⟩ w hs HTW.out)
    go_enter Tryz.func110, Tryz.ntmps110
    go_wp2_with fail
    refine HCALL.out.mono ?_
    rintro e w1 ⟨A1, cap1, rfl, hrd1, hb1, hnew1⟩
    have hh1 := (hb1.block g hgw).trans HH.out
    have hh2 := heapSet 3 (.slice A1 (M.terms d.text).length cap1) hh1
    have hh3 := heapSet 4 (.bool true) hh2
    have c3' : ((w1.setCell ⟨g, 3, none⟩ (.slice A1 (M.terms d.text).length cap1)).setCell ⟨g, 4, none⟩ (.bool true)).cell? ⟨g, 3, none⟩ = some (.slice A1 (M.terms d.text).length cap1) := cellAt 3 hh3
    have c3w : w1.cell? ⟨g, 3, none⟩ = some (.slice A n c) := cellAt 3 hh1
    have c4w : w1.cell? ⟨g, 4, none⟩ = some (.bool false) := cellAt 4 hh1
    have f3' := freeAt 3 hh1
    have f4' := freeAt 4 hh1
    have f4'' := freeAt 4 hh2
    have HRD := Lib.hid (show RdV ((w1.setCell ⟨g, 3, none⟩ (.slice A1 (M.terms d.text).length cap1)).setCell ⟨g, 4, none⟩ (.bool true)) w1.heap.size A1 (M.terms d.text).length cap1 (strs (M.terms d.text)) by
      refine ⟨hrd1.1, hrd1.2.1, hrd1.2.2.1, fun hn => ?_⟩
      obtain ⟨b, off, e, hb, hc⟩ := hrd1.2.2.2 hn
      obtain ⟨b', off', e', hb'⟩ := hnew1 hn
      rw [e] at e'
      injection e' with e'
      injection e' with e1 e2 _
      subst e1 e2
      have hne : b ≠ g := by omega
      refine ⟨b, off, e, hb, fun j hj => ?_⟩
      rw [World.cell?_of_block (w := w1) (by
        rw [Below.heap_setCell _ _ _ _ (by exact hne), Below.heap_setCell _ _ _ _ (by exact hne)])]
      exact hc j hj)
    have HHH := Lib.hid hh3
    have HBF := Lib.hid (show Below w0.heap.size w0 ((w1.setCell ⟨g, 3, none⟩ (.slice A1 (M.terms d.text).length cap1)).setCell ⟨g, 4, none⟩ (.bool true)) from ((HB.out.trans (hb1.mono HB.out.size)).setCell (p := ⟨g, 3, none⟩) hg _).setCell (p := ⟨g, 4, none⟩) hg _)
    have hn : (M.terms d.text).length < 4611686018427387904 := by have := HL.out; omega
    clear hh1 hh2 hh3 hrd1 hnew1 hb1 c2 c3 c4 f3 f4 HH HCALL
    generalize (M.terms d.text).length = m at *
    go_wp2_with fail
    refine (search_any A1 m cap1 _ _ t _ HRD.out HRS.out hn).mono ?_
    rintro e w2 ⟨i, rfl, rfl⟩
    clear c3' c3w c4w f3' f4' f4''
    go_wp2
    go_ret
    refine ⟨rfl, ⟨true, A1, m, cap1, ?_, fun _ => HRD.out.more (by simp [World.setCell])⟩, HBF.out⟩
    rw [HHH.out]
    rfl
end Go.Proofs.YtfapkpaohkdfpaaGreatDoor
