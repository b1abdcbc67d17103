/-
  A log in memory ('LogAt'), beside its disk; what dropNew and replace do.
-/
import Derived.Test.YtbhginnfkmajgaaWalA
import Derived.Deep.RegionHeld3
import Derived.Deep.DrawnRows
namespace Go.Proofs.Ytbhginnfkmajgaa
open Go.RowKit Mem FM
set_option linter.unusedVariables false
set_option maxRecDepth 100000
attribute [local go_sem ↓] Go.wp_at_zero Go.wp_at_succ

/-- the block of a log -/
def LB (w : World) (G D : Nat) (nm : ByteArray) (v : Value) : Prop := w.heap[G]? = some (.cells #[.pointer (some ⟨D, 0, none⟩), .string nm, v] 51 (0, 0))
section
variable {w w' : World} {G D : Nat} {nm : ByteArray} {v : Value}
theorem LB.c0 (h : LB w G D nm v) : w.cell? ⟨G, 0, none⟩ = some (.pointer (some ⟨D, 0, none⟩)) := (cellAt 0 h).trans rfl
theorem LB.c1 (h : LB w G D nm v) : w.cell? ⟨G, 1, none⟩ = some (.string nm) := (cellAt 1 h).trans rfl
theorem LB.c2 (h : LB w G D nm v) : w.cell? ⟨G, 2, none⟩ = some v := (cellAt 2 h).trans rfl
theorem LB.f2 (h : LB w G D nm v) : w.frozen? ⟨G, 2, none⟩ = false := freeAt 2 h
theorem LB.s2 (h : LB w G D nm v) (u : Value) : LB (w.setCell ⟨G, 2, none⟩ u) G D nm u := (heapSet 2 u h).trans rfl
theorem LB.lt (h : LB w G D nm v) : G < w.heap.size := heapLt h
theorem LB.turned {P : Nat → Prop} (h : LB w G D nm v) (ht : Turned P w w') (hn : ¬ P G) : LB w' G D nm v := (ht.block G h.lt hn).trans h
end

def newEnd : ByteArray := ⟨#[46, 110, 101, 119]⟩
def nmN (nm : ByteArray) : ByteArray := nm ++ newEnd
def droppedR (s : St) (nm : ByteArray) : Int × St := if (removed s (nmN nm)).1 = 8 then (0, (removed s (nmN nm)).2) else removed s (nmN nm)

theorem Did.from2 {F : Nat → Prop} {D : Nat} {x : Int} {s : St} {w w1 : World} (ht : Turned F w w1) {e : Ending} {w' : World} (h : Did F D x s w1 e w') : Did F D x s w e w' := h.from_ ht

set_option maxHeartbeats 1000000 in
theorem dropNew_any (D G : Nat) (F : Nat → Prop) (s : St) (nm : ByteArray) (v : Value) (w : World) (h : DiskAt w F D s) (hl : LB w G D nm v) (hG : ¬ F G) (hn : nm.size ≤ 100) (hops : s.ops + 1 < 1099511627776) :
    Calls Try.prog 19 #[.pointer (some ⟨G, 0, none⟩)] w (Did F D (droppedR s nm).1 (droppedR s nm).2 w) := by
  have c0 := hl.c0; have c1 := hl.c1
  have hsz : (nmN nm).size ≤ 9223372036854775807 := by unfold nmN; rw [ByteArray.size_append]; show nm.size + 4 ≤ _; omega
  have HR := Lib.hid (remove_any D F s (nmN nm) w.drew h.drew hsz hops)
  have HG := Lib.hid hG
  have hGl := hl.lt
  have hsz2 : ¬ 9223372036854775807 < nm.size + 4 := by omega
  have hadd : nm ++ (⟨#[46, 110, 101, 119]⟩ : ByteArray) = nmN nm := rfl
  have HE := Lib.hid (show droppedR s nm = if (removed s (nmN nm)).1 = 8 then (0, (removed s (nmN nm)).2) else removed s (nmN nm) from rfl)
  clear h hl hsz hG
  generalize hrr : removed s (nmN nm) = rr at *
  obtain ⟨x, s'⟩ := rr
  simp only at HE HR
  by_cases hx : x = 8
  · subst hx
    have HE2 := Lib.hid (show droppedR s nm = (0, s') by rw [HE.out]; rfl)
    clear hrr HE
    go_enter Try.func19, Try.ntmps19
    go_wp2_with fail
    go_region_held3 (fun w' => w'.cell? ⟨G, 0, none⟩ = some (.pointer (some ⟨D, 0, none⟩)) ∧ w'.cell? ⟨G, 1, none⟩ = some (.string nm)) (go_keep)
      ((go_at_call 32; refine HR.out.mono ?_; rintro e w1 ⟨rfl, F', hd1, ht1, hs1⟩
        have q0 := (ht1.cell (p := ⟨G, 0, none⟩) hGl HG.out).trans c0; have q1 := (ht1.cell (p := ⟨G, 1, none⟩) hGl HG.out).trans c1
        have HD1 := Lib.hid hd1; have HT1 := Lib.hid ht1; have HS1 := Lib.hid hs1; clear hd1 ht1 hs1))
    go_wp2
    go_ret
    rw [HE2.out]
    exact ⟨rfl, F', HD1.out, HT1.out.undrew, HS1.out⟩
  · have hq : (x != 8) = true := by simpa using hx
    have HE2 := Lib.hid (show droppedR s nm = (x, s') by rw [HE.out, if_neg hx])
    clear hrr HE
    go_enter Try.func19, Try.ntmps19
    go_wp2_with fail
    go_region_held3 (fun w' => w'.cell? ⟨G, 0, none⟩ = some (.pointer (some ⟨D, 0, none⟩)) ∧ w'.cell? ⟨G, 1, none⟩ = some (.string nm)) (go_keep)
      ((go_at_call 32; refine HR.out.mono ?_; rintro e w1 ⟨rfl, F', hd1, ht1, hs1⟩
        have q0 := (ht1.cell (p := ⟨G, 0, none⟩) hGl HG.out).trans c0; have q1 := (ht1.cell (p := ⟨G, 1, none⟩) hGl HG.out).trans c1
        have HD1 := Lib.hid hd1; have HT1 := Lib.hid ht1; have HS1 := Lib.hid hs1; clear hd1 ht1 hs1))
    go_wp2
    go_ret
    rw [HE2.out]
    exact ⟨rfl, F', HD1.out, HT1.out.undrew, HS1.out⟩
end Go.Proofs.Ytbhginnfkmajgaa
