/-
  What the document's Rises, In and Same of layer 8 do, by contracts; and behind.
-/
import Derived.Test.YtlmidhhonnnocaaDoorPackC
import Derived.Test.YtlmidhhonnnocaaDoorMemW
import Derived.Test.YtlmidhhonnnocaaDoorPostMath
import Derived.BigQuiet
import Derived.Deep.QuietTactic
import Derived.Deep.RegionHeld3
namespace Go.Proofs.YtlmidhhonnnocaaDoor
open Go.RowKit Mem
set_option linter.unusedVariables false
set_option maxRecDepth 100000

/-- numbers as values -/
def ints (l : List Int) : List Value := l.map (Value.int .i64)
theorem ints_len (l : List Int) : (ints l).length = l.length := by simp [ints]
theorem ints_app (l r : List Int) : ints (l ++ r) = ints l ++ ints r := by simp [ints]
theorem ints_one (l : List Int) : ∀ u ∈ ints l, u.oneCell' = true := by
  intro u hu
  obtain ⟨x, _, rfl⟩ := List.mem_map.1 hu
  rfl
theorem ints_drop (l : List Int) (k : Nat) : (ints l).drop k = ints (l.drop k) := by simp [ints, List.map_drop]
theorem ints_at {l : List Int} {j : Nat} (h : j < l.length) : (ints l)[j]? = some (.int .i64 l[j]) := by simp [ints, h]
theorem int_at {w : World} {B n c : Nat} {A : Option Addr} {l : List Int} (h : RdV w B A n c (ints l)) {j : Nat} (hj : j < n) :
    ∃ b off x, A = some ⟨b, off, none⟩ ∧ b < B ∧ w.cell? ⟨b, off + j, none⟩ = some (.int .i64 x) ∧ l.drop j = x :: l.drop (j + 1) ∧ l[j]? = some x ∧ x ∈ l := by
  have hl : n = l.length := by have := h.1; rwa [ints_len] at this
  obtain ⟨b, off, e, hb, hc⟩ := h.at_ hj
  refine ⟨b, off, l[j]'(by omega), e, hb, by rw [hc, ints_at (by omega)], List.drop_eq_getElem_cons (by omega), List.getElem?_eq_getElem (by omega), List.getElem_mem _⟩
theorem rdv_drewN {w : World} {B n c : Nat} {A : Option Addr} {xs : List Value} (h : RdV w B A n c xs) (k : Nat) : RdV (w.drewN k) B A n c xs := h
theorem bel_drewN {B : Nat} {w w' : World} (h : Below B w w') (n : Nat) : Below B w (w'.drewN n) := ⟨h.os, h.tape, h.output, h.size, h.block⟩
def SaysBP (b : Bool) (w : World) (e : Ending) (w' : World) : Prop := e = .returned (.bool b) ∧ Below w.heap.size w w'
theorem int_dec {x y : Int} : (x == y) = decide (x = y) := by rw [Bool.eq_iff_iff]; simp
def Known (l : List Int) : Prop := ∀ k ∈ l, -9223372036854775808 ≤ k ∧ k ≤ 9223372036854775807

/-- so far none -/
def Sought (l : List Int) (v : Int) (j : Nat) : Prop := decide (v ∈ l) = decide (v ∈ l.drop j)
theorem Sought.start (l : List Int) (v : Int) : Sought l v 0 := rfl
theorem Sought.found {l : List Int} {v : Int} {j : Nat} (h : Sought l v j) (e : l.drop j = v :: l.drop (j + 1)) : decide (v ∈ l) = true := by rw [h, e]; simp
theorem Sought.step {l : List Int} {v x : Int} {j : Nat} (h : Sought l v j) (e : l.drop j = x :: l.drop (j + 1)) (hx : x ≠ v) : Sought l v (j + 1) := by
  unfold Sought at h ⊢
  rw [h, e]; simp [Ne.symm hx]
theorem Sought.end_ {l : List Int} {v : Int} {j : Nat} (h : Sought l v j) (hj : l.length ≤ j) : decide (v ∈ l) = false := by rw [h, List.drop_eq_nil_of_le hj]; simp

set_option maxHeartbeats 400000 in
theorem in_any (A : Option Addr) (n c B : Nat) (l : List Int) (v : Int) (w : World) (h : RdV w B A n c (ints l)) :
    Calls Tryd.prog 27 #[.slice A n c, .int .i64 v] w (SaysBP (decide (v ∈ l)) w) := by
  have hc := h.2.1
  have hm := h.max
  have HR := Lib.hid h
  have HN := Lib.hid (show n = l.length by have := h.1; rwa [ints_len] at this)
  clear h
  go_enter Tryd.func27, Tryd.ntmps27
  go_wp2
  go_loop [5] (fun i => ∃ j : Nat, i = .int .i64 j ∧ j ≤ n ∧ Hid (Sought l v j)) (fun i => n - (intOf i).toNat)
  case atStart => exact ⟨0, rfl, Nat.zero_le _, Lib.hid (Sought.start l v)⟩
  case round =>
    obtain ⟨j, rfl, hj, HS⟩ := hrel
    by_cases hlt : j < n
    · obtain ⟨b, off, x, rfl, hb, hcell, hd, _, _⟩ := int_at HR.out hlt
      by_cases hx : x = v
      · subst hx
        have HF := Lib.hid (HS.out.found hd)
        clear hd
        go_wp2
        go_ret
        exact ⟨by first | rfl | (rw [HF.out]; rfl), Below.refl _ _⟩
      · have HF := Lib.hid (HS.out.step hd hx)
        have hq : (x == v) = false := by simpa using hx
        clear hd hx
        go_wp2
        go_round
        case rel => exact ⟨j + 1, by go_num, by omega, HF⟩
        case measure => simp [intOf]; omega
    · have HF := Lib.hid (HS.out.end_ (by have := HN.out; omega))
      go_wp2
      go_ret
      exact ⟨by first | rfl | (rw [HF.out]; rfl), Below.refl _ _⟩

/-- alike so far -/
def Alike (a b : List Int) (j : Nat) : Prop := decide (a = b) = decide (a.drop j = b.drop j)
theorem Alike.start (a b : List Int) : Alike a b 0 := rfl
theorem Alike.stop {a b : List Int} {x y : Int} {j : Nat} (h : Alike a b j) (e : a.drop j = x :: a.drop (j + 1)) (e' : b.drop j = y :: b.drop (j + 1)) (hx : x ≠ y) : decide (a = b) = false := by rw [h, e, e']; simp [hx]
theorem Alike.step {a b : List Int} {x : Int} {j : Nat} (h : Alike a b j) (e : a.drop j = x :: a.drop (j + 1)) (e' : b.drop j = x :: b.drop (j + 1)) : Alike a b (j + 1) := by
  unfold Alike at h ⊢
  rw [h, e, e']; simp
theorem Alike.end_ {a b : List Int} {j : Nat} (h : Alike a b j) (hj : a.length ≤ j) (hl : a.length = b.length) : decide (a = b) = true := by rw [h, List.drop_eq_nil_of_le hj, List.drop_eq_nil_of_le (by omega)]; simp

set_option maxHeartbeats 400000 in
theorem same_any (A : Option Addr) (n c B : Nat) (a : List Int) (A' : Option Addr) (n' c' B' : Nat) (b : List Int) (w : World) (h : RdV w B A n c (ints a)) (h' : RdV w B' A' n' c' (ints b)) :
    Calls Tryd.prog 18 #[.slice A n c, .slice A' n' c'] w (SaysBP (decide (a = b)) w) := by
  have hc := h.2.1
  have hm := h.max
  have hc' := h'.2.1
  have hm' := h'.max
  have HR := Lib.hid h
  have HR' := Lib.hid h'
  have HN := Lib.hid (show n = a.length by have := h.1; rwa [ints_len] at this)
  have HN' := Lib.hid (show n' = b.length by have := h'.1; rwa [ints_len] at this)
  clear h h'
  by_cases hnn : n = n'
  · subst hnn
    go_enter Tryd.func18, Tryd.ntmps18
    go_wp2
    go_loopw [5] (fun i wr => ∃ j : Nat, i = .int .i64 j ∧ j ≤ n ∧ Hid (Alike a b j) ∧ Hid (∃ k, wr = w.drewN k)) (fun i _ => n - (intOf i).toNat)
    case atStart => exact ⟨0, rfl, Nat.zero_le _, Lib.hid (Alike.start a b), Lib.hid ⟨0, rfl⟩⟩
    case round =>
      obtain ⟨j, rfl, hj, HS, HW⟩ := hrel
      obtain ⟨k0, rfl⟩ := HW.out
      by_cases hlt : j < n
      · obtain ⟨g, off, x, rfl, hb, hcell, hd, _, _⟩ := int_at HR.out hlt
        obtain ⟨g', off', y, rfl, hb', hcell', hd', _, _⟩ := int_at HR'.out hlt
        have hil : (j : Int) < (n : Int) := by omega
        by_cases hx : x = y
        · subst hx
          have HF := Lib.hid (HS.out.step hd hd')
          clear hd hd'
          go_wp2_with fail
          go_quiet (fail)
          go_wp2
          go_roundw
          case rel => exact ⟨j + 1, by go_num, by omega, HF, Lib.hid ⟨_, rfl⟩⟩
          case measure => simp [intOf]; omega
        · have HF := Lib.hid (HS.out.stop hd hd' hx)
          have hq : (x == y) = false := by simpa using hx
          clear hd hd' hx
          go_wp2_with fail
          go_quiet (fail)
          go_wp2
          go_ret
          exact ⟨by first | rfl | (rw [HF.out]; rfl), bel_drewN (bel_drewN (Below.refl _ _) _) _⟩
      · have HF := Lib.hid (HS.out.end_ (by have := HN.out; omega) (by rw [← HN.out, ← HN'.out]))
        go_wp2
        go_ret
        exact ⟨by first | rfl | (rw [HF.out]; rfl), bel_drewN (Below.refl _ _) _⟩
  · have HF := Lib.hid (show decide (a = b) = false by
      have h1 := HN.out
      have h2 := HN'.out
      simp only [decide_eq_false_iff_not]
      intro e; subst e; omega)
    have hq : ((n : Int) == (n' : Int)) = false := by simp; omega
    go_enter Tryd.func18, Tryd.ntmps18
    go_wp2
    go_ret
    exact ⟨by first | rfl | (rw [HF.out]; rfl), Below.refl _ _⟩

/-- so far they rise, the last one being 'last' -/
def Rose (l : List Int) (j : Nat) (last : Int) : Prop := M.rise (-1) l = M.rise last (l.drop j) ∧ -1 ≤ last ∧ (0 < j → l[j - 1]? = some last) ∧ (j = 0 → last = -1)
theorem Rose.start (l : List Int) : Rose l 0 (-1) := ⟨rfl, by omega, fun h => absurd h (by omega), fun _ => rfl⟩
theorem Rose.stop {l : List Int} {j : Nat} {last x : Int} (h : Rose l j last) (e : l.drop j = x :: l.drop (j + 1)) (hx : x ≤ last) : M.rise (-1) l = false := by rw [h.1, e, M.rise_no hx]
theorem Rose.step {l : List Int} {j : Nat} {last x : Int} (h : Rose l j last) (e : l.drop j = x :: l.drop (j + 1)) (e2 : l[j]? = some x) (hx : last < x) : Rose l (j + 1) x := by
  refine ⟨by rw [h.1, e, M.rise_yes hx], by have := h.2.1; omega, fun _ => by simpa using e2, fun h => by omega⟩
theorem Rose.end_ {l : List Int} {j : Nat} {last : Int} (h : Rose l j last) (hj : l.length ≤ j) : M.rise (-1) l = true := by rw [h.1, List.drop_eq_nil_of_le hj]; rfl

end Go.Proofs.YtlmidhhonnnocaaDoor
