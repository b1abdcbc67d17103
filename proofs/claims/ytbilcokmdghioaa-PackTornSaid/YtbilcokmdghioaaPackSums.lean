/-
  The law PackSums, by the contracts: a sum changes with every single bit.
-/
import Derived.Test.YtbilcokmdghioaaPackF
import Derived.Test.YtbilcokmdghioaaMemB
namespace Go.Proofs.Ytbilcokmdghioaa
open Go.RowKit Mem

theorem bit_turn (x : Nat) (hx : x < 256) (b : Nat) : (x ^^^ 2 ^ (b % 8)) < 256 ∧ x ^^^ 2 ^ (b % 8) ≠ x := by
  have hb : 2 ^ (b % 8) < 256 := by
    have : (2 : Nat) ^ (b % 8) ≤ 2 ^ 7 := Nat.pow_le_pow_right (by omega) (by omega)
    omega
  refine ⟨Nat.xor_lt_two_pow (n := 8) hx hb, fun h => ?_⟩
  have h2 : x ^^^ 2 ^ (b % 8) = x ^^^ 0 := by simpa using h
  have := M.xor_cancel_left h2
  have hp := Nat.two_pow_pos (b % 8)
  omega
theorem turn_form (x : Nat) (hx : x < 256) (b : Nat) : bits BinOp.xor IntKind.u8 (x : Int) (2 ^ (b % 8) % 256) = ((UInt8.ofNat (x ^^^ 2 ^ (b % 8))).toNat : Int) := by
  have hb : 2 ^ (b % 8) < 256 := by
    have : (2 : Nat) ^ (b % 8) ≤ 2 ^ 7 := Nat.pow_le_pow_right (by omega) (by omega)
    omega
  have e : ((2 : Int) ^ (b % 8) % 256) = ((2 ^ (b % 8) : Nat) : Int) := by
    rw [show ((2 : Int) ^ (b % 8)) = ((2 ^ (b % 8) : Nat) : Int) from by push_cast; rfl]
    generalize 2 ^ (b % 8) = y at *; omega
  rw [e, u8_xor_nat _ _ hx hb, M.toNat_of (Nat.xor_lt_two_pow (n := 8) hx hb)]
theorem sum_set (l : List UInt8) (k : Nat) (hk : k < l.length) (b : UInt8) (hb : b.toNat ≠ (l[k]?.getD 0).toNat) : M.sum (l.set k b) ≠ M.sum l := by
  intro h
  have e1 : l.set k b = l.take k ++ b :: l.drop (k + 1) := by rw [List.set_eq_take_append_cons_drop, if_pos hk]
  have e2 : l = l.take k ++ l[k] :: l.drop (k + 1) := by rw [← List.drop_eq_getElem_cons hk, List.take_append_drop]
  rw [e1] at h
  have h3 : M.sum (l.take k ++ b :: l.drop (k + 1)) = M.sum (l.take k ++ l[k] :: l.drop (k + 1)) := by rw [← e2]; exact h
  have := M.sum_turn _ _ _ _ h3
  apply hb
  rw [this, List.getElem?_eq_getElem hk]; rfl

set_option maxRecDepth 100000 in
set_option maxHeartbeats 1000000 in
theorem packSums_any (A : Option Addr) (n c : Nat) (l : List UInt8) (at_ bit : Nat) (w : World) (h : Rd w w.heap.size A n c l) (hc : c ≤ 140737488351232) (ha : at_ < 65536) (hbit : bit < 256) :
    Calls Try.prog 10 #[.slice A n c, .int .u16 at_, .int .u8 bit] w (Yes w) := by
  have hnc := h.cap
  have HN := Lib.hid h.len
  by_cases hn0 : n = 0
  · have hq : ((n : Int) == 0) = true := by simp; omega
    go_enter Try.func10, Try.ntmps10
    go_wp2_with fail
    refine (awake_any w).mono ?_
    rintro e w1 ⟨rfl, hb1⟩
    go_wp2_with fail
    refine (awake_any w1).mono ?_
    rintro e w2 ⟨rfl, hb2⟩
    go_wp2
    go_ret
    exact ⟨rfl, hb1.trans (hb2.mono hb1.size)⟩
  · have hq : ((n : Int) == 0) = false := by simp; omega
    obtain ⟨i0, hi, hz0, hz1, hz2⟩ := info_parts Try.info_byte
    have HI := Lib.hid hi; have HZ0 := Lib.hid hz0; have HZ1 := Lib.hid hz1; have HZ2 := Lib.hid hz2
    clear hi hz0 hz1 hz2
    go_enter Try.func10, Try.ntmps10
    go_wp2_with fail
    refine (awake_any w).mono ?_
    rintro e w1 ⟨rfl, hb1⟩
    have hr1 := h.below hb1
    go_wp2_with fail
    refine (sum_any A n c _ l w1 hr1).mono ?_
    rintro e w1' ⟨rfl, rfl⟩
    have hl0 : 0 < l.length := by have := HN.out; omega
    go_wp2_with (at_builtin; go_must (refine wpList_app w1 rfl (.tmp 20) (.tmp 21) _ rfl w1.heap.size w.heap.size _ i0 Try.underlying24 HI.out HZ0.out HZ1.out HZ2.out _ [] (Own.nil _ _ _) rfl A n c l hr1 rfl ?_ (Nat.le_refl _) ?_))
    · have := HN.out; simp; omega
    intro v' w2 hown' hg _
    have hb2 := (below_own (Own.nil w1 w1.heap.size 5) (Nat.le_refl _) hg)
    have hr2 := hr1.below (hb2.mono hb1.size)
    obtain ⟨g, c2, rfl, hg1, hg2, hc2, hc2', hcell, hfz⟩ := hown'.form hl0
    have HN2 := Lib.hid (show (l.length : Int) = n by have := HN.out; omega)
    obtain ⟨k, hk⟩ : ∃ k, k = at_ % l.length := ⟨_, rfl⟩
    have hkl : k < l.length := by rw [hk]; exact Nat.mod_lt _ hl0
    have hkm : (at_ : Int) % (l.length : Int) = (k : Int) := by rw [hk]; omega
    have hck := hcell k hkl
    have hfk := hfz k
    clear hcell hfz hk
    obtain ⟨x, hx⟩ : ∃ x, x = (l[k]?.getD 0).toNat := ⟨_, rfl⟩
    have hx256 : x < 256 := by rw [hx]; exact UInt8.toNat_lt _
    rw [← hx] at hck
    have HX := Lib.hid hx
    clear hx
    obtain ⟨y, hF, hT⟩ : ∃ y : UInt8, bits BinOp.xor IntKind.u8 (x : Int) (2 ^ (bit % 8) % 256) = (y.toNat : Int) ∧ y.toNat ≠ x := by
      have hT := bit_turn x hx256 bit
      exact ⟨_, turn_form x hx256 bit, by rw [M.toNat_of hT.1]; exact hT.2⟩
    have HF := Lib.hid hF
    have HT := Lib.hid hT
    clear hF hT
    go_wp2_with fail
    rw [HF.out]
    have hown3 := hown'.stored k y
    obtain ⟨A3, c3, he3, hr3⟩ := hown3.open_
    have HSS := Lib.hid (sum_set l k hkl y (by rw [← HX.out]; exact HT.out))
    rw [List.length_set] at he3 hr3
    injection he3 with he3 _ he4
    subst he3 he4
    refine (sum_any _ _ _ _ _ _ hr3).mono ?_
    rintro e w4 ⟨rfl, rfl⟩
    have hr4 := hr2.setCell (p := ⟨g, k, none⟩) (Nat.le_trans hb1.size hg1) (.int .u8 (y.toNat : Int))
    obtain ⟨S', hS'⟩ : ∃ S', S' = M.sum (l.set k y) := ⟨_, rfl⟩
    rw [← hS'] at HSS ⊢
    have hne : ((S' : Int) != (M.sum l : Nat)) = true := by rw [bne_iff_ne]; have := HSS.out; omega
    clear hS'
    go_wp2_with fail
    refine (sum_any _ _ _ _ _ _ hr4).mono ?_
    rintro e w5 ⟨rfl, rfl⟩
    go_wp2
    go_ret
    exact ⟨rfl, (hb1.trans (hb2.mono hb1.size)).setCell (Nat.le_trans hb1.size hg1) _⟩
end Go.Proofs.Ytbilcokmdghioaa
