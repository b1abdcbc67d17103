/-
  What the two Sums do, by contracts: each answers 'M.sum' of the bytes, and turns nothing.
-/
import Derived.Test.YtjdkpcibdjhdoaaDoorPackD
import Derived.Deep.LoopGhost
namespace Go.Proofs.YtjdkpcibdjhdoaaDoor
open Go.RowKit Mem

theorem and_ones32 (a : Nat) (h : a < 4294967296) : a &&& 4294967295 = a := by
  have := Nat.and_two_pow_sub_one_eq_mod a 32
  simp only [Nat.reducePow, Nat.add_one_sub_one] at this
  rw [this]; omega
theorem xor_ones32 (a : Nat) (h : a < 4294967296) : 4294967295 ^^^ a = 4294967295 - a := by
  have h1 : (BitVec.allOnes 32 ^^^ BitVec.ofNat 32 a).toNat = 2 ^ 32 - 1 - a := by
    rw [BitVec.allOnes_xor, BitVec.toNat_not, BitVec.toNat_ofNat, Nat.mod_eq_of_lt h]
  rw [BitVec.toNat_xor, BitVec.toNat_ofNat, Nat.mod_eq_of_lt h, BitVec.toNat_allOnes] at h1
  simpa using h1
/-- one bit, as the program has it -/
theorem crc_form (r : Nat) (h : r < 4294967296) :
    bits .xor .u32 ((r : Int) / 2) (bits .and .u32 3988292384 (-bits .and .u32 (r : Int) 1 % 4294967296)) = ((M.bit1 r : Nat) : Int) := by
  have e0 : bits .and .u32 (r : Int) 1 = ((r % 2 : Nat) : Int) := by
    rw [show (1 : Int) = ((1 : Nat) : Int) from rfl, u32_and_nat _ _ h (by omega), nat_mask1]
  have e1 : ((r : Int) / 2) = ((r / 2 : Nat) : Int) := by omega
  rw [e0, e1]
  unfold M.bit1
  by_cases hb : r % 2 = 1
  · have e2 : (-((r % 2 : Nat) : Int)) % 4294967296 = ((4294967295 : Nat) : Int) := by omega
    rw [if_pos hb, e2, show (3988292384 : Int) = ((3988292384 : Nat) : Int) from rfl, u32_and_nat _ _ (by omega) (by omega), and_ones32 _ (by omega), u32_xor_nat _ _ (by omega) (by omega)]
    rfl
  · have e2 : (-((r % 2 : Nat) : Int)) % 4294967296 = ((0 : Nat) : Int) := by omega
    rw [if_neg hb, e2, show (3988292384 : Int) = ((3988292384 : Nat) : Int) from rfl, u32_and_nat _ _ (by omega) (by omega), Nat.and_zero, u32_xor_nat _ _ (by omega) (by omega), Nat.xor_zero]
theorem not_form (s : Nat) (h : s < 4294967296) : bits .xor .u32 IntKind.u32.max (s : Int) = ((4294967295 - s : Nat) : Int) := by
  have e : IntKind.u32.max = ((4294967295 : Nat) : Int) := by decide
  rw [e, u32_xor_nat _ _ (by omega) h, xor_ones32 _ h]
theorem runs_take {l : List UInt8} {j : Nat} (h : j < l.length) (c : Nat) : M.runs c (l.take (j + 1)) = M.byte1 (M.runs c (l.take j)) (l[j]?.getD 0).toNat := by
  rw [List.take_succ_eq_append_getElem h, M.runs_snoc, List.getElem?_eq_getElem h]; rfl

theorem low_form (r x k : Nat) (hr : r < 4294967296) (hx : x < 256) :
    bits BinOp.xor IntKind.u32 (bits BinOp.and IntKind.u32 (r : Int) 1) (bits BinOp.and IntKind.u32 ((x : Int) / 2 ^ k % 4294967296) 1) = (((r % 2) ^^^ (x / 2 ^ k % 2) : Nat) : Int) := by
  have hle : x / 2 ^ k ≤ x := Nat.div_le_self _ _
  have e : ((x : Int) / 2 ^ k % 4294967296) = ((x / 2 ^ k : Nat) : Int) := by
    rw [show ((x : Int) / 2 ^ k) = ((x / 2 ^ k : Nat) : Int) from by push_cast; rfl]
    generalize x / 2 ^ k = y at *; omega
  rw [e, show (1 : Int) = ((1 : Nat) : Int) from rfl, u32_and_nat _ _ hr (by omega), u32_and_nat _ _ (by omega) (by omega), nat_mask1, nat_mask1, u32_xor_nat _ _ (by omega) (by omega)]
/-- the document's state behind k bits of the byte x, held against the program's -/
def Along (s x k r : Nat) : Prop := r ^^^ (x / 2 ^ k) = M.bitN k (s ^^^ x)
theorem Along.start (s x : Nat) : Along s x 0 s := by unfold Along; simp [M.bitN]
theorem Along.done {s x r : Nat} (h : Along s x 8 r) (hx : x < 256) : r = M.byte1 s x := by
  unfold Along at h
  rw [Nat.div_eq_of_lt (by omega), Nat.xor_zero] at h
  exact h
theorem xor_half (a b : Nat) : (a ^^^ b) / 2 = a / 2 ^^^ b / 2 := by
  have := Nat.shiftRight_xor_distrib (a := a) (b := b) (i := 1)
  simpa [Nat.shiftRight_succ] using this
theorem xor_par (a b : Nat) : (a ^^^ b) % 2 = (a % 2) ^^^ (b % 2) := by
  have := Nat.xor_mod_two_pow (a := a) (b := b) (n := 1)
  simpa using this
theorem Along.step {s x k r : Nat} (h : Along s x k r) : Along s x (k + 1) (if (r % 2) ^^^ (x / 2 ^ k % 2) = 1 then (r / 2) ^^^ M.poly else r / 2) := by
  unfold Along at h ⊢
  rw [M.bitN, ← h]
  unfold M.bit1
  have e : x / 2 ^ (k + 1) = x / 2 ^ k / 2 := by rw [Nat.pow_succ, Nat.div_div_eq_div_mul]
  rw [xor_par, xor_half, e]
  split
  · rw [Nat.xor_assoc, Nat.xor_comm M.poly, ← Nat.xor_assoc]
  · rfl

set_option maxRecDepth 100000 in
set_option maxHeartbeats 1000000 in
theorem sum_any (A : Option Addr) (n c B : Nat) (l : List UInt8) (w : World) (h : Rd w B A n c l) :
    Calls Tryd.prog 83 #[.slice A n c] w fun e w' => e = .returned (.int .u32 (M.sum l : Nat)) ∧ w = w' := by
  have hc := h.cap
  have hm := h.max
  have HN := Lib.hid h.len
  by_cases hn0 : 0 < n
  · obtain ⟨b, off, rfl, hb, hcells⟩ := h.2.2.2 hn0
    have HC := Lib.hid hcells
    clear hcells
    go_enter Tryd.func83, Tryd.ntmps83
    go_wp2
    go_loop [3, 8] (fun s i => ∃ j : Nat, j ≤ n ∧ i = .int .i64 j ∧ s = .int .u32 (M.runs 4294967295 (l.take j) : Nat)) (fun _ i => n - (intOf i).toNat)
    case atStart => exact ⟨0, Nat.zero_le _, rfl, rfl⟩
    case round =>
      obtain ⟨j, hj, rfl, rfl⟩ := hrel
      obtain ⟨s, hs⟩ : ∃ s, s = M.runs 4294967295 (l.take j) := ⟨_, rfl⟩
      have hs32 : s < 4294967296 := by rw [hs]; exact M.runs_lt _ (by omega)
      rw [← hs]
      have HS := Lib.hid hs
      clear hs
      by_cases hlt : j < n
      · have hcell := HC.out j hlt
        obtain ⟨x, hx⟩ : ∃ x, x = (l[j]?.getD 0).toNat := ⟨_, rfl⟩
        have hx256 : x < 256 := by rw [hx]; exact UInt8.toNat_lt _
        rw [← hx] at hcell
        have HX := Lib.hid hx
        clear hx
        go_wp2
        go_loop [3, 16] (fun s' t => ∃ k : Nat, k ≤ 8 ∧ t = .int .i64 k ∧ s' = .int .u32 (M.bitN k (s ^^^ x) : Nat)) (fun _ t => 8 - (intOf t).toNat)
        case atStart => exact ⟨0, Nat.zero_le _, rfl, by rw [u32_xor_nat _ _ hs32 (by omega)]; rfl⟩
        case round =>
          obtain ⟨k, hk, rfl, rfl⟩ := hrel
          obtain ⟨r, hr⟩ : ∃ r, r = M.bitN k (s ^^^ x) := ⟨_, rfl⟩
          have hr32 : r < 4294967296 := by rw [hr]; exact M.bitN_lt (Nat.xor_lt_two_pow (n := 32) (by omega) (by omega)) k
          rw [← hr]
          have HRR := Lib.hid hr
          clear hr
          by_cases hk8 : k < 8
          · go_wp2
            go_round
            case rel => exact ⟨k + 1, by omega, by go_num, by rw [crc_form r hr32, HRR.out]; rfl⟩
            case measure => simp [intOf]; omega
          · obtain rfl : k = 8 := by omega
            have HB : Hid (r = M.runs 4294967295 (l.take (j + 1))) := by
              show r = _
              rw [runs_take (by have := HN.out; omega), ← HS.out, ← HX.out, HRR.out]; rfl
            go_wp2
            go_round
            case rel => exact ⟨j + 1, by omega, by go_num, by rw [HB.out]⟩
            case measure => simp [intOf]; omega
      · have HE : Hid (M.sum l = 4294967295 - s) := by
          show _ = _
          rw [HS.out, List.take_of_length_le (by have := HN.out; omega)]; rfl
        go_wp2
        all_goals first | (exfalso; rename_i hsg; revert hsg; decide) | skip
        go_ret
        exact ⟨ret_int (by rw [HE.out, not_form s hs32]), rfl⟩
  · obtain rfl : n = 0 := by omega
    have hl : l = [] := List.eq_nil_of_length_eq_zero HN.out.symm
    subst hl
    have HE : Hid (M.sum [] = 0) := by show _ = _; rfl
    go_enter Tryd.func83, Tryd.ntmps83
    go_wp2
    refine wp_loop_rounds 1 ?_
    rw [rounds_succ]
    go_wp2
    go_ret
    exact ⟨ret_int (by rw [HE.out]; decide), rfl⟩

end Go.Proofs.YtjdkpcibdjhdoaaDoor
