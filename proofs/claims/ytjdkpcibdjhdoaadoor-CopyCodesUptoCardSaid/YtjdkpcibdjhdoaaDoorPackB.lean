/-
  What pack.ReadUvarint and the document's ReadUvarint do, by contracts: each answers 'M.rdAt' of the bytes and the place, and turns nothing.
-/
import Derived.Test.YtjdkpcibdjhdoaaDoorPackA
namespace Go.Proofs.YtjdkpcibdjhdoaaDoor
open Go.RowKit Mem

def Tells (r : Nat × Nat × Nat) (w : World) (e : Ending) (w' : World) : Prop := e = .returned (.tuple #[.int .u64 (r.1 : Int), .int .i64 (r.2.1 : Int), .int .i64 (r.2.2 : Int)]) ∧ w = w'

theorem ret_t3 {k1 k2 k3 : IntKind} {a b c a' b' c' : Int} (h1 : a = a') (h2 : b = b') (h3 : c = c') : Ending.returned (.tuple #[.int k1 a, .int k2 b, .int k3 c]) = .returned (.tuple #[.int k1 a', .int k2 b', .int k3 c']) := by rw [h1, h2, h3]

theorem rdAt_arg {l : List UInt8} {at_ : Int} (h : at_ < 0 ∨ (l.length : Int) < at_) : M.rdAt l at_ = (0, 0, 1) := by unfold M.rdAt; rw [if_pos h]
theorem rdAt_in {l : List UInt8} {k : Nat} (h : k ≤ l.length) : M.rdAt l k = match M.rd 0 0 (l.drop k) with | none => (0, 0, 3) | some (v, n) => (v, k + n, 0) := by
  unfold M.rdAt; rw [if_neg (by omega)]; rfl

/-- behind j bytes of value V what is left to be read gives the answer -/
def Scan (l : List UInt8) (k j V : Nat) : Prop := M.rd 0 0 (l.drop k) = M.rd j V (l.drop (k + j)) ∧ V < 2 ^ (7 * j)
theorem Scan.start (l : List UInt8) (k : Nat) : Scan l k 0 0 := ⟨rfl, by simp⟩
theorem mask127 {c : Int} (h₀ : 0 ≤ c) (h₁ : c ≤ 255) : bits .and .u8 c 127 = c % 128 := bits_mask .u8 8 (by decide) wraps_u8 7 (by decide) c h₀ (by omega)

section
variable {l : List UInt8} {k j V x : Nat}
theorem Scan.open_ (hs : Scan l k j V) (hlt : k + j < l.length) (hx : x = (l[k + j]?.getD 0).toNat) :
    M.rd 0 0 (l.drop k) = if j = 9 ∧ 1 < x then none else if x < 128 then (if x = 0 ∧ 0 < j then none else some (V + x * 2 ^ (7 * j), j + 1)) else M.rd (j + 1) (V + x % 128 * 2 ^ (7 * j)) (l.drop (k + (j + 1))) := by
  have e : l.drop (k + j) = l[k + j] :: l.drop (k + j + 1) := List.drop_eq_getElem_cons hlt
  have hxx : x = l[k + j].toNat := by rw [hx, List.getElem?_eq_getElem hlt]; rfl
  rw [hs.1, e, M.rd, ← hxx]
  rfl
theorem Scan.step (hs : Scan l k j V) (hlt : k + j < l.length) (hx : x = (l[k + j]?.getD 0).toNat) (h9 : ¬ j = 9) (h128 : ¬ x < 128) : Scan l k (j + 1) (V + x % 128 * 2 ^ (7 * j)) := by
  refine ⟨?_, ?_⟩
  · rw [hs.open_ hlt hx, if_neg (by omega), if_neg h128]
  · have h1 := hs.2
    have h2 : x % 128 * 2 ^ (7 * j) ≤ 127 * 2 ^ (7 * j) := Nat.mul_le_mul_right _ (by omega)
    rw [M.pow7]; omega
theorem Scan.cut9 (hs : Scan l k j V) (hlt : k + j < l.length) (hx : x = (l[k + j]?.getD 0).toNat) (h9 : j = 9) (h1 : 1 < x) : M.rd 0 0 (l.drop k) = none := by
  rw [hs.open_ hlt hx, if_pos ⟨h9, h1⟩]
theorem Scan.cut0 (hs : Scan l k j V) (hlt : k + j < l.length) (hx : x = (l[k + j]?.getD 0).toNat) (h0 : x = 0) (hj : 0 < j) : M.rd 0 0 (l.drop k) = none := by
  rw [hs.open_ hlt hx, if_neg (by omega), if_pos (by omega), if_pos ⟨h0, hj⟩]
theorem Scan.done (hs : Scan l k j V) (hlt : k + j < l.length) (hx : x = (l[k + j]?.getD 0).toNat) (h9 : ¬ (j = 9 ∧ 1 < x)) (h128 : x < 128) (h0 : ¬ (x = 0 ∧ 0 < j)) :
    M.rd 0 0 (l.drop k) = some (V + x * 2 ^ (7 * j), j + 1) := by
  rw [hs.open_ hlt hx, if_neg h9, if_pos h128, if_neg h0]
theorem Scan.end_ (hs : Scan l k j V) (hlt : ¬ k + j < l.length) : M.rd 0 0 (l.drop k) = none := by
  rw [hs.1, List.drop_eq_nil_of_le (by omega), M.rd]
theorem pow_le9 (hj : j ≤ 9) : 2 ^ (7 * j) ≤ 9223372036854775808 := by
  have : (2 : Nat) ^ (7 * j) ≤ 2 ^ (7 * 9) := Nat.pow_le_pow_right (by omega) (by omega)
  simpa using this
theorem pow_le8 (hj : j ≤ 8) : 2 ^ (7 * j) ≤ 72057594037927936 := by
  have : (2 : Nat) ^ (7 * j) ≤ 2 ^ (7 * 8) := Nat.pow_le_pow_right (by omega) (by omega)
  simpa using this
theorem orStep (hV : V < 2 ^ (7 * j)) (hj : j ≤ 9) (hx : x < 256) (h9 : j = 9 → x ≤ 1) :
    bits .or .u64 (V : Int) (IntKind.u64.wrap ((x : Int) % 128 * 2 ^ (7 * j))) = ((V + x % 128 * 2 ^ (7 * j) : Nat) : Int) ∧ V + x % 128 * 2 ^ (7 * j) < 18446744073709551616 := by
  have hfit : x % 128 * 2 ^ (7 * j) + 2 ^ (7 * j) ≤ 18446744073709551616 := by
    by_cases h : j = 9
    · have := h9 h
      have hp := pow_le9 hj
      have hm : x % 128 * 2 ^ (7 * j) ≤ 1 * 2 ^ (7 * j) := Nat.mul_le_mul_right _ (by omega)
      omega
    · have hp := pow_le8 (j := j) (by omega)
      have hm : x % 128 * 2 ^ (7 * j) ≤ 127 * 2 ^ (7 * j) := Nat.mul_le_mul_right _ (by omega)
      omega
  have hpos : 0 < 2 ^ (7 * j) := Nat.two_pow_pos _
  refine ⟨?_, by omega⟩
  have e : ((x : Int) % 128 * 2 ^ (7 * j)) = ((x % 128 * 2 ^ (7 * j) : Nat) : Int) := by push_cast; rfl
  rw [e, IntKind.wrap_u64, Int.emod_eq_of_lt (by omega) (by omega), u64_or_nat _ _ (by omega) (by omega), Nat.or_comm, nat_join (7 * j) _ _ (by simp) hV, Nat.add_comm]
end

set_option maxRecDepth 100000 in
set_option maxHeartbeats 400000 in
theorem readUvarint_any (A : Option Addr) (n c B : Nat) (l : List UInt8) (at_ : Int) (w : World) (h : Rd w B A n c l) (h1 : -9223372036854775808 ≤ at_) (h2 : at_ ≤ 9223372036854775807) :
    Calls Tryd.prog 49 #[.slice A n c, .int .i64 at_] w (Tells (M.rdAt l at_) w) := by
  have hn := h.len
  have hc := h.cap
  have hm := h.max
  by_cases hneg : at_ < 0
  · have HR := Lib.hid (rdAt_arg (l := l) (.inl hneg))
    have HN := Lib.hid hn
    clear hn
    go_enter Tryd.func49, Tryd.ntmps49
    go_wp2
    go_ret3
    exact ⟨by rw [HR.out]; rfl, rfl⟩
  · by_cases hbig : (n : Int) < at_
    · have HR := Lib.hid (rdAt_arg (l := l) (at_ := at_) (.inr (by omega)))
      have HN := Lib.hid hn
      clear hn
      have hd : decide (at_ < 0) = false := by simpa using hneg
      go_enter Tryd.func49, Tryd.ntmps49
      go_wp2
      go_ret3
      exact ⟨by rw [HR.out]; rfl, rfl⟩
    · obtain ⟨k, rfl⟩ := Int.eq_ofNat_of_zero_le (show 0 ≤ at_ by omega)
      have HR := Lib.hid (rdAt_in (l := l) (k := k) (by omega))
      have HN := Lib.hid hn
      clear hn
      by_cases hkn : k < n
      · obtain ⟨b, off, rfl, hb, hcells⟩ := h.2.2.2 (by omega)
        have hck : ¬ c = k := by omega
        go_enter Tryd.func49, Tryd.ntmps49
        go_wp2
        go_loop [7, 22] (fun v i => ∃ j V : Nat, i = .int .i64 j ∧ v = .int .u64 V ∧ j ≤ 9 ∧ j ≤ n - k ∧ V < 18446744073709551616 ∧ Scan l k j V) (fun _ i => n - (intOf i).toNat)
        case atStart => exact ⟨0, 0, rfl, rfl, by omega, by omega, by omega, Scan.start l k⟩
        case round =>
          obtain ⟨j, V, rfl, rfl, hj9, hjn, hV, hscan⟩ := hrel
          by_cases hlt : j < n - k
          · have hcell := hcells (k + j) (by omega)
            rw [← Nat.add_assoc] at hcell
            obtain ⟨x, hx⟩ : ∃ x, x = (l[k + j]?.getD 0).toNat := ⟨_, rfl⟩
            have hx256 : x < 256 := by rw [hx]; exact UInt8.toNat_lt _
            rw [← hx] at hcell
            have HX := Lib.hid hx
            clear hx hcells
            have HL := Lib.hid (show k + j < l.length by have := HN.out; omega)
            have hmask := mask127 (c := (x : Int)) (by omega) (by omega)
            by_cases c9 : j = 9 ∧ 1 < x
            · have HD := Lib.hid (hscan.cut9 HL.out HX.out c9.1 c9.2)
              obtain ⟨hj, hx1⟩ := c9
              have hj9' : ((j : Int) == 9) = true := by simp; omega
              have HJ := Lib.hid hj
              clear hj hscan
              go_wp2
              go_ret3
              exact ⟨by rw [HR.out, HD.out]; rfl, rfl⟩
            · have HO := Lib.hid (orStep hscan.2 hj9 hx256 (fun h => by omega))
              by_cases hx128 : x < 128
              · by_cases c0 : x = 0 ∧ 0 < j
                · have HD := Lib.hid (hscan.cut0 HL.out HX.out c0.1 c0.2)
                  obtain ⟨hx0, hj0⟩ := c0
                  have hxx : ((x : Int) == 0) = true := by simp; omega
                  have HX0 := Lib.hid hx0
                  clear hx0 hscan
                  go_wp2
                  all_goals (go_ret3; exact ⟨by rw [HR.out, HD.out]; rfl, rfl⟩)
                · have HD := Lib.hid (hscan.done HL.out HX.out c9 hx128 c0)
                  by_cases h9 : j = 9
                  · have hx1 : x = 1 := by omega
                    have hj9' : ((j : Int) == 9) = true := by simp; omega
                    have hxx : ((x : Int) == 0) = false := by simp; omega
                    have hle : ¬ 1 < x := by omega
                    have HJ := Lib.hid h9
                    have HX1 := Lib.hid hx1
                    clear hscan c9 c0 h9 hx1
                    go_wp2
                    go_ret3
                    exact ⟨by rw [HR.out, HD.out, HO.out.1, Nat.mod_eq_of_lt hx128]; simp only [Nat.add_assoc, Int.natCast_add, Int.add_assoc]; rfl, rfl⟩
                  · have hj9' : ((j : Int) == 9) = false := by simp; omega
                    by_cases h0 : x = 0
                    · have hj0 : ¬ 0 < j := by omega
                      have hxx : ((x : Int) == 0) = true := by simp; omega
                      have HX0 := Lib.hid h0
                      clear hscan c9 c0 h9 h0
                      go_wp2
                      go_ret3
                      exact ⟨by rw [HR.out, HD.out, HO.out.1, Nat.mod_eq_of_lt hx128]; simp only [Nat.add_assoc, Int.natCast_add, Int.add_assoc]; rfl, rfl⟩
                    · have hxx : ((x : Int) == 0) = false := by simp; omega
                      clear hscan c9 c0 h9
                      go_wp2
                      go_ret3
                      exact ⟨by rw [HR.out, HD.out, HO.out.1, Nat.mod_eq_of_lt hx128]; simp only [Nat.add_assoc, Int.natCast_add, Int.add_assoc]; rfl, rfl⟩
              · have hj9' : ((j : Int) == 9) = false := by simp; omega
                have HS := Lib.hid (hscan.step HL.out HX.out (by omega) hx128)
                have hj8 : j ≤ 8 := by omega
                clear hscan c9
                go_wp2
                go_round
                case rel => exact ⟨j + 1, _, by go_num, by rw [HO.out.1], by omega, by omega, HO.out.2, HS.out⟩
                case measure => simp [intOf]; omega
          · have HD := Lib.hid (hscan.end_ (by have := HN.out; omega))
            clear hscan
            go_wp2
            go_ret3
            exact ⟨by rw [HR.out, HD.out]; rfl, rfl⟩
      · have HD := Lib.hid ((Scan.start l k).end_ (by have := HN.out; omega))
        obtain rfl : k = n := by omega
        go_enter Tryd.func49, Tryd.ntmps49
        go_wp2
        all_goals
          refine wp_loop_rounds 1 ?_
          rw [rounds_succ]
          go_wp2
          go_ret3
          exact ⟨by rw [HR.out, HD.out]; rfl, rfl⟩
end Go.Proofs.YtjdkpcibdjhdoaaDoor
