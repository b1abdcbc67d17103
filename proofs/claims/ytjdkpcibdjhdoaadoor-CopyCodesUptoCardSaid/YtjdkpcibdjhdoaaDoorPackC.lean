/-
  What the document's ReadUvarint does, by a contract: it answers 'M.rdAt' of the bytes and the place; what was there has not turned.
-/
import Derived.Test.YtjdkpcibdjhdoaaDoorPackB
import Derived.Deep.QuietTactic
import Derived.BigQuiet
namespace Go.Proofs.YtjdkpcibdjhdoaaDoor
open Go.RowKit Mem

def TellsB (r : Nat × Nat × Nat) (w : World) (e : Ending) (w' : World) : Prop := e = .returned (.tuple #[.int .u64 (r.1 : Int), .int .i64 (r.2.1 : Int), .int .i64 (r.2.2 : Int)]) ∧ Below w.heap.size w w'

section
variable {d : List UInt8} {j x : Nat}
theorem goOn_le (d : List UInt8) : M.goOn d ≤ d.length := by unfold M.goOn; exact (List.takeWhile_sublist _).length_le
theorem goOn_more : ∀ (d : List UInt8) (j : Nat), j ≤ M.goOn d → (h : j < d.length) → 128 ≤ d[j].toNat → j + 1 ≤ M.goOn d := by
  intro d
  induction d with
  | nil => intro j _ h; simp at h
  | cons b d ih =>
    intro j hj h hb
    unfold M.goOn at hj ⊢
    rw [List.takeWhile_cons] at hj ⊢
    cases j with
    | zero => simp at hb; simp [hb]
    | succ j =>
      by_cases hp : decide (128 ≤ b.toNat) = true
      · rw [if_pos hp] at hj ⊢
        simp only [List.length_cons] at hj h ⊢
        have := ih j (by unfold M.goOn; omega) (by omega) (by simpa using hb)
        unfold M.goOn at this; omega
      · rw [if_neg hp] at hj; simp at hj
theorem goOn_stop : ∀ (d : List UInt8) (j : Nat), j ≤ M.goOn d → (h : j < d.length) → d[j].toNat < 128 → M.goOn d = j := by
  intro d
  induction d with
  | nil => intro j _ h; simp at h
  | cons b d ih =>
    intro j hj h hb
    unfold M.goOn at hj ⊢
    rw [List.takeWhile_cons] at hj ⊢
    cases j with
    | zero =>
      have : ¬ decide (128 ≤ b.toNat) = true := by simp at hb ⊢; omega
      rw [if_neg this]; rfl
    | succ j =>
      by_cases hp : decide (128 ≤ b.toNat) = true
      · rw [if_pos hp] at hj ⊢
        simp only [List.length_cons] at hj h ⊢
        have := ih j (by unfold M.goOn; omega) (by omega) (by simpa using hb)
        unfold M.goOn at this; omega
      · rw [if_neg hp] at hj; simp at hj
theorem none_long (h : 10 ≤ M.goOn d) : M.rd 0 0 d = none := by
  cases hr : M.rd 0 0 d with
  | none => rfl
  | some p => have := M.elder_yes d p.1 p.2 hr; omega
theorem none_all (h : d.length ≤ M.goOn d) : M.rd 0 0 d = none := by
  cases hr : M.rd 0 0 d with
  | none => rfl
  | some p => have := M.elder_yes d p.1 p.2 hr; omega
theorem getD_drop (l : List UInt8) (k j : Nat) (h : k + j < l.length) : (l[k + j]?.getD 0) = (l.drop k)[j]'(by simp; omega) := by
  rw [List.getElem?_eq_getElem h]; simp
/-- the value of the bytes from the i-th on, as uint64 reckons it -/
def back (l : List UInt8) (k j i : Nat) : Nat := M.val (((l.drop k).take (j + 1)).drop i) % 18446744073709551616
theorem back_start (l : List UInt8) (k j : Nat) : back l k j (j + 1) = 0 := by
  unfold back
  rw [List.drop_eq_nil_of_le (by simp; omega)]; rfl
theorem back_step (l : List UInt8) (k j i : Nat) (hi : i ≤ j) (h : k + j < l.length) (hx : x = (l[k + i]?.getD 0).toNat) : back l k j i = (back l k j (i + 1) * 128 % 18446744073709551616 + x % 128) % 18446744073709551616 := by
  unfold back
  have hl : i < ((l.drop k).take (j + 1)).length := by simp; omega
  have hxx : x = (((l.drop k).take (j + 1))[i]).toNat := by
    rw [hx, getD_drop l k i (by omega)]; simp
  rw [List.drop_eq_getElem_cons hl, M.val, ← hxx]
  omega
/-- what the comparison comes to -/
theorem elder_says (l : List UInt8) (k j : Nat) (hg : M.goOn (l.drop k) = j) :
    (M.uv (back l k j 0) = (l.drop k).take (j + 1) ∧ M.rd 0 0 (l.drop k) = some (back l k j 0, j + 1)) ∨ (M.uv (back l k j 0) ≠ (l.drop k).take (j + 1) ∧ M.rd 0 0 (l.drop k) = none) := by
  cases hr : M.rd 0 0 (l.drop k) with
  | none =>
    right
    refine ⟨?_, rfl⟩
    have := M.elder_no _ hr (back l k j 0) (Nat.mod_lt _ (by omega))
    rwa [hg] at this
  | some p =>
    left
    obtain ⟨x, n⟩ := p
    obtain ⟨h1, h2, h3, h4, h5, h6⟩ := M.elder_yes _ x n hr
    rw [hg] at h1 h4 h5
    have hb : back l k j 0 = x := by
      unfold back
      rw [List.drop_zero, h4]; omega
    rw [hb]
    exact ⟨h5, by rw [h1]⟩
end

set_option maxRecDepth 100000 in
set_option maxHeartbeats 1000000 in
theorem ref_readUvarint_any (A : Option Addr) (n c B : Nat) (l : List UInt8) (at_ : Int) (w : World) (h : Rd w B A n c l) (hB : B ≤ w.heap.size) (h1 : -9223372036854775808 ≤ at_) (h2 : at_ ≤ 9223372036854775807) :
    Calls Tryd.prog 27 #[.slice A n c, .int .i64 at_] w (TellsB (M.rdAt l at_) w) := by
  have hn := h.len
  have hc := h.cap
  have hm := h.max
  by_cases hneg : at_ < 0
  · have HR := Lib.hid (rdAt_arg (l := l) (.inl hneg))
    have HN := Lib.hid hn
    clear hn
    go_enter Tryd.func27, Tryd.ntmps27
    go_wp2
    go_ret3
    exact ⟨by rw [HR.out]; rfl, Below.refl _ _⟩
  · by_cases hbig : (n : Int) < at_
    · have HR := Lib.hid (rdAt_arg (l := l) (at_ := at_) (.inr (by omega)))
      have HN := Lib.hid hn
      clear hn
      have hd : decide (at_ < 0) = false := by simpa using hneg
      go_enter Tryd.func27, Tryd.ntmps27
      go_wp2
      go_ret3
      exact ⟨by rw [HR.out]; rfl, Below.refl _ _⟩
    · obtain ⟨k, rfl⟩ := Int.eq_ofNat_of_zero_le (show 0 ≤ at_ by omega)
      have HR := Lib.hid (rdAt_in (l := l) (k := k) (by omega))
      have HN := Lib.hid hn
      clear hn
      by_cases hkn : k < n
      · obtain ⟨b, off, rfl, hb, hcells⟩ := h.2.2.2 (by omega)
        have hck : ¬ c = k := by omega
        have HL := Lib.hid (show (l.drop k).length = n - k by simp; have := HN.out; omega)
        have HC := Lib.hid hcells
        clear hcells
        go_enter Tryd.func27, Tryd.ntmps27
        go_wp2
        go_loop [7] (fun v => ∃ j : Nat, v = .int .i64 j ∧ j ≤ 10 ∧ j ≤ n - k ∧ j ≤ M.goOn (l.drop k)) (fun v => 10 - (intOf v).toNat)
        case atStart => exact ⟨0, rfl, by omega, by omega, by omega⟩
        case round =>
          obtain ⟨j, rfl, hj10, hjn, hg⟩ := hrel
          by_cases c10 : j < 10
          · by_cases hlt : j < n - k
            · have hcell := HC.out (k + j) (by omega)
              obtain ⟨x, hx⟩ : ∃ x, x = (l[k + j]?.getD 0).toNat := ⟨_, rfl⟩
              have hx256 : x < 256 := by rw [hx]; exact UInt8.toNat_lt _
              rw [← hx] at hcell
              have HX := Lib.hid hx
              clear hx
              have HK := Lib.hid (show k + j < l.length by have := HN.out; omega)
              have hd1 : decide (j < 10) = true := by simpa using c10
              have hi1 : (j : Int) < (n : Int) - (k : Int) := by omega
              by_cases hx128 : 128 ≤ x
              · have HG := Lib.hid (goOn_more (l.drop k) j hg (by rw [HL.out]; omega) (by rw [← getD_drop l k j HK.out, ← HX.out]; exact hx128))
                go_wp2
                go_round
                case rel => exact ⟨j + 1, by go_num, by omega, by omega, HG.out⟩
                case measure => simp [intOf]; omega
              · have HG := Lib.hid (goOn_stop (l.drop k) j hg (by rw [HL.out]; omega) (by rw [← getD_drop l k j HK.out, ← HX.out]; omega))
                clear hg hj10
                go_wp2
                go_loop [8, 9] (fun v p => ∃ i : Nat, i ≤ j + 1 ∧ p = .int .i64 ((i : Int) - 1) ∧ v = .int .u64 (back l k j i : Nat)) (fun _ p => (intOf p + 1).toNat)
                case atStart => exact ⟨j + 1, Nat.le_refl _, by go_num, by rw [back_start]; rfl⟩
                case round =>
                  obtain ⟨i, hi, rfl, rfl⟩ := hrel
                  cases i with
                  | zero =>
                    obtain ⟨V, hV⟩ : ∃ V, V = back l k j 0 := ⟨_, rfl⟩
                    have hVlt : V < 18446744073709551616 := by rw [hV]; exact Nat.mod_lt _ (by omega)
                    have HE := Lib.hid (elder_says l k j HG.out)
                    rw [← hV] at HE ⊢
                    clear hV
                    go_wp2_with fail
                    refine (ref_uvarint_any V _ hVlt).mono ?_
                    rintro e w1 ⟨v, rfl, hown, hbel⟩
                    obtain ⟨A1, c1, rfl, hrd⟩ := hown.open_
                    have hs1 := fun nq => run_str (P := Tryd.prog) (w1.drewN nq) _ 27 9 5 Tryd.underlying27 Tryd.underlying5 Tryd.underlying9 A1 _ c1 _ (hrd.drewN nq)
                    go_wp2
                    have hjc : k + j + 1 ≤ c := by omega
                    have hw1 : IntKind.i64.wrap ((k : Int) + (j : Int)) = (k : Int) + (j : Int) := IntWalk.i64_in _ (by omega)
                    have hw2 : IntKind.i64.wrap ((k : Int) + (j : Int) + 1) = (k : Int) + (j : Int) + 1 := IntWalk.i64_in _ (by omega)
                    have hw3 : (0 : Int) ≤ (k : Int) + (j : Int) + 1 := by omega
                    have hw4 : ((k : Int) + (j : Int) + 1).toNat = k + j + 1 := by omega
                    have hrd2 : Rd w1 B (some ⟨b, off + k, none⟩) (k + j + 1 - k) (c - k) ((l.drop k).take (j + 1)) := by
                      have := (h.below (hbel.mono hB)).cut (i := k) (k := k + j + 1) (by omega) (by omega)
                      rw [if_neg hck, List.drop_take] at this
                      simpa [add_none, show k + j + 1 - k = j + 1 from by omega] using this
                    have hs2 := fun nq => run_str (P := Tryd.prog) (w1.drewN nq) _ 27 9 5 Tryd.underlying27 Tryd.underlying5 Tryd.underlying9 _ _ _ _ (hrd2.drewN nq)
                    rcases HE.out with ⟨he1, he2⟩ | ⟨he1, he2⟩
                    · have HE2 := Lib.hid he2
                      have HE1 := Lib.hid he1
                      clear he1 he2 HE
                      go_quiet (fail)
                      clear hw1 hw2 hw3 hw4
                      have HQ := Lib.hid (show (!(M.uv V == (l.drop k).take (j + 1))) = false by rw [HE1.out]; simp)
                      go_wp2
                      · exfalso
                        have hc : (!(M.uv V == (l.drop k).take (j + 1))) = true := by assumption
                        rw [HQ.out] at hc
                        cases hc
                      go_ret3
                      have hret : Ending.returned (.tuple #[.int .u64 (V : Int), .int .i64 ((k : Int) + (j : Int) + 1), .int .i64 0]) = .returned (.tuple #[.int .u64 (V : Int), .int .i64 ((k + (j + 1) : Nat) : Int), .int .i64 0]) := ret_t3 rfl (by omega) rfl
                      exact ⟨by rw [HR.out, HE2.out]; exact hret, below_drewN hbel _⟩
                    · have HE2 := Lib.hid he2
                      have HE1 := Lib.hid he1
                      clear he1 he2 HE
                      go_quiet (fail)
                      clear hw1 hw2 hw3 hw4
                      have HQ := Lib.hid (show (!(M.uv V == (l.drop k).take (j + 1))) = true by simp [HE1.out])
                      go_wp2
                      · go_ret3
                        exact ⟨by rw [HR.out, HE2.out]; rfl, below_drewN hbel _⟩
                      · exfalso
                        have hc : (!(M.uv V == (l.drop k).take (j + 1))) = false := by assumption
                        rw [HQ.out] at hc
                        cases hc
                  | succ i =>
                    rw [show (((i + 1 : Nat) : Int) - 1) = (i : Int) from by omega]
                    have hcell := HC.out (k + i) (by omega)
                    obtain ⟨y, hy⟩ : ∃ y, y = (l[k + i]?.getD 0).toNat := ⟨_, rfl⟩
                    have hy256 : y < 256 := by rw [hy]; exact UInt8.toNat_lt _
                    rw [← hy] at hcell
                    have HB := Lib.hid (back_step l k j i (by omega) HK.out hy)
                    clear hy
                    obtain ⟨V, hV⟩ : ∃ V, V = back l k j (i + 1) := ⟨_, rfl⟩
                    rw [← hV] at HB ⊢
                    have hVlt : V < 18446744073709551616 := by rw [hV]; exact Nat.mod_lt _ (by omega)
                    clear hV
                    go_wp2
                    go_round
                    case rel => exact ⟨i, by omega, by go_num, by rw [HB.out]; simp [IntKind.wrap_u64]⟩
                    case measure => simp [intOf]
            · have HD := Lib.hid (none_all (d := l.drop k) (by rw [HL.out]; omega))
              have hi1 : ¬ (j : Int) < (n : Int) - (k : Int) := by omega
              clear hg
              go_wp2
              go_ret3
              exact ⟨by rw [HR.out, HD.out]; rfl, Below.refl _ _⟩
          · have HD := Lib.hid (none_long (d := l.drop k) (by omega))
            clear hg
            go_wp2
            go_ret3
            exact ⟨by rw [HR.out, HD.out]; rfl, Below.refl _ _⟩
      · have HD := Lib.hid ((Scan.start l k).end_ (by have := HN.out; omega))
        obtain rfl : k = n := by omega
        go_enter Tryd.func27, Tryd.ntmps27
        go_wp2
        all_goals
          refine wp_loop_rounds 1 ?_
          rw [rounds_succ]
          go_wp2
          go_ret3
          exact ⟨by rw [HR.out, HD.out]; rfl, Below.refl _ _⟩
end Go.Proofs.YtjdkpcibdjhdoaaDoor
