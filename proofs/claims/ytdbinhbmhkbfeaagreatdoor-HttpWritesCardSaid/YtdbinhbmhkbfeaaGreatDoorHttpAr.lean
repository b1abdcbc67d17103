/-
  The document's Answer, by contract.
-/
import Derived.Test.YtdbinhbmhkbfeaaGreatDoorHttpAq
import Derived.BigQuiet
import Derived.Deep.QuietTactic
namespace Go.Proofs.YtdbinhbmhkbfeaaGreatDoor
open Go.RowKit Mem Go.Sort
set_option linter.unusedVariables false
set_option maxRecDepth 100000

def oneAns (F l : List UInt8) (last : Bool) : Option (List UInt8 × Nat) :=
  if F <+: l then (match M.ansR last (l.drop F.length) with | some r => some (r.2.take r.1, l.length - r.2.length + r.1) | none => none) else none
def bothAns (n : Nat) (F l : List UInt8) : Option (Nat × List UInt8 × Nat) :=
  match oneAns F l false with
  | some r => some (n, r)
  | none => match oneAns F l true with | some r => some (n, r) | none => none
def refAns (l : List UInt8) : Option (Nat × List UInt8 × Nat) :=
  if l.length < 13 ∨ ¬ l.take 9 = M.v9 then none else
  match M.len9 ((l.drop 9).take 3) with
  | none => none
  | some n => if n < 100 then none else bothAns n (M.frontB n) l

theorem str_eq (s : ByteArray) (a : List UInt8) : (s.toList == a) = decide (bl s = a) := by
  rw [BEq.comm, eq_str]
  exact decide_eq_decide.2 eq_comm
theorem str_eq2 (s t : ByteArray) : (s.toList == t.toList) = decide (bl s = bl t) := by
  rw [eq_str]
  have : s.toList = bl s := by have := eq_str (bl s) s; simp at this; exact this.symm
  rw [this]
theorem pre_take {F l : List UInt8} (h : l.take F.length = F) : F <+: l := ⟨l.drop F.length, by have e := List.take_append_drop F.length l; rw [h] at e; exact e⟩
theorem oneAns_no {F l : List UInt8} (h : ¬ F <+: l) (b : Bool) : oneAns F l b = none := by unfold oneAns; rw [if_neg h]
theorem bothAns_no {n : Nat} {F l : List UInt8} (h1 : oneAns F l false = none) (h2 : oneAns F l true = none) : bothAns n F l = none := by unfold bothAns; rw [h1, h2]

theorem oneAns_yes {F l : List UInt8} {b : Bool} (h : F <+: l) : oneAns F l b = (match M.ansR b (l.drop F.length) with | some r => some (r.2.take r.1, l.length - r.2.length + r.1) | none => none) := by unfold oneAns; rw [if_pos h]
theorem drop_drop_bl (s : ByteArray) (a b : Nat) : ((bl s).drop a).drop b = (bl s).drop (a + b) := by rw [List.drop_drop]
theorem M.digRun_le : ∀ (l : List UInt8) (f : Nat), digRun f l ≤ l.length ∧ digRun f l ≤ f := by
  intro l
  induction l with
  | nil => intro f; cases f <;> simp [digRun]
  | cons c r ih =>
    intro f
    cases f with
    | zero => simp [digRun]
    | succ f =>
      unfold digRun
      have := ih f
      split
      · simp; omega
      · simp

theorem M.run_stop {i dr : Nat} {T r : List UInt8} {c : UInt8} (h : dr = i + M.digRun (10 - i) (T.drop i)) (ht : T.drop i = c :: r) (hc : M.digB c = false) : dr = i := by
  rw [ht] at h
  cases hx : 10 - i with
  | zero => rw [hx] at h; exact h
  | succ f => rw [hx] at h; unfold M.digRun at h; rw [hc] at h; exact h
theorem M.run_next {i dr : Nat} {T : List UInt8} {c : UInt8} (h : dr = i + M.digRun (10 - i) (T.drop i)) (ht : T.drop i = c :: T.drop (i + 1)) (hc : M.digB c = true) (hi : i < 10) : dr = i + 1 + M.digRun (10 - (i + 1)) (T.drop (i + 1)) := by
  rw [ht, show 10 - i = (10 - (i + 1)) + 1 by omega] at h
  unfold M.digRun at h
  rw [if_pos hc] at h
  omega
theorem M.run_ten {i dr : Nat} {T : List UInt8} (h : dr = i + M.digRun (10 - i) (T.drop i)) (hi : 10 ≤ i) : dr = i := by
  rw [show 10 - i = 0 by omega] at h
  unfold M.digRun at h
  exact h
theorem M.run_end {i dr : Nat} {T : List UInt8} (h : dr = i + M.digRun (10 - i) (T.drop i)) (ht : T.drop i = []) : dr = i := by
  rw [ht] at h
  have := (M.digRun_le [] (10 - i)).1
  simp at this
  omega
theorem M.ansR_at {dr : Nat} {T : List UInt8} (la : Bool) (h : dr = M.digRun 10 T) : M.ansR la T = (match M.len9 (T.take dr) with
    | none => none
    | some n => if M.tailB la <+: T.drop dr ∧ n ≤ (T.drop (dr + (M.tailB la).length)).length then some (n, T.drop (dr + (M.tailB la).length)) else none) := by
  unfold M.ansR
  rw [← h]
  rfl
theorem drop_drop_bl2 (T : List UInt8) (a b : Nat) : (T.drop a).drop b = T.drop (a + b) := List.drop_drop

set_option maxHeartbeats 16000000 in
theorem RefAnswer_any (s : ByteArray) (w : World) (hs : s.size ≤ 100000) : Calls Tryz.prog 9 #[.string s] w fun e w' => e = .returned (ansV (refAns (bl s))) ∧ Below w.heap.size w w' := by
  have hsz : (bl s).length = s.size := bl_len s
  by_cases h13 : s.size < 13
  · have HR := Lib.hid (show refAns (bl s) = none by unfold refAns; rw [if_pos (.inl (by omega))])
    go_enter Tryz.func9, Tryz.ntmps9
    go_wp2
    go_ret3
    exact ⟨by rw [HR.out]; rfl, Below.refl _ _⟩
  · have h9 : 9 ≤ s.size := by omega
    have h12 : 12 ≤ s.size := by omega
    by_cases hv : (bl s).take 9 = M.v9
    · have hq : ((s.extract 0 9).toList == [72, 84, 84, 80, 47, 49, 46, 49, 32]) = true := by
        rw [str_eq, bl_cut]; exact decide_eq_true hv
      have hra : refAns (bl s) = match M.len9 (((bl s).drop 9).take 3) with
        | none => none
        | some n => if n < 100 then none else bothAns n (M.frontB n) (bl s) := by
        unfold refAns; rw [if_neg (by rintro (h | h); omega; exact h hv)]
      generalize refAns (bl s) = RA at *
      have hle := ref_length_any (s.extract 9 12) w (by simp; omega)
      rw [bl_cut, List.drop_take] at hle
      have hl3 : (((bl s).drop 9).take 3).length ≤ 3 := by simp; omega
      generalize ((bl s).drop 9).take (12 - 9) = D3 at *
      cases hm : M.len9 D3 with
      | none =>
        rw [hm] at hra hle
        have HR := Lib.hid hra
        have HLE := Lib.hid (show Calls Tryz.prog 22 #[.string (s.extract 9 12)] w (SaysZ (-1) w) from hle)
        clear hra hle hm hv
        go_enter Tryz.func9, Tryz.ntmps9
        go_wp2_with fail
        refine HLE.out.mono ?_
        rintro e w1 ⟨rfl, rfl⟩
        go_wp2
        go_ret3
        exact ⟨by rw [HR.out]; rfl, Below.refl _ _⟩
      | some n =>
        rw [hm] at hra hle
        have HLE := Lib.hid (show Calls Tryz.prog 22 #[.string (s.extract 9 12)] w (SaysZ (n : Int) w) from hle)
        by_cases hn1 : n < 100
        · simp only [if_pos hn1] at hra
          have HR := Lib.hid hra
          have hn1' : (n : Int) < 100 := by omega
          clear hra hle hm hv
          go_enter Tryz.func9, Tryz.ntmps9
          go_wp2_with fail
          refine HLE.out.mono ?_
          rintro e w1 ⟨rfl, rfl⟩
          go_wp2
          go_ret3
          exact ⟨by rw [HR.out]; rfl, Below.refl _ _⟩
        · simp only [if_neg hn1] at hra
          have hn9 : n < 1000 := by
            have hd := (M.len9_form hm).1
            by_cases hn : n < 1000
            · exact hn
            · exfalso
              have hl : (Lib.decDigits n).length ≤ 3 := by rw [← hd]; exact hl3
              rw [Lib.decDigits_length, Lib.nDigits_big (by omega), Lib.nDigits_big (by omega), Lib.nDigits_big (by omega)] at hl
              have : 1 ≤ Lib.nDigits (n / 10 / 10 / 10) := by
                by_cases hm : n / 10 / 10 / 10 < 10
                · rw [Lib.nDigits_small hm]; exact Nat.le_refl 1
                · rw [Lib.nDigits_big hm]; omega
              omega
          have HRA := Lib.hid hra
          have hn1' : ¬ (n : Int) < 100 := by omega
          have HDK := Lib.hid (fun W => dec_any n W (by omega))
          have HWD := Lib.hid (fun W => words_any n hn9 W)
          obtain ⟨R, hR⟩ : ∃ R : ByteArray, R = ⟨(Lib.decDigits n).toArray⟩ := ⟨_, rfl⟩
          obtain ⟨U, hU⟩ : ∃ U : ByteArray, U = ⟨(M.wordsOf n).toArray⟩ := ⟨_, rfl⟩
          have hRs : R.size ≤ 3 := by
            have h1 : R.size = (Lib.decDigits n).length := by rw [hR]; rfl
            have := M.dec_len (n := n) (k := 3) (by omega) (by omega); omega
          have hUs : U.size ≤ 31 := by
            have h1 : U.size = (M.wordsOf n).length := by rw [hU]; rfl
            have := words_len n; omega
          unfold SaysT at HDK HWD
          rw [← hR] at HDK
          rw [← hU] at HWD
          have hs1 : ¬ 9223372036854775807 < 9 + R.size := by omega
          have hs2 : ¬ 9223372036854775807 < 9 + R.size + 1 := by omega
          have hs3 : ¬ 9223372036854775807 < 9 + R.size + 1 + U.size := by omega
          have hs4 : ¬ 9223372036854775807 < 9 + R.size + 1 + U.size + 50 := by omega
          obtain ⟨F, hF⟩ : ∃ F : ByteArray, F = ((((⟨#[72, 84, 84, 80, 47, 49, 46, 49, 32]⟩ ++ R) ++ ⟨#[32]⟩) ++ U) ++ ⟨#[13, 10, 67, 111, 110, 116, 101, 110, 116, 45, 84, 121, 112, 101, 58, 32, 97, 112, 112, 108, 105, 99, 97, 116, 105, 111, 110, 47, 106, 115, 111, 110, 13, 10, 67, 111, 110, 116, 101, 110, 116, 45, 76, 101, 110, 103, 116, 104, 58, 32]⟩) := ⟨_, rfl⟩
          have hFb : bl F = M.frontB n := by
            rw [hF]
            simp only [bl_cat]
            rw [hR, hU]
            unfold M.frontB M.v9 M.ctL
            simp [bl]
          have hFs : F.size ≤ 100 := by
            have e : F.size = 9 + R.size + 1 + U.size + 50 := by rw [hF]; simp; rfl
            omega
          have HFE := Lib.hid hF.symm
          have HFB := Lib.hid hFb
          have hs5 : ¬ 9223372036854775807 < F.size := by omega
          clear hR hU hF hFb hra hle hm hv hl3
          go_enter Tryz.func9, Tryz.ntmps9
          go_wp2_with fail
          refine HLE.out.mono ?_
          rintro e w1 ⟨rfl, rfl⟩
          go_wp2_with fail
          go_loopw [6] (fun p w2 => ∃ k : Nat, p = .int .i64 (k : Int) ∧ k ≤ 2 ∧ Hid (1 ≤ k → oneAns (M.frontB n) (bl s) false = none) ∧ Hid (2 ≤ k → oneAns (M.frontB n) (bl s) true = none) ∧ Hid (Below w1.heap.size w1 w2)) (fun p _ => 2 - (intOf p).toNat)
          case atStart => exact ⟨0, rfl, by omega, Lib.hid (fun h => absurd h (by omega)), Lib.hid (fun h => absurd h (by omega)), Lib.hid (Below.refl _ _)⟩
          case round =>
            obtain ⟨k, rfl, hk, HO1, HO2, HB2⟩ := hrel
            obtain hk3 | rfl | rfl : k = 2 ∨ k = 0 ∨ k = 1 := by omega
            · subst hk3
              have HR := Lib.hid (bothAns_no (n := n) (HO1.out (by omega)) (HO2.out (by omega)))
              go_wp2
              go_ret3
              exact ⟨by rw [HRA.out, HR.out]; rfl, HB2.out⟩
            · go_upto_region 10 with (fail)
              go_wp2_with fail
              refine (HDK.out _).mono ?_
              rintro e w3 ⟨rfl, hb3⟩
              have HB3 := Lib.hid (HB2.out.trans (hb3.mono HB2.out.size))
              clear hb3
              go_wp2_with fail
              refine (HWD.out w3).mono ?_
              rintro e w4 ⟨rfl, hb4⟩
              have HB4 := Lib.hid (HB3.out.trans (hb4.mono HB3.out.size))
              clear hb4
              go_upto_region 11 with (fail)
              rw [HFE.out]
              by_cases hsf : s.size < F.size
              · have HNO := Lib.hid (oneAns_no (F := M.frontB n) (l := bl s) (fun h => by
                  have h1 := h.length_le
                  rw [← HFB.out, bl_len, bl_len] at h1; omega) false)
                go_wp2
                go_roundw
                case rel => exact ⟨1, by go_num, by omega, Lib.hid (fun _ => HNO.out), Lib.hid (fun h => absurd h (by omega)), HB4⟩
                case measure => simp [intOf]
              · by_cases hfe : (bl s).take F.size = M.frontB n
                · have hq2 : ((s.extract 0 F.size).toList == F.toList) = true := by
                    rw [str_eq2, bl_cut, HFB.out]; exact decide_eq_true hfe
                  have hq1 : F.size ≤ s.size := by omega
                  have hfl : (M.frontB n).length = F.size := by rw [← HFB.out, bl_len]
                  have hON := oneAns_yes (b := false) (pre_take (F := M.frontB n) (l := bl s) (by rw [hfl]; exact hfe))
                  rw [hfl] at hON
                  have hTl : ((bl s).drop F.size).length = s.size - F.size := by rw [List.length_drop, hsz]
                  have hTX := fun a => drop_drop_bl s F.size a
                  obtain ⟨T, hT⟩ : ∃ T, T = (bl s).drop F.size := ⟨_, rfl⟩
                  rw [← hT] at hON hTl
                  have HT := Lib.hid hT
                  have hdrl := M.digRun_le T 10
                  obtain ⟨dr, hdr⟩ : ∃ dr, dr = M.digRun 10 T := ⟨_, rfl⟩
                  rw [← hdr] at hdrl
                  have HDR := Lib.hid hdr
                  have HON := Lib.hid hON
                  obtain ⟨E, hE⟩ : ∃ E, E = F.size + dr := ⟨_, rfl⟩
                  have hEs : E ≤ s.size := by omega
                  have hE1 : F.size ≤ E := by omega
                  have HE := Lib.hid hE
                  clear hfe hfl hON hT hdr hTX hTl hdrl hE
                  go_upto_region 12 with (fail)
                  go_upto_block 2 with fail
                  go_cut [9] from 55 to 79 (fun s9 wx => s9 = .int .i64 (E : Int) ∧ wx = w4)
                  case first =>
                    go_wp2_with fail
                    go_loopw [9] (fun p w5 => ∃ i : Nat, p = .int .i64 ((F.size + i : Nat) : Int) ∧ F.size + i ≤ s.size ∧ i ≤ 10 ∧ Hid (dr = i + M.digRun (10 - i) (T.drop i)) ∧ w5 = w4) (fun p _ => s.size - (intOf p).toNat)
                    case atStart => exact ⟨0, rfl, by omega, by omega, Lib.hid (by rw [HDR.out]; simp), rfl⟩
                    case round =>
                      obtain ⟨i, rfl, hi, hi10, HI, rfl⟩ := hrel
                      by_cases hlt : F.size + i < s.size
                      · obtain ⟨y, hy⟩ : ∃ y, (s[F.size + i]).toNat = y := ⟨_, rfl⟩
                        have hy255 : y < 256 := by rw [← hy]; exact UInt8.toNat_lt _
                        have HTI := Lib.hid (show T.drop i = s[F.size + i] :: T.drop (i + 1) by rw [HT.out, List.drop_drop, List.drop_drop, List.drop_eq_getElem_cons (by rw [bl_len]; exact hlt)]; rfl)
                        by_cases hd1 : y < 48
                        · have HE2 := Lib.hid (M.run_stop HI.out HTI.out (by rw [Bool.eq_false_iff]; intro h; have := (digB_iff _).1 h; omega))
                          go_wp2_with fail
                          go_meet
                          exact ⟨by rw [HE.out, HE2.out]; go_num, rfl⟩
                        · by_cases hd2 : 57 < y
                          · have HE2 := Lib.hid (M.run_stop HI.out HTI.out (by rw [Bool.eq_false_iff]; intro h; have := (digB_iff _).1 h; omega))
                            go_wp2_with fail
                            go_meet
                            exact ⟨by rw [HE.out, HE2.out]; go_num, rfl⟩
                          · by_cases hi9 : i < 10
                            · have HI2 := Lib.hid (M.run_next HI.out HTI.out ((digB_iff _).2 (by omega)) hi9)
                              go_wp2
                              go_roundw
                              case rel => exact ⟨i + 1, by go_num, by omega, by omega, HI2, trivial⟩
                              case measure => simp [intOf]; omega
                            · have HE2 := Lib.hid (M.run_ten HI.out (by omega))
                              go_wp2_with fail
                              go_meet
                              exact ⟨by rw [HE.out, HE2.out]; go_num, rfl⟩
                      · have HE2 := Lib.hid (M.run_end HI.out (show T.drop i = [] by rw [HT.out, List.drop_drop]; exact List.drop_eq_nil_of_le (by rw [bl_len]; omega)))
                        go_wp2_with fail
                        go_meet
                        exact ⟨by rw [HE.out, HE2.out]; go_num, rfl⟩
                  case rest =>
                    obtain ⟨rfl, rfl⟩ := hcut
                    have hA := M.ansR_at false HDR.out
                    have hbt : bl (s.extract F.size E) = T.take dr := by rw [bl_cut, HT.out, List.drop_take, HE.out, Nat.add_sub_cancel_left]
                    have hle2 := fun W => ref_length_any (s.extract F.size E) W (by simp; omega)
                    rw [hbt] at hle2
                    cases hm2 : M.len9 (T.take dr) with
                    | none =>
                      rw [hm2] at hA hle2
                      have HL2 := Lib.hid (show ∀ W, Calls Tryz.prog 22 #[.string (s.extract F.size E)] W (SaysZ (-1) W) from hle2)
                      have HNO := Lib.hid (show oneAns (M.frontB n) (bl s) false = none by rw [HON.out, hA])
                      clear hA hle2 hm2 hbt
                      go_wp2_with fail
                      refine (HL2.out _).mono ?_
                      rintro e w5 ⟨rfl, rfl⟩
                      go_wp2
                      go_roundw
                      case rel => exact ⟨1, by go_num, by omega, Lib.hid (fun _ => HNO.out), Lib.hid (fun h => absurd h (by omega)), HB4⟩
                      case measure => simp [intOf]
                    | some m =>
                      have hm9 := (M.len9_form hm2).2
                      rw [hm2] at hA hle2
                      have HL2 := Lib.hid (show ∀ W, Calls Tryz.prog 22 #[.string (s.extract F.size E)] W (SaysZ (m : Int) W) from hle2)
                      have htl : (M.tailB false).length = 4 := rfl
                      have hdl2 : (T.drop (dr + 4)).length = s.size - (E + 4) := by rw [HT.out, List.drop_drop, List.length_drop, hsz, HE.out, Nat.add_assoc]
                      simp only [htl] at hA
                      clear hle2 hm2 hbt
                      by_cases hend : E + 4 + m ≤ s.size
                      · by_cases ht : (T.drop dr).take 4 = M.tailB false
                        · have hq3 : ((s.extract E (E + 4)).toList == [13, 10, 13, 10]) = true := by
                            rw [str_eq, bl_cut, List.drop_take, Nat.add_sub_cancel_left, HE.out, ← drop_drop_bl, ← HT.out]; exact decide_eq_true ht
                          have HON1 := Lib.hid (show oneAns (M.frontB n) (bl s) false = some ((T.drop (dr + 4)).take m, E + 4 + m) by
                            rw [HON.out, hA, if_pos ⟨pre_take (by rw [htl]; exact ht), by rw [hdl2]; omega⟩]
                            simp only [hdl2, hsz]
                            congr 2
                            omega)
                          have HBX := Lib.hid (show bl (s.extract (E + 4) (E + 4 + m)) = (T.drop (dr + 4)).take m by
                            rw [bl_cut, List.drop_take, Nat.add_sub_cancel_left, HT.out, drop_drop_bl, HE.out, Nat.add_assoc])
                          have HY := Lib.hid (show RA = some (n, (T.drop (dr + 4)).take m, E + 4 + m) by rw [HRA.out]; unfold bothAns; rw [HON1.out])
                          clear hA hdl2 htl ht
                          go_upto_region 15 with (fail)
                          go_wp2_with fail
                          refine (HL2.out _).mono ?_
                          rintro e w5 ⟨rfl, rfl⟩
                          go_upto_region 22 with (fail)
                          go_quiet (fail)
                          go_wp2
                          go_ret3
                          refine ⟨?_, bel_drewN HB4.out _⟩
                          rw [HY.out]
                          have e1 : s.extract (E + 4) (E + 4 + m) = ⟨((T.drop (dr + 4)).take m).toArray⟩ := bl_inj (by rw [HBX.out, bl_mk])
                          have e2 : (E : Int) + 4 + (m : Int) = ((E + 4 + m : Nat) : Int) := by omega
                          show Ending.returned (.tuple #[.int .i64 (n : Int), .string (s.extract (E + 4) (E + 4 + m)), .int .i64 ((E : Int) + 4 + (m : Int))]) = .returned (.tuple #[.int .i64 (n : Int), .string ⟨((T.drop (dr + 4)).take m).toArray⟩, .int .i64 ((E + 4 + m : Nat) : Int)])
                          rw [e1, e2]
                        · have hq3 : ((s.extract E (E + 4)).toList == [13, 10, 13, 10]) = false := by
                            rw [str_eq, bl_cut, List.drop_take, Nat.add_sub_cancel_left, HE.out, ← drop_drop_bl, ← HT.out]; exact decide_eq_false ht
                          have HNO := Lib.hid (show oneAns (M.frontB n) (bl s) false = none by
                            rw [HON.out, hA, if_neg (fun h => ht (by obtain ⟨⟨u, hu⟩, _⟩ := h; rw [← hu, ← htl, List.take_left' rfl]))])
                          clear hA hdl2 htl ht
                          go_wp2_with fail
                          refine (HL2.out _).mono ?_
                          rintro e w5 ⟨rfl, rfl⟩
                          go_wp2
                          go_roundw
                          case rel => exact ⟨1, by go_num, by omega, Lib.hid (fun _ => HNO.out), Lib.hid (fun h => absurd h (by omega)), HB4⟩
                          case measure => simp [intOf]
                      · have HNO := Lib.hid (show oneAns (M.frontB n) (bl s) false = none by
                          rw [HON.out, hA, if_neg (fun h => by
                            have h1 := h.1.length_le
                            have h2 := h.2
                            rw [hdl2] at h2
                            rw [htl, HT.out, List.drop_drop, List.length_drop, hsz] at h1
                            have := HE.out
                            omega)])
                        clear hA hdl2 htl
                        go_wp2_with fail
                        refine (HL2.out _).mono ?_
                        rintro e w5 ⟨rfl, rfl⟩
                        go_wp2
                        go_roundw
                        case rel => exact ⟨1, by go_num, by omega, Lib.hid (fun _ => HNO.out), Lib.hid (fun h => absurd h (by omega)), HB4⟩
                        case measure => simp [intOf]
                · have hq2 : ((s.extract 0 F.size).toList == F.toList) = false := by
                    rw [str_eq2, bl_cut, HFB.out]; exact decide_eq_false hfe
                  have hq1 : F.size ≤ s.size := by omega
                  have HNO := Lib.hid (oneAns_no (F := M.frontB n) (l := bl s) (fun h => hfe (by
                    obtain ⟨u, hu⟩ := h
                    have hfl : (M.frontB n).length = F.size := by rw [← HFB.out, bl_len]
                    rw [← hu, ← hfl, List.take_left' rfl])) false)
                  clear hfe
                  go_wp2
                  go_roundw
                  case rel => exact ⟨1, by go_num, by omega, Lib.hid (fun _ => HNO.out), Lib.hid (fun h => absurd h (by omega)), HB4⟩
                  case measure => simp [intOf]
            · go_upto_region 10 with (fail)
              go_wp2_with fail
              refine (HDK.out _).mono ?_
              rintro e w3 ⟨rfl, hb3⟩
              have HB3 := Lib.hid (HB2.out.trans (hb3.mono HB2.out.size))
              clear hb3
              go_wp2_with fail
              refine (HWD.out w3).mono ?_
              rintro e w4 ⟨rfl, hb4⟩
              have HB4 := Lib.hid (HB3.out.trans (hb4.mono HB3.out.size))
              clear hb4
              go_upto_region 11 with (fail)
              rw [HFE.out]
              by_cases hsf : s.size < F.size
              · have HNO := Lib.hid (oneAns_no (F := M.frontB n) (l := bl s) (fun h => by
                  have h1 := h.length_le
                  rw [← HFB.out, bl_len, bl_len] at h1; omega) true)
                go_wp2
                go_roundw
                case rel => exact ⟨2, by go_num, by omega, Lib.hid (fun _ => HO1.out (by omega)), Lib.hid (fun _ => HNO.out), HB4⟩
                case measure => simp [intOf]
              · by_cases hfe : (bl s).take F.size = M.frontB n
                · have hq2 : ((s.extract 0 F.size).toList == F.toList) = true := by
                    rw [str_eq2, bl_cut, HFB.out]; exact decide_eq_true hfe
                  have hq1 : F.size ≤ s.size := by omega
                  have hfl : (M.frontB n).length = F.size := by rw [← HFB.out, bl_len]
                  have hON := oneAns_yes (b := true) (pre_take (F := M.frontB n) (l := bl s) (by rw [hfl]; exact hfe))
                  rw [hfl] at hON
                  have hTl : ((bl s).drop F.size).length = s.size - F.size := by rw [List.length_drop, hsz]
                  have hTX := fun a => drop_drop_bl s F.size a
                  obtain ⟨T, hT⟩ : ∃ T, T = (bl s).drop F.size := ⟨_, rfl⟩
                  rw [← hT] at hON hTl
                  have HT := Lib.hid hT
                  have hdrl := M.digRun_le T 10
                  obtain ⟨dr, hdr⟩ : ∃ dr, dr = M.digRun 10 T := ⟨_, rfl⟩
                  rw [← hdr] at hdrl
                  have HDR := Lib.hid hdr
                  have HON := Lib.hid hON
                  obtain ⟨E, hE⟩ : ∃ E, E = F.size + dr := ⟨_, rfl⟩
                  have hEs : E ≤ s.size := by omega
                  have hE1 : F.size ≤ E := by omega
                  have HE := Lib.hid hE
                  clear hfe hfl hON hT hdr hTX hTl hdrl hE
                  go_upto_region 12 with (fail)
                  go_upto_block 2 with fail
                  go_cut [9] from 55 to 79 (fun s9 wx => s9 = .int .i64 (E : Int) ∧ wx = w4)
                  case first =>
                    go_wp2_with fail
                    go_loopw [9] (fun p w5 => ∃ i : Nat, p = .int .i64 ((F.size + i : Nat) : Int) ∧ F.size + i ≤ s.size ∧ i ≤ 10 ∧ Hid (dr = i + M.digRun (10 - i) (T.drop i)) ∧ w5 = w4) (fun p _ => s.size - (intOf p).toNat)
                    case atStart => exact ⟨0, rfl, by omega, by omega, Lib.hid (by rw [HDR.out]; simp), rfl⟩
                    case round =>
                      obtain ⟨i, rfl, hi, hi10, HI, rfl⟩ := hrel
                      by_cases hlt : F.size + i < s.size
                      · obtain ⟨y, hy⟩ : ∃ y, (s[F.size + i]).toNat = y := ⟨_, rfl⟩
                        have hy255 : y < 256 := by rw [← hy]; exact UInt8.toNat_lt _
                        have HTI := Lib.hid (show T.drop i = s[F.size + i] :: T.drop (i + 1) by rw [HT.out, List.drop_drop, List.drop_drop, List.drop_eq_getElem_cons (by rw [bl_len]; exact hlt)]; rfl)
                        by_cases hd1 : y < 48
                        · have HE2 := Lib.hid (M.run_stop HI.out HTI.out (by rw [Bool.eq_false_iff]; intro h; have := (digB_iff _).1 h; omega))
                          go_wp2_with fail
                          go_meet
                          exact ⟨by rw [HE.out, HE2.out]; go_num, rfl⟩
                        · by_cases hd2 : 57 < y
                          · have HE2 := Lib.hid (M.run_stop HI.out HTI.out (by rw [Bool.eq_false_iff]; intro h; have := (digB_iff _).1 h; omega))
                            go_wp2_with fail
                            go_meet
                            exact ⟨by rw [HE.out, HE2.out]; go_num, rfl⟩
                          · by_cases hi9 : i < 10
                            · have HI2 := Lib.hid (M.run_next HI.out HTI.out ((digB_iff _).2 (by omega)) hi9)
                              go_wp2
                              go_roundw
                              case rel => exact ⟨i + 1, by go_num, by omega, by omega, HI2, trivial⟩
                              case measure => simp [intOf]; omega
                            · have HE2 := Lib.hid (M.run_ten HI.out (by omega))
                              go_wp2_with fail
                              go_meet
                              exact ⟨by rw [HE.out, HE2.out]; go_num, rfl⟩
                      · have HE2 := Lib.hid (M.run_end HI.out (show T.drop i = [] by rw [HT.out, List.drop_drop]; exact List.drop_eq_nil_of_le (by rw [bl_len]; omega)))
                        go_wp2_with fail
                        go_meet
                        exact ⟨by rw [HE.out, HE2.out]; go_num, rfl⟩
                  case rest =>
                    obtain ⟨rfl, rfl⟩ := hcut
                    have hA := M.ansR_at true HDR.out
                    have hbt : bl (s.extract F.size E) = T.take dr := by rw [bl_cut, HT.out, List.drop_take, HE.out, Nat.add_sub_cancel_left]
                    have hle2 := fun W => ref_length_any (s.extract F.size E) W (by simp; omega)
                    rw [hbt] at hle2
                    cases hm2 : M.len9 (T.take dr) with
                    | none =>
                      rw [hm2] at hA hle2
                      have HL2 := Lib.hid (show ∀ W, Calls Tryz.prog 22 #[.string (s.extract F.size E)] W (SaysZ (-1) W) from hle2)
                      have HNO := Lib.hid (show oneAns (M.frontB n) (bl s) true = none by rw [HON.out, hA])
                      clear hA hle2 hm2 hbt
                      go_wp2_with fail
                      refine (HL2.out _).mono ?_
                      rintro e w5 ⟨rfl, rfl⟩
                      go_wp2
                      go_roundw
                      case rel => exact ⟨2, by go_num, by omega, Lib.hid (fun _ => HO1.out (by omega)), Lib.hid (fun _ => HNO.out), HB4⟩
                      case measure => simp [intOf]
                    | some m =>
                      have hm9 := (M.len9_form hm2).2
                      rw [hm2] at hA hle2
                      have HL2 := Lib.hid (show ∀ W, Calls Tryz.prog 22 #[.string (s.extract F.size E)] W (SaysZ (m : Int) W) from hle2)
                      have htl : (M.tailB true).length = 23 := rfl
                      have hdl2 : (T.drop (dr + 23)).length = s.size - (E + 23) := by rw [HT.out, List.drop_drop, List.length_drop, hsz, HE.out, Nat.add_assoc]
                      simp only [htl] at hA
                      clear hle2 hm2 hbt
                      by_cases hend : E + 23 + m ≤ s.size
                      · by_cases ht : (T.drop dr).take 23 = M.tailB true
                        · have hq3 : ((s.extract E (E + 23)).toList == [13, 10, 67, 111, 110, 110, 101, 99, 116, 105, 111, 110, 58, 32, 99, 108, 111, 115, 101, 13, 10, 13, 10]) = true := by
                            rw [str_eq, bl_cut, List.drop_take, Nat.add_sub_cancel_left, HE.out, ← drop_drop_bl, ← HT.out]; exact decide_eq_true ht
                          have HON1 := Lib.hid (show oneAns (M.frontB n) (bl s) true = some ((T.drop (dr + 23)).take m, E + 23 + m) by
                            rw [HON.out, hA, if_pos ⟨pre_take (by rw [htl]; exact ht), by rw [hdl2]; omega⟩]
                            simp only [hdl2, hsz]
                            congr 2
                            omega)
                          have HBX := Lib.hid (show bl (s.extract (E + 23) (E + 23 + m)) = (T.drop (dr + 23)).take m by
                            rw [bl_cut, List.drop_take, Nat.add_sub_cancel_left, HT.out, drop_drop_bl, HE.out, Nat.add_assoc])
                          have HY := Lib.hid (show RA = some (n, (T.drop (dr + 23)).take m, E + 23 + m) by rw [HRA.out]; unfold bothAns; rw [HO1.out (by omega), HON1.out])
                          clear hA hdl2 htl ht
                          go_upto_region 15 with (fail)
                          go_wp2_with fail
                          refine (HL2.out _).mono ?_
                          rintro e w5 ⟨rfl, rfl⟩
                          go_upto_region 22 with (fail)
                          go_quiet (fail)
                          go_wp2
                          go_ret3
                          refine ⟨?_, bel_drewN HB4.out _⟩
                          rw [HY.out]
                          have e1 : s.extract (E + 23) (E + 23 + m) = ⟨((T.drop (dr + 23)).take m).toArray⟩ := bl_inj (by rw [HBX.out, bl_mk])
                          have e2 : (E : Int) + 23 + (m : Int) = ((E + 23 + m : Nat) : Int) := by omega
                          show Ending.returned (.tuple #[.int .i64 (n : Int), .string (s.extract (E + 23) (E + 23 + m)), .int .i64 ((E : Int) + 23 + (m : Int))]) = .returned (.tuple #[.int .i64 (n : Int), .string ⟨((T.drop (dr + 23)).take m).toArray⟩, .int .i64 ((E + 23 + m : Nat) : Int)])
                          rw [e1, e2]
                        · have hq3 : ((s.extract E (E + 23)).toList == [13, 10, 67, 111, 110, 110, 101, 99, 116, 105, 111, 110, 58, 32, 99, 108, 111, 115, 101, 13, 10, 13, 10]) = false := by
                            rw [str_eq, bl_cut, List.drop_take, Nat.add_sub_cancel_left, HE.out, ← drop_drop_bl, ← HT.out]; exact decide_eq_false ht
                          have HNO := Lib.hid (show oneAns (M.frontB n) (bl s) true = none by
                            rw [HON.out, hA, if_neg (fun h => ht (by obtain ⟨⟨u, hu⟩, _⟩ := h; rw [← hu, ← htl, List.take_left' rfl]))])
                          clear hA hdl2 htl ht
                          go_wp2_with fail
                          refine (HL2.out _).mono ?_
                          rintro e w5 ⟨rfl, rfl⟩
                          go_wp2
                          go_roundw
                          case rel => exact ⟨2, by go_num, by omega, Lib.hid (fun _ => HO1.out (by omega)), Lib.hid (fun _ => HNO.out), HB4⟩
                          case measure => simp [intOf]
                      · have HNO := Lib.hid (show oneAns (M.frontB n) (bl s) true = none by
                          rw [HON.out, hA, if_neg (fun h => by
                            have h1 := h.1.length_le
                            have h2 := h.2
                            rw [hdl2] at h2
                            rw [htl, HT.out, List.drop_drop, List.length_drop, hsz] at h1
                            have := HE.out
                            omega)])
                        clear hA hdl2 htl
                        go_wp2_with fail
                        refine (HL2.out _).mono ?_
                        rintro e w5 ⟨rfl, rfl⟩
                        go_wp2
                        go_roundw
                        case rel => exact ⟨2, by go_num, by omega, Lib.hid (fun _ => HO1.out (by omega)), Lib.hid (fun _ => HNO.out), HB4⟩
                        case measure => simp [intOf]
                · have hq2 : ((s.extract 0 F.size).toList == F.toList) = false := by
                    rw [str_eq2, bl_cut, HFB.out]; exact decide_eq_false hfe
                  have hq1 : F.size ≤ s.size := by omega
                  have HNO := Lib.hid (oneAns_no (F := M.frontB n) (l := bl s) (fun h => hfe (by
                    obtain ⟨u, hu⟩ := h
                    have hfl : (M.frontB n).length = F.size := by rw [← HFB.out, bl_len]
                    rw [← hu, ← hfl, List.take_left' rfl])) true)
                  clear hfe
                  go_wp2
                  go_roundw
                  case rel => exact ⟨2, by go_num, by omega, Lib.hid (fun _ => HO1.out (by omega)), Lib.hid (fun _ => HNO.out), HB4⟩
                  case measure => simp [intOf]
    · have hq : ((s.extract 0 9).toList == [72, 84, 84, 80, 47, 49, 46, 49, 32]) = false := by
        rw [str_eq, bl_cut]; exact decide_eq_false hv
      have HR := Lib.hid (show refAns (bl s) = none by unfold refAns; rw [if_pos (.inr hv)])
      clear hv
      go_enter Tryz.func9, Tryz.ntmps9
      go_wp2
      go_ret3
      exact ⟨by rw [HR.out]; rfl, Below.refl _ _⟩
end Go.Proofs.YtdbinhbmhkbfeaaGreatDoor
