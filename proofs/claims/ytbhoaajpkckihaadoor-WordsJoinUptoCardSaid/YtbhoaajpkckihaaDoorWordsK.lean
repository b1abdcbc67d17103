/-
  What the laws' in does; the law WordsJoin.
-/
import Derived.Test.YtbhoaajpkckihaaDoorWordsJ
namespace Go.Proofs.YtbhoaajpkckihaaDoor
open Go.RowKit Mem
set_option linter.unusedVariables false
set_option maxRecDepth 100000

theorem beq_str (a b : List UInt8) : (a == b) = decide (a = b) := by rw [Bool.eq_iff_iff]; simp

set_option maxHeartbeats 1000000 in
theorem in_any (A : Option Addr) (n c B : Nat) (xs : List (List UInt8)) (x : List UInt8) (w : World) (h : RdV w B A n c (strs xs)) :
    Calls Tryd.prog 18 #[.slice A n c, .string ⟨x.toArray⟩] w (fun e w' => e = .returned (.bool (decide (x ∈ xs))) ∧ w' = w) := by
  have hn : xs.length = n := by have := h.1; simpa using this.symm
  have HN := Lib.hid hn
  have HR := Lib.hid h
  have hc := h.2.1
  have hcm := h.max
  have H0 := Lib.hid (show ∀ j (h : j < xs.length), j < 0 → ¬ xs[j] = x from fun j _ hj => by omega)
  clear h hn
  go_enter Tryd.func18, Tryd.ntmps18
  go_wp2
  go_loop [5] (fun p => ∃ i : Nat, p = .int .i64 (i : Int) ∧ i ≤ n ∧ Hid (∀ j (h : j < xs.length), j < i → ¬ xs[j] = x)) (fun p => n - (intOf p).toNat)
  case atStart => exact ⟨0, rfl, by omega, H0⟩
  case round =>
    obtain ⟨i, rfl, hi, HI⟩ := hrel
    by_cases hlt : i < n
    · have hix : i < xs.length := by rw [HN.out]; exact hlt
      obtain ⟨b, off, rfl, hb, q⟩ := HR.out.at_ hlt
      rw [strs_at hix] at q
      have hil : (i : Int) < (n : Int) := by omega
      by_cases he : xs[i] = x
      · have HM := Lib.hid (show decide (x ∈ xs) = true by rw [decide_eq_true_eq, ← he]; exact List.getElem_mem hix)
        rw [he] at q
        clear he
        go_wp2
        go_ret
        exact ⟨by rw [HM.out]; rfl, rfl⟩
      · have HI2 := Lib.hid (show ∀ j (h : j < xs.length), j < i + 1 → ¬ xs[j] = x from fun j h hj => by
          by_cases e : j = i
          · subst e; exact he
          · exact HI.out j h (by omega))
        have hq : (xs[i] == x) = false := by rw [beq_str]; simpa using he
        clear he
        generalize xs[i] = y at *
        go_wp2
        go_round
        case rel => exact ⟨i + 1, by go_num, by omega, HI2⟩
        case measure => simp [intOf]; omega
    · have HM := Lib.hid (show decide (x ∈ xs) = false by
        rw [decide_eq_false_iff_not]
        intro hm
        obtain ⟨j, hj, e⟩ := List.mem_iff_getElem.1 hm
        exact HI.out j hj (by have := HN.out; omega) e)
      go_wp2
      go_ret
      exact ⟨by rw [HM.out]; rfl, rfl⟩

theorem bl_join (s t : ByteArray) : bl (s ++ (⟨#[32]⟩ : ByteArray) ++ t) = bl s ++ 32 :: bl t := by
  show ((s ++ (⟨#[32]⟩ : ByteArray)) ++ t).data.toList = _
  rw [ByteArray.data_append, ByteArray.data_append]
  simp
theorem size_join (s t : ByteArray) : (s ++ (⟨#[32]⟩ : ByteArray) ++ t).size = s.size + 1 + t.size := by
  rw [← bl_len, bl_join]
  simp
  omega

theorem put_len : ∀ (l : List (List UInt8)) (x : List UInt8), (M.put l x).length ≤ l.length + 1 := by
  intro l
  induction l with
  | nil => intro x; simp [M.put]
  | cons y r ih =>
    intro x
    rw [M.put]
    have := ih x
    repeat' split
    all_goals simp only [List.length_cons]; omega
theorem foldl_len (l : List (List UInt8)) : ∀ acc : List (List UInt8), (l.foldl M.put acc).length ≤ acc.length + l.length := by
  induction l with
  | nil => intro acc; simp
  | cons x r ih =>
    intro acc
    rw [List.foldl_cons]
    have h1 := ih (M.put acc x)
    have h2 := put_len acc x
    simp only [List.length_cons]
    omega
theorem raw_len (s : List UInt8) : ∀ (l : List M.W) (p : Option M.W), (M.raw s p l).length ≤ 2 * l.length := by
  intro l
  induction l with
  | nil => intro p; cases p <;> simp [M.raw]
  | cons w r ih =>
    intro p
    have := ih (some w)
    cases p with
    | none => rw [M.raw]; simp only [List.length_cons]; omega
    | some p =>
      rw [M.raw]
      simp only [List.length_cons, List.length_append]
      split <;> simp <;> omega
theorem terms_len (l : List UInt8) : (M.terms l).length ≤ 2 * l.length := by
  have h1 := foldl_len (M.raw l none (M.words l)) []
  have h2 := raw_len l (M.words l) none
  have h3 := M.words_len l 0
  change (M.words l).length ≤ _ at h3
  show (List.foldl M.put [] _).length ≤ _
  simp only [List.length_nil] at h1
  omega

def bothP (xs ys : List (List UInt8)) (z : List UInt8) : Bool := decide (z ∈ xs) && decide (z ∈ ys)
theorem count_step (p : List UInt8 → Bool) (zs : List (List UInt8)) (i : Nat) (h : i < zs.length) : (zs.take (i + 1)).countP p = (zs.take i).countP p + (if p zs[i] then 1 else 0) := by
  rw [List.take_succ_eq_append_getElem h, List.countP_append, List.countP_singleton]
theorem count_le (p : List UInt8 → Bool) (zs : List (List UInt8)) (i : Nat) : (zs.take i).countP p ≤ i := Nat.le_trans List.countP_le_length (by simp; omega)

set_option maxHeartbeats 2000000 in
theorem wordsJoin_any (s t : ByteArray) (w : World) (hs : s.size ≤ 1048576) (ht : t.size ≤ 1048576) (hT : Tabs w) : Calls Tryd.prog 7 #[.string s, .string t] w (SaysB true w) := by
  have HT := Lib.hid hT
  clear hT
  have HMEM := Lib.hid (fun y => (M.mem_join (bl s) (bl t) y).1)
  have HCNT := Lib.hid (M.count_join (bl s) (bl t))
  have HWJ := Lib.hid (M.words_join (bl s) (bl t))
  have hsz := size_join s t
  have HU1 := Lib.hid (fun (W : World) (h : Below w.heap.size w W) => terms_any (s ++ (⟨#[32]⟩ : ByteArray) ++ t) W (by rw [size_join]; omega) (HT.out.below h))
  have HU2 := Lib.hid (fun (W : World) (h : Below w.heap.size w W) => words_any (s ++ (⟨#[32]⟩ : ByteArray) ++ t) W (by rw [size_join]; omega) (HT.out.below h))
  rw [bl_join] at HU1 HU2
  have hz1 : ¬ 9223372036854775807 < s.size + 1 := by omega
  have hz2 : ¬ 9223372036854775807 < s.size + 1 + t.size := by omega
  have HL1 := Lib.hid (show (M.terms (bl s)).length ≤ 4194304 by have := terms_len (bl s); rw [bl_len] at this; omega)
  have HL2 := Lib.hid (show (M.terms (bl t)).length ≤ 4194304 by have := terms_len (bl t); rw [bl_len] at this; omega)
  have HL3 := Lib.hid (M.words_len (bl s) 0)
  have HL4 := Lib.hid (M.words_len (bl t) 0)
  change Hid ((M.words (bl s)).length ≤ _) at HL3
  change Hid ((M.words (bl t)).length ≤ _) at HL4
  rw [bl_len] at HL3 HL4
  go_enter Tryd.func7, Tryd.ntmps7
  go_wp2_with fail
  refine (awake_any w HT.out).mono ?_
  rintro e w1 ⟨rfl, hb1⟩
  have HB1 := Lib.hid hb1
  clear hb1
  go_wp2_with fail
  refine (terms_any s w1 (by omega) (HT.out.below HB1.out)).mono ?_
  rintro e w2 ⟨A2, c2, rfl, hr2, hb2⟩
  have HR2 := Lib.hid hr2
  have HB2 := Lib.hid (HB1.out.trans (hb2.mono HB1.out.size))
  clear hr2 hb2
  go_wp2_with fail
  refine (terms_any t w2 (by omega) (HT.out.below HB2.out)).mono ?_
  rintro e w3 ⟨A3, c3, rfl, hr3, hb3⟩
  have HR23 := Lib.hid (HR2.out.below hb3)
  have HR3 := Lib.hid hr3
  have HB3 := Lib.hid (HB2.out.trans (hb3.mono HB2.out.size))
  have hsz3 := hb3.size
  clear hr3 hb3
  go_wp2_with fail
  refine (HU1.out w3 HB3.out).mono ?_
  rintro e w4 ⟨A4, c4, rfl, hr4, hb4⟩
  have HR24 := Lib.hid (HR23.out.below (hb4.mono hsz3))
  have HR34 := Lib.hid (HR3.out.below hb4)
  have HR4 := Lib.hid hr4
  have HB4 := Lib.hid (HB3.out.trans (hb4.mono HB3.out.size))
  have hsz4 := hb4.size
  clear hr4 hb4
  change Hid ((M.terms (bl s ++ 32 :: bl t)).length + (M.terms (bl s ++ 32 :: bl t)).countP (bothP (M.terms (bl s)) (M.terms (bl t))) = _) at HCNT
  generalize M.terms (bl s ++ 32 :: bl t) = zs at *
  generalize M.terms (bl s) = xs at *
  generalize M.terms (bl t) = ys at *
  obtain ⟨m, hm⟩ : ∃ m, zs.length = m := ⟨_, rfl⟩
  obtain ⟨nx, hnx⟩ : ∃ n, xs.length = n := ⟨_, rfl⟩
  obtain ⟨ny, hny⟩ : ∃ n, ys.length = n := ⟨_, rfl⟩
  rw [hm, hnx, hny] at HCNT
  have HM := Lib.hid hm
  rw [hm] at HR4 ⊢
  rw [hnx] at HR24 HL1 ⊢
  rw [hny] at HR34 HL2 ⊢
  have hc2 := HR24.out.2.1
  have hc3 := HR34.out.2.1
  have hc4 := HR4.out.2.1
  have hm2 := HR24.out.max
  have hm3 := HR34.out.max
  have hm4 := HR4.out.max
  have hl1 := HL1.out
  have hl2 := HL2.out
  have hmm : m ≤ nx + ny := by have := HCNT.out; omega
  clear hm hnx hny
  go_wp2
  go_loopw [8, 9] (fun q p wr => ∃ i k : Nat, p = .int .i64 (i : Int) ∧ q = .int .i64 (k : Int) ∧ i ≤ m ∧ k ≤ i ∧ Hid ((zs.take i).countP (bothP xs ys) = k) ∧ Hid (Below w4.heap.size w4 wr)) (fun _ p _ => m - (intOf p).toNat)
  case atStart => exact ⟨0, 0, rfl, rfl, by omega, by omega, Lib.hid rfl, Lib.hid (Below.refl _ _)⟩
  case round =>
    obtain ⟨i, k, rfl, rfl, him, hki, HK, HB⟩ := hrel
    rename World => wr
    by_cases hlt : i < m
    · have hiz : i < zs.length := by rw [HM.out]; exact hlt
      obtain ⟨g, o, rfl, _, q⟩ := (HR4.out.below HB.out).at_ hlt
      rw [strs_at hiz] at q
      have hil : (i : Int) < (m : Int) := by omega
      have HI1 := Lib.hid (in_any A2 nx c2 _ xs zs[i] wr (HR24.out.below (HB.out.mono (by omega))))
      have HI2 := Lib.hid (in_any A3 ny c3 _ ys zs[i] wr (HR34.out.below (HB.out.mono (by omega))))
      have HME := Lib.hid (HMEM.out zs[i] (List.getElem_mem hiz))
      have HST := Lib.hid (count_step (bothP xs ys) zs i hiz)
      have HBP := Lib.hid (show bothP xs ys zs[i] = (decide (zs[i] ∈ xs) && decide (zs[i] ∈ ys)) from rfl)
      generalize zs[i] = z at *
      obtain ⟨b1, hb1⟩ : ∃ b, decide (z ∈ xs) = b := ⟨_, rfl⟩
      obtain ⟨b2, hb2⟩ : ∃ b, decide (z ∈ ys) = b := ⟨_, rfl⟩
      have HE := Lib.hid (show b1 = true ∨ b2 = true by rw [← hb1, ← hb2]; simpa using HME.out)
      rw [hb1] at HI1 HBP
      rw [hb2] at HI2 HBP
      clear hb1 hb2
      cases b1 <;> cases b2
      · exact absurd HE.out (by simp)
      all_goals
        have HK2 := Lib.hid (show (zs.take (i + 1)).countP (bothP xs ys) = _ by rw [HST.out, HK.out, HBP.out])
        go_wp2_with fail
        refine HI1.out.mono ?_
        rintro e w5 ⟨rfl, rfl⟩
        go_wp2_with fail
        refine HI2.out.mono ?_
        rintro e w6 ⟨rfl, rfl⟩
        go_wp2
        first
          | exact ⟨⟨i + 1, k, by go_num, rfl, by omega, by omega, HK2, HB⟩, by simp [intOf]; omega⟩
          | exact ⟨⟨i + 1, k + 1, by go_num, by go_num, by omega, by omega, HK2, HB⟩, by simp [intOf]; omega⟩
    · have HB0 := Lib.hid (HB4.out.trans (HB.out.mono HB4.out.size))
      have hkk : m + k = nx + ny := by
        have := HCNT.out
        have e : (zs.take i) = zs := List.take_of_length_le (by rw [HM.out]; omega)
        have h2 := HK.out
        rw [e] at h2
        omega
      have hq : ((m : Int) == (nx : Int) + (ny : Int) - (k : Int)) = true := by simp; omega
      clear hkk
      go_wp2_with fail
      refine (ref_words_any s wr (by omega) (HT.out.below HB0.out)).mono ?_
      rintro e w5 ⟨v5, rfl, hr5, hb5⟩
      obtain ⟨A5, c5, rfl, hc5, hcm5⟩ := hr5.form
      have HB5 := Lib.hid (HB0.out.trans (hb5.mono HB0.out.size))
      clear hr5 hb5
      have hlw1 := HL3.out
      have hlw2 := HL4.out
      have HWJ2 := Lib.hid HWJ.out
      generalize hw1 : (M.words (bl s)).length = n1 at *
      generalize hw2 : (M.words (bl t)).length = n2 at *
      go_wp2_with fail
      refine (ref_words_any t w5 (by omega) (HT.out.below HB5.out)).mono ?_
      rintro e w6 ⟨v6, rfl, hr6, hb6⟩
      obtain ⟨A6, c6, rfl, hc6, hcm6⟩ := hr6.form
      have HB6 := Lib.hid (HB5.out.trans (hb6.mono HB5.out.size))
      rw [hw2] at hc6 ⊢
      clear hr6 hb6
      go_wp2_with fail
      refine (HU2.out w6 HB6.out).mono ?_
      rintro e w7 ⟨v7, rfl, hr7, hb7⟩
      obtain ⟨A7, c7, rfl, hc7, hcm7⟩ := hr7.form
      have HB7 := Lib.hid (HB6.out.trans (hb7.mono HB6.out.size))
      rw [HWJ2.out] at hc7 ⊢
      clear hr7 hb7 hw1 hw2
      go_wp2
      go_ret
      exact ⟨rfl, HB7.out⟩
end Go.Proofs.YtbhoaajpkckihaaDoor
