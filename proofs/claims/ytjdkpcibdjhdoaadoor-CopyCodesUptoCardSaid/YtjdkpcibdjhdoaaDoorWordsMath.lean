/-
  What stands in a text, as plain mathematics: letters, words, pairs, terms. Own work; no program in it.
-/
import Derived.Lib.DecodeN
import Derived.Lib.SlicesCompact
namespace Go.Proofs.YtjdkpcibdjhdoaaDoor.M
open Go
def wideN (n b0 b1 b2 b3 : Nat) : Nat :=
  if 194 ≤ b0 ∧ b0 < 224 ∧ 1 < n ∧ 128 ≤ b1 ∧ b1 < 192 then 2
  else if 224 ≤ b0 ∧ b0 < 240 ∧ 2 < n ∧ 128 ≤ b1 ∧ b1 < 192 ∧ 128 ≤ b2 ∧ b2 < 192 ∧ (b0 ≠ 224 ∨ 160 ≤ b1) ∧ (b0 ≠ 237 ∨ b1 < 160) then 3
  else if 240 ≤ b0 ∧ b0 < 245 ∧ 3 < n ∧ 128 ≤ b1 ∧ b1 < 192 ∧ 128 ≤ b2 ∧ b2 < 192 ∧ 128 ≤ b3 ∧ b3 < 192 ∧ (b0 ≠ 240 ∨ 144 ≤ b1) ∧ (b0 ≠ 244 ∨ b1 < 144) then 4 else 1

set_option maxHeartbeats 4000000 in
theorem decodeN_wide {n b0 b1 b2 b3 : Nat} (h0 : b0 < 256) (h1 : b1 < 256) (h2 : b2 < 256) (h3 : b3 < 256) : (Lib.decodeN n b0 b1 b2 b3).2 = wideN n b0 b1 b2 b3 := by
  unfold Lib.decodeN wideN
  repeat' split
  all_goals first | rfl | (exfalso; omega)
set_option maxHeartbeats 4000000 in
theorem decodeN_err {n b0 b1 b2 b3 : Nat} (h128 : ¬ b0 < 128) : ((Lib.decodeN n b0 b1 b2 b3).1 = 65533 ∧ (Lib.decodeN n b0 b1 b2 b3).2 < 3) ↔ (Lib.decodeN n b0 b1 b2 b3).2 = 1 := by
  unfold Lib.decodeN
  repeat' split
  all_goals simp
  all_goals omega
theorem wideN_pos (n b0 b1 b2 b3 : Nat) : 1 ≤ wideN n b0 b1 b2 b3 ∧ wideN n b0 b1 b2 b3 ≤ 4 ∧ (1 < wideN n b0 b1 b2 b3 → wideN n b0 b1 b2 b3 ≤ n) := by
  unfold wideN
  repeat' split
  all_goals omega
theorem wideN_same {n n' b0 b1 b2 b3 c1 c2 c3 k : Nat} (hk : wideN n b0 b1 b2 b3 = k) (h : 1 < k) (hn : k ≤ n')
    (h1 : c1 = b1) (h2 : 2 < k → c2 = b2) (h3 : 3 < k → c3 = b3) : wideN n' b0 c1 c2 c3 = k := by
  unfold wideN at hk
  repeat' split at hk
  all_goals (unfold wideN; repeat' split)
  all_goals omega
theorem ite_c {c d : Prop} [Decidable c] [Decidable d] {a b e f : Nat} (h : c ↔ d) (h1 : a = e) (h2 : b = f) : (if c then a else b) = if d then e else f := by
  by_cases hc : c
  · rw [if_pos hc, if_pos (h.1 hc), h1]
  · rw [if_neg hc, if_neg (fun hd => hc (h.2 hd)), h2]
theorem wideN_turn {n b0 b1 b2 b3 c1 c2 c3 : Nat} (h1 : c1 = b1 ∨ (c1 < 128 ∧ b1 < 128)) (h2 : c2 = b2 ∨ (c2 < 128 ∧ b2 < 128)) (h3 : c3 = b3 ∨ (c3 < 128 ∧ b3 < 128)) : wideN n b0 c1 c2 c3 = wideN n b0 b1 b2 b3 := by
  unfold wideN
  exact ite_c (by omega) rfl (ite_c (by omega) rfl (ite_c (by omega) rfl rfl))
theorem wideN_blank {n n' b0 b1 b2 b3 c1 c2 c3 : Nat} (hn : 1 ≤ n) (hn' : n < n') (h1 : 1 < n → c1 = b1) (g1 : n = 1 → c1 = 32) (h2 : 2 < n → c2 = b2) (g2 : n = 2 → c2 = 32) (h3 : 3 < n → c3 = b3) (g3 : n = 3 → c3 = 32) : wideN n' b0 c1 c2 c3 = wideN n b0 b1 b2 b3 := by
  unfold wideN
  have cases : n = 1 ∨ n = 2 ∨ n = 3 ∨ 3 < n := by omega
  rcases cases with h | h | h | h
  · have := g1 h
    rw [if_neg (by omega), if_neg (by omega), if_neg (by omega), if_neg (by omega), if_neg (by omega), if_neg (by omega)]
  · have := g2 h
    have := h1 (by omega)
    exact ite_c (by omega) rfl (by rw [if_neg (by omega), if_neg (by omega), if_neg (by omega), if_neg (by omega)])
  · have := g3 h
    have := h1 (by omega)
    have := h2 (by omega)
    subst c1 c2
    exact ite_c (by omega) rfl (ite_c (by omega) rfl (by rw [if_neg (by omega), if_neg (by omega)]))
  · have := h1 (by omega)
    have := h2 (by omega)
    have := h3 (by omega)
    subst c1 c2 c3
    exact ite_c (by omega) rfl (ite_c (by omega) rfl (ite_c (by omega) rfl rfl))

/-! ### letters -/
def isAN (c : UInt8) : Bool := decide (97 ≤ c.toNat ∧ c.toNat ≤ 122) || decide (65 ≤ c.toNat ∧ c.toNat ≤ 90) || decide (48 ≤ c.toNat ∧ c.toNat ≤ 57)
def byteAt (l : List UInt8) (i : Nat) : Nat := (l[i]?.getD 0).toNat
def wide (l : List UInt8) : Nat := (Lib.decodeN l.length (byteAt l 0) (byteAt l 1) (byteAt l 2) (byteAt l 3)).2
theorem byteAt_lt (l : List UInt8) (i : Nat) : byteAt l i < 256 := UInt8.toNat_lt _
theorem wide_eq (l : List UInt8) : wide l = wideN l.length (byteAt l 0) (byteAt l 1) (byteAt l 2) (byteAt l 3) := decodeN_wide (byteAt_lt _ _) (byteAt_lt _ _) (byteAt_lt _ _) (byteAt_lt _ _)

/-- how many bytes the letter at the front has; 0: none -/
def lead (l : List UInt8) : Nat := if l = [] then 0 else if isAN (l[0]?.getD 0) then 1 else if byteAt l 0 < 128 then 0 else if 1 < wide l then wide l else 0

theorem lead_nil : lead [] = 0 := rfl
theorem lead_le (l : List UInt8) : lead l ≤ l.length := by
  unfold lead
  by_cases h : l = []
  · rw [if_pos h]; omega
  · rw [if_neg h]
    have h0 : 0 < l.length := List.length_pos_iff.2 h
    have hw := wideN_pos l.length (byteAt l 0) (byteAt l 1) (byteAt l 2) (byteAt l 3)
    rw [← wide_eq] at hw
    repeat' split
    all_goals omega
theorem lead_le4 (l : List UInt8) : lead l ≤ 4 := by
  unfold lead
  have hw := wideN_pos l.length (byteAt l 0) (byteAt l 1) (byteAt l 2) (byteAt l 3)
  rw [← wide_eq] at hw
  repeat' split
  all_goals omega

theorem get_pre {l r : List UInt8} {n i : Nat} (hi : i < n) (hn : n ≤ l.length) : (l.take n ++ r)[i]? = l[i]? := by
  rw [List.getElem?_append_left (by simp; omega), List.getElem?_take, if_pos hi]

/-- a letter is one whatever stands behind it -/
theorem lead_pre (l r : List UInt8) (h : 0 < lead l) : lead (l.take (lead l) ++ r) = lead l := by
  have hle := lead_le l
  have hne : l ≠ [] := by intro e; rw [e, lead_nil] at h; omega
  obtain ⟨n, hn⟩ : ∃ n, lead l = n := ⟨_, rfl⟩
  rw [hn] at h hle ⊢
  have hne2 : l.take n ++ r ≠ [] := by
    intro e
    have := congrArg List.length e
    simp at this
    rcases this.1 with h' | h'
    · omega
    · exact hne h'
  have hz : (l.take n ++ r)[0]? = l[0]? := get_pre h hle
  have hb0 : byteAt (l.take n ++ r) 0 = byteAt l 0 := by unfold byteAt; rw [hz]
  unfold lead at hn ⊢
  rw [if_neg hne] at hn
  rw [if_neg hne2, hz, hb0]
  by_cases ha : isAN (l[0]?.getD 0)
  · rw [if_pos ha] at hn ⊢; exact hn
  · rw [if_neg ha] at hn ⊢
    by_cases h128 : byteAt l 0 < 128
    · rw [if_pos h128] at hn; omega
    · rw [if_neg h128] at hn ⊢
      by_cases hw : 1 < wide l
      · rw [if_pos hw] at hn
        have e : wide (l.take n ++ r) = n := by
          rw [wide_eq] at hn ⊢
          rw [hb0]
          refine wideN_same hn (by rw [wide_eq] at hw; omega) (by simp; omega) ?_ ?_ ?_
          · unfold byteAt; rw [get_pre (by rw [wide_eq] at hw; omega) hle]
          · intro h2; unfold byteAt; rw [get_pre h2 hle]
          · intro h3; unfold byteAt; rw [get_pre h3 hle]
        rw [e, if_pos (by omega)]
      · rw [if_neg hw] at hn; omega

/-- a turn of letters' case, byte by byte -/
structure Caseish (f : UInt8 → UInt8) : Prop where
  an : ∀ c, isAN (f c) = isAN c
  high : ∀ c, 128 ≤ c.toNat → f c = c
  lowl : ∀ c, c.toNat < 128 → (f c).toNat < 128
theorem Caseish.byte {f : UInt8 → UInt8} (h : Caseish f) (l : List UInt8) (i : Nat) : byteAt (l.map f) i = byteAt l i ∨ (byteAt (l.map f) i < 128 ∧ byteAt l i < 128) := by
  unfold byteAt
  rw [List.getElem?_map]
  cases hx : l[i]? with
  | none => left; rfl
  | some c =>
    simp only [Option.map_some, Option.getD_some]
    by_cases hc : c.toNat < 128
    · exact .inr ⟨h.lowl c hc, hc⟩
    · rw [h.high c (by omega)]; exact .inl rfl
theorem lead_turn {f : UInt8 → UInt8} (h : Caseish f) (l : List UInt8) : lead (l.map f) = lead l := by
  unfold lead
  by_cases hne : l = []
  · subst hne; rfl
  · have h0 : 0 < l.length := List.length_pos_iff.2 hne
    have e0 : l[0]? = some l[0] := List.getElem?_eq_getElem h0
    have hc : isAN ((l.map f)[0]?.getD 0) = isAN (l[0]?.getD 0) := by rw [List.getElem?_map, e0]; simp [h.an]
    have hne2 : l.map f ≠ [] := by simpa using hne
    rw [if_neg hne, if_neg hne2, hc]
    by_cases ha : isAN (l[0]?.getD 0)
    · rw [if_pos ha, if_pos ha]
    · rw [if_neg ha, if_neg ha]
      have hb := h.byte l 0
      by_cases h128 : byteAt l 0 < 128
      · rw [if_pos h128, if_pos (by omega)]
      · have hb0 : byteAt (l.map f) 0 = byteAt l 0 := by omega
        have e : wide (l.map f) = wide l := by
          rw [wide_eq, wide_eq, List.length_map, hb0]
          exact wideN_turn (h.byte l 1) (h.byte l 2) (h.byte l 3)
        rw [hb0, e]
/-- a blank behind a text is of no letter of it -/
theorem lead_blank (l t : List UInt8) : lead (l ++ 32 :: t) = lead l := by
  by_cases hne : l = []
  · subst hne
    rw [List.nil_append]
    unfold lead byteAt
    simp [isAN]
  · have h0 : 0 < l.length := List.length_pos_iff.2 hne
    have hget : ∀ i, i < l.length → byteAt (l ++ 32 :: t) i = byteAt l i := fun i hi => by unfold byteAt; rw [List.getElem?_append_left hi]
    have hat : ∀ i, l.length = i → byteAt (l ++ 32 :: t) i = 32 := fun i hi => by subst hi; unfold byteAt; simp
    have hz : (l ++ 32 :: t)[0]? = l[0]? := List.getElem?_append_left h0
    unfold lead
    rw [if_neg hne, if_neg (by simp), hz, hget 0 h0]
    have e : wide (l ++ 32 :: t) = wide l := by
      rw [wide_eq, wide_eq, hget 0 h0]
      exact wideN_blank h0 (by simp) (hget 1) (hat 1) (hget 2) (hat 2) (hget 3) (hat 3)
    rw [e]

/-! ### one word -/
def runF : Nat → Nat → List UInt8 → Nat
  | 0, _, _ => 0
  | f + 1, room, l => if lead l = 0 ∨ room < lead l then 0 else lead l + runF f (room - lead l) (l.drop (lead l))
/-- how many bytes of at most so many the word at the front has -/
def run (room : Nat) (l : List UInt8) : Nat := runF room room l
theorem runF_more : ∀ (f g room : Nat) (l : List UInt8), room ≤ f → room ≤ g → runF f room l = runF g room l := by
  intro f
  induction f with
  | zero =>
    intro g room l h _
    obtain rfl : room = 0 := by omega
    cases g with
    | zero => rfl
    | succ g => rw [runF, runF, if_pos (by omega)]
  | succ f ih =>
    intro g room l h hg
    cases g with
    | zero =>
      obtain rfl : room = 0 := by omega
      rw [runF, runF, if_pos (by omega)]
    | succ g =>
      rw [runF, runF]
      by_cases hc : lead l = 0 ∨ room < lead l
      · rw [if_pos hc, if_pos hc]
      · rw [if_neg hc, if_neg hc, ih g _ _ (by omega) (by omega)]
theorem run_none {room : Nat} {l : List UInt8} (h : lead l = 0 ∨ room < lead l) : run room l = 0 := by
  unfold run
  cases room with
  | zero => rfl
  | succ r => rw [runF, if_pos h]
theorem run_some {room : Nat} {l : List UInt8} (h : ¬ (lead l = 0 ∨ room < lead l)) : run room l = lead l + run (room - lead l) (l.drop (lead l)) := by
  unfold run
  cases room with
  | zero => omega
  | succ r => rw [runF, if_neg h, runF_more r (r + 1 - lead l) _ _ (by omega) (by omega)]
theorem run_le : ∀ (room : Nat) (l : List UInt8), run room l ≤ room ∧ run room l ≤ l.length := by
  intro room
  induction room using Nat.strongRecOn with
  | ind room ih =>
    intro l
    by_cases h : lead l = 0 ∨ room < lead l
    · rw [run_none h]; omega
    · rw [run_some h]
      have := ih (room - lead l) (by omega) (l.drop (lead l))
      have h2 := lead_le l
      rw [List.length_drop] at this
      omega
/-- the word at the front, and whatever stands behind it -/
theorem run_pre : ∀ (room : Nat) (l r : List UInt8), run room (l.take (run room l) ++ r) = run room l + run (room - run room l) r := by
  intro room
  induction room using Nat.strongRecOn with
  | ind room ih =>
    intro l r
    by_cases h : lead l = 0 ∨ room < lead l
    · rw [run_none h]; simp
    · have e := run_some h
      obtain ⟨n, hn⟩ : ∃ n, lead l = n := ⟨_, rfl⟩
      rw [hn] at e h
      obtain ⟨k, hk⟩ : ∃ k, run (room - n) (l.drop n) = k := ⟨_, rfl⟩
      have hle := lead_le l
      rw [hn] at hle
      have et : l.take (n + k) ++ r = l.take n ++ ((l.drop n).take k ++ r) := by
        rw [List.take_add, List.append_assoc]
      have h1 : lead (l.take n ++ ((l.drop n).take k ++ r)) = n := by
        have := lead_pre l ((l.drop n).take k ++ r) (by omega)
        rwa [hn] at this
      rw [e, hk, et, run_some (by rw [h1]; exact h), h1]
      have ed : (l.take n ++ ((l.drop n).take k ++ r)).drop n = (l.drop n).take k ++ r := by
        rw [List.drop_append_of_le_length (by simp; omega)]
        simp
      have := ih (room - n) (by omega) (l.drop n) r
      rw [hk] at this
      rw [ed, this]
      have : room - n - k = room - (n + k) := by omega
      rw [this]; omega
theorem run_turn {f : UInt8 → UInt8} (h : Caseish f) : ∀ (room : Nat) (l : List UInt8), run room (l.map f) = run room l := by
  intro room
  induction room using Nat.strongRecOn with
  | ind room ih =>
    intro l
    have e := lead_turn h l
    by_cases hc : lead l = 0 ∨ room < lead l
    · rw [run_none hc, run_none (by rw [e]; exact hc)]
    · rw [run_some hc, run_some (by rw [e]; exact hc), e, ← List.map_drop, ih _ (by omega)]
theorem run_blank : ∀ (room : Nat) (l t : List UInt8), run room (l ++ 32 :: t) = run room l := by
  intro room
  induction room using Nat.strongRecOn with
  | ind room ih =>
    intro l t
    have e := lead_blank l t
    by_cases hc : lead l = 0 ∨ room < lead l
    · rw [run_none hc, run_none (by rw [e]; exact hc)]
    · have hl := lead_le l
      rw [run_some hc, run_some (by rw [e]; exact hc), e, List.drop_append_of_le_length hl, ih _ (by omega)]

/-! ### the words -/
def low (c : UInt8) : UInt8 := if 65 ≤ c.toNat ∧ c.toNat ≤ 90 then c + 32 else c
def high (c : UInt8) : UInt8 := if 97 ≤ c.toNat ∧ c.toNat ≤ 122 then c - 32 else c
theorem low_fin : ∀ i : Fin 256, (isAN (low (UInt8.ofNat i.val)) = isAN (UInt8.ofNat i.val) ∧ (128 ≤ (UInt8.ofNat i.val).toNat → low (UInt8.ofNat i.val) = UInt8.ofNat i.val) ∧ ((UInt8.ofNat i.val).toNat < 128 → (low (UInt8.ofNat i.val)).toNat < 128)) ∧ low (low (UInt8.ofNat i.val)) = low (UInt8.ofNat i.val) ∧ (low (UInt8.ofNat i.val) = 61 ↔ UInt8.ofNat i.val = 61) := by decide +kernel
theorem high_fin : ∀ i : Fin 256, (isAN (high (UInt8.ofNat i.val)) = isAN (UInt8.ofNat i.val) ∧ (128 ≤ (UInt8.ofNat i.val).toNat → high (UInt8.ofNat i.val) = UInt8.ofNat i.val) ∧ ((UInt8.ofNat i.val).toNat < 128 → (high (UInt8.ofNat i.val)).toNat < 128)) ∧ low (high (UInt8.ofNat i.val)) = low (UInt8.ofNat i.val) ∧ (high (UInt8.ofNat i.val) = 61 ↔ UInt8.ofNat i.val = 61) := by decide +kernel
theorem low_is : ∀ c : UInt8, (isAN (low c) = isAN c ∧ (128 ≤ c.toNat → low c = c) ∧ (c.toNat < 128 → (low c).toNat < 128)) ∧ low (low c) = low c ∧ (low c = 61 ↔ c = 61) := fun c => by
  have := low_fin ⟨c.toNat, c.toNat_lt⟩
  simpa only [UInt8.ofNat_toNat] using this
theorem high_is : ∀ c : UInt8, (isAN (high c) = isAN c ∧ (128 ≤ c.toNat → high c = c) ∧ (c.toNat < 128 → (high c).toNat < 128)) ∧ low (high c) = low c ∧ (high c = 61 ↔ c = 61) := fun c => by
  have := high_fin ⟨c.toNat, c.toNat_lt⟩
  simpa only [UInt8.ofNat_toNat] using this
theorem low_case : Caseish low := ⟨fun c => (low_is c).1.1, fun c => (low_is c).1.2.1, fun c => (low_is c).1.2.2⟩
theorem high_case : Caseish high := ⟨fun c => (high_is c).1.1, fun c => (high_is c).1.2.1, fun c => (high_is c).1.2.2⟩

structure W where
  text : List UInt8
  a : Nat
  z : Nat
deriving DecidableEq

def wordsF : Nat → Nat → List UInt8 → List W
  | 0, _, _ => []
  | f + 1, a, l => if l = [] then [] else if run 32 l = 0 then wordsF f (a + 1) (l.drop 1) else ⟨(l.take (run 32 l)).map low, a, a + run 32 l⟩ :: wordsF f (a + run 32 l) (l.drop (run 32 l))
def wordsAt (a : Nat) (l : List UInt8) : List W := wordsF l.length a l
def words (l : List UInt8) : List W := wordsAt 0 l

theorem wordsF_more : ∀ (f g a : Nat) (l : List UInt8), l.length ≤ f → l.length ≤ g → wordsF f a l = wordsF g a l := by
  intro f
  induction f with
  | zero =>
    intro g a l h _
    obtain rfl : l = [] := List.eq_nil_of_length_eq_zero (by omega)
    cases g with
    | zero => rfl
    | succ g => rw [wordsF, wordsF, if_pos rfl]
  | succ f ih =>
    intro g a l h hg
    cases g with
    | zero =>
      obtain rfl : l = [] := List.eq_nil_of_length_eq_zero (by omega)
      rw [wordsF, wordsF, if_pos rfl]
    | succ g =>
      rw [wordsF, wordsF]
      by_cases hl : l = []
      · rw [if_pos hl, if_pos hl]
      · have : 0 < l.length := List.length_pos_iff.2 hl
        rw [if_neg hl, if_neg hl]
        by_cases hr : run 32 l = 0
        · rw [if_pos hr, if_pos hr, ih g _ _ (by simp; omega) (by simp; omega)]
        · rw [if_neg hr, if_neg hr, ih g _ _ (by simp; omega) (by simp; omega)]
theorem wordsAt_nil (a : Nat) : wordsAt a [] = [] := rfl
theorem wordsAt_skip {a : Nat} {l : List UInt8} (hl : l ≠ []) (hr : run 32 l = 0) : wordsAt a l = wordsAt (a + 1) (l.drop 1) := by
  have : 0 < l.length := List.length_pos_iff.2 hl
  unfold wordsAt
  rw [wordsF_more l.length (l.length + 1) a l (by omega) (by omega), wordsF, if_neg hl, if_pos hr]
  exact wordsF_more _ _ _ _ (by simp) (by simp)
theorem wordsAt_word {a : Nat} {l : List UInt8} (hr : run 32 l ≠ 0) : wordsAt a l = ⟨(l.take (run 32 l)).map low, a, a + run 32 l⟩ :: wordsAt (a + run 32 l) (l.drop (run 32 l)) := by
  have hl : l ≠ [] := by
    intro e
    rw [e] at hr
    have := (run_le 32 []).2
    simp at this
    exact hr this
  unfold wordsAt
  rw [wordsF_more l.length (l.length + 1) a l (by omega) (by omega), wordsF, if_neg hl, if_neg hr]
  congr 1
  exact wordsF_more _ _ _ _ (by simp) (by simp)

theorem list_ind {P : List UInt8 → Prop} (h : ∀ l, (∀ m, m.length < l.length → P m) → P l) (l : List UInt8) : P l := by
  generalize hn : l.length = n
  induction n using Nat.strongRecOn generalizing l with
  | ind n ih => exact h l fun m hm => ih m.length (by omega) m rfl

/-- a text is one word, small letters all -/
def IsWord (x : List UInt8) : Prop := x ≠ [] ∧ run 32 x = x.length ∧ x.map low = x
theorem IsWord.le {x : List UInt8} (h : IsWord x) : x.length ≤ 32 := by have := (run_le 32 x).1; rw [h.2.1] at this; exact this
theorem run_isWord {l : List UInt8} (hr : run 32 l ≠ 0) : IsWord ((l.take (run 32 l)).map low) := by
  have hle := (run_le 32 l).2
  refine ⟨?_, ?_, ?_⟩
  · intro e
    have := congrArg List.length e
    simp at this
    rcases this with h | h
    · exact hr h
    · subst h
      exact hr (by have := (run_le 32 []).2; simpa using this)
  · have := run_pre 32 l []
    rw [List.append_nil] at this
    rw [run_turn low_case, this, run_none (.inl lead_nil)]
    simp
    omega
  · rw [List.map_map]
    exact List.map_congr_left fun c _ => (low_is c).2.1
/-- the words of a text: each is a word by itself, lies within it, in order -/
theorem words_all : ∀ (l : List UInt8) (a : Nat), ∀ w ∈ wordsAt a l, IsWord w.text ∧ a ≤ w.a ∧ w.z = w.a + w.text.length ∧ w.z ≤ a + l.length := by
  intro l
  induction l using list_ind with
  | h l ih =>
    intro a w hw
    by_cases hl : l = []
    · rw [hl, wordsAt_nil] at hw; cases hw
    · have hpos : 0 < l.length := List.length_pos_iff.2 hl
      by_cases hr : run 32 l = 0
      · rw [wordsAt_skip hl hr] at hw
        have := ih (l.drop 1) (by simp; omega) (a + 1) w hw
        simp only [List.length_drop] at this
        exact ⟨this.1, by omega, this.2.2.1, by omega⟩
      · rw [wordsAt_word hr] at hw
        have hle := (run_le 32 l).2
        rcases List.mem_cons.1 hw with rfl | hw
        · refine ⟨run_isWord hr, Nat.le_refl _, ?_, ?_⟩
          · simp; omega
          · simp only; omega
        · have := ih (l.drop (run 32 l)) (by simp; omega) (a + run 32 l) w hw
          simp only [List.length_drop] at this
          exact ⟨this.1, by omega, this.2.2.1, by omega⟩
theorem words_len : ∀ (l : List UInt8) (a : Nat), (wordsAt a l).length ≤ l.length := by
  intro l
  induction l using list_ind with
  | h l ih =>
    intro a
    by_cases hl : l = []
    · rw [hl, wordsAt_nil]; simp
    · have hpos : 0 < l.length := List.length_pos_iff.2 hl
      by_cases hr : run 32 l = 0
      · rw [wordsAt_skip hl hr]
        have := ih (l.drop 1) (by simp; omega) (a + 1)
        simp only [List.length_drop] at this
        omega
      · rw [wordsAt_word hr]
        have := ih (l.drop (run 32 l)) (by simp; omega) (a + run 32 l)
        simp only [List.length_drop] at this
        simp only [List.length_cons]
        omega
theorem words_order : ∀ (l : List UInt8) (a : Nat) (j : Nat) (h : j + 1 < (wordsAt a l).length), (wordsAt a l)[j].z ≤ (wordsAt a l)[j + 1].a := by
  intro l
  induction l using list_ind with
  | h l ih =>
    intro a j h
    by_cases hl : l = []
    · subst hl
      have : (wordsAt a []).length = 0 := rfl
      omega
    · have hpos : 0 < l.length := List.length_pos_iff.2 hl
      by_cases hr : run 32 l = 0
      · have e := wordsAt_skip (a := a) hl hr
        simp only [e] at h ⊢
        exact ih (l.drop 1) (by simp; omega) (a + 1) j h
      · have e := wordsAt_word (a := a) hr
        simp only [e] at h ⊢
        cases j with
        | zero =>
          simp only [List.getElem_cons_zero, List.getElem_cons_succ]
          exact (words_all _ _ _ (List.getElem_mem _)).2.1
        | succ j =>
          simp only [List.getElem_cons_succ]
          exact ih (l.drop (run 32 l)) (by simp; omega) _ j (by simpa using h)
/-- a word, and behind it what is no letter -/
theorem words_cons {x r : List UInt8} {a : Nat} (h : IsWord x) (hr : lead r = 0) : wordsAt a (x ++ r) = ⟨x, a, a + x.length⟩ :: wordsAt (a + x.length) r := by
  have e := run_pre 32 x r
  rw [h.2.1, List.take_length, run_none (.inl hr), Nat.add_zero] at e
  have hx : x.length ≠ 0 := fun e => h.1 (List.eq_nil_of_length_eq_zero e)
  rw [wordsAt_word (by rw [e]; exact hx), e]
  simp [h.2.2]
theorem words_one {x : List UInt8} (h : IsWord x) : words x = [⟨x, 0, x.length⟩] := by
  have := words_cons (a := 0) h lead_nil
  rw [List.append_nil] at this
  unfold words
  rw [this, wordsAt_nil, Nat.zero_add]
theorem lead_sign {c : UInt8} {r : List UInt8} (h1 : isAN c = false) (h2 : c.toNat < 128) : lead (c :: r) = 0 := by
  unfold lead byteAt
  simp [h1, h2]
theorem words_sign {c : UInt8} {r : List UInt8} {a : Nat} (h1 : isAN c = false) (h2 : c.toNat < 128) : wordsAt a (c :: r) = wordsAt (a + 1) r := by
  rw [wordsAt_skip (by simp) (run_none (.inl (lead_sign h1 h2)))]
  rfl
theorem words_two {x y : List UInt8} (hx : IsWord x) (hy : IsWord y) : words (x ++ 61 :: y) = [⟨x, 0, x.length⟩, ⟨y, x.length + 1, x.length + 1 + y.length⟩] := by
  unfold words
  rw [words_cons hx (lead_sign (by decide) (by decide)), words_sign (by decide) (by decide)]
  have := words_cons (a := 0 + x.length + 1) hy lead_nil
  rw [List.append_nil] at this
  rw [this, wordsAt_nil, Nat.zero_add]
/-- words, each with a blank behind it -/
def laid (xs : List (List UInt8)) : List UInt8 := (xs.map (· ++ [32])).flatten
theorem words_laid : ∀ (xs : List (List UInt8)) (a : Nat), (∀ x ∈ xs, IsWord x) → (wordsAt a (laid xs)).map W.text = xs := by
  intro xs
  induction xs with
  | nil => intro a _; rfl
  | cons x xs ih =>
    intro a h
    have e : laid (x :: xs) = x ++ 32 :: laid xs := by simp [laid]
    rw [e, words_cons (h x (by simp)) (lead_sign (by decide) (by decide)), words_sign (by decide) (by decide), List.map_cons, ih _ (fun y hy => h y (by simp [hy]))]
theorem words_turn {f : UInt8 → UInt8} (h : Caseish f) (hf : ∀ c, low (f c) = low c) : ∀ (l : List UInt8) (a : Nat), wordsAt a (l.map f) = wordsAt a l := by
  intro l
  induction l using list_ind with
  | h l ih =>
    intro a
    by_cases hl : l = []
    · rw [hl]; rfl
    · have hpos : 0 < l.length := List.length_pos_iff.2 hl
      have e := run_turn h 32 l
      by_cases hr : run 32 l = 0
      · rw [wordsAt_skip hl hr, wordsAt_skip (by simpa using hl) (by rw [e]; exact hr), ← List.map_drop, ih _ (by simp; omega)]
      · rw [wordsAt_word hr, wordsAt_word (by rw [e]; exact hr), e, ← List.map_drop, ih _ (by simp; omega), ← List.map_take, List.map_map]
        congr 2
        exact List.map_congr_left fun c _ => hf c
theorem words_blank (t : List UInt8) : ∀ (l : List UInt8) (a : Nat), wordsAt a (l ++ 32 :: t) = wordsAt a l ++ wordsAt (a + l.length + 1) t := by
  intro l
  induction l using list_ind with
  | h l ih =>
    intro a
    by_cases hl : l = []
    · subst hl
      rw [List.nil_append, words_sign (by decide) (by decide), wordsAt_nil, List.nil_append]
      rfl
    · have hpos : 0 < l.length := List.length_pos_iff.2 hl
      have e := run_blank 32 l t
      by_cases hr : run 32 l = 0
      · rw [wordsAt_skip hl hr, wordsAt_skip (by simp) (by rw [e]; exact hr), List.drop_append_of_le_length (by omega), ih _ (by simp; omega)]
        have : a + 1 + (l.drop 1).length + 1 = a + l.length + 1 := by simp; omega
        rw [this]
      · have hle := (run_le 32 l).2
        rw [wordsAt_word hr, wordsAt_word (by rw [e]; exact hr), e, List.drop_append_of_le_length hle, List.take_append_of_le_length hle, ih _ (by simp; omega)]
        have : a + run 32 l + (l.drop (run 32 l)).length + 1 = a + l.length + 1 := by simp; omega
        rw [this]
        rfl
theorem words_shift : ∀ (l : List UInt8) (a b : Nat), wordsAt (a + b) l = (wordsAt a l).map fun w => ⟨w.text, w.a + b, w.z + b⟩ := by
  intro l
  induction l using list_ind with
  | h l ih =>
    intro a b
    by_cases hl : l = []
    · rw [hl]; rfl
    · have hpos : 0 < l.length := List.length_pos_iff.2 hl
      by_cases hr : run 32 l = 0
      · rw [wordsAt_skip hl hr, wordsAt_skip hl hr, ← ih _ (by simp; omega)]
        congr 1; omega
      · rw [wordsAt_word hr, wordsAt_word hr, List.map_cons, ← ih _ (by simp; omega)]
        have : a + b + run 32 l = a + run 32 l + b := by omega
        rw [this]

/-! ### terms -/
abbrev T := List UInt8
/-- two words, one behind the other, with just = between -/
def paired (s : List UInt8) (p w : W) : Bool := decide ((s.take w.a).drop p.z = [61])
/-- the texts of the words and of the pairs, as they stand -/
def raw (s : List UInt8) : Option W → List W → List T
  | _, [] => []
  | none, w :: r => w.text :: raw s (some w) r
  | some p, w :: r => w.text :: ((if paired s p w then [p.text ++ 61 :: w.text] else []) ++ raw s (some w) r)
/-- a text among others, rising, each once -/
def put : List T → T → List T
  | [], x => [x]
  | y :: r, x => if y < x then y :: put r x else if y = x then y :: r else x :: y :: r
def gather (l : List T) : List T := l.foldl put []
def terms (s : List UInt8) : List T := gather (raw s none (words s))

/-! #### rising lists -/
def Rising (l : List T) : Prop := l.Pairwise (· < ·)
theorem lt_irr (x : T) : ¬ x < x := List.lt_irrefl x
theorem lt_tr {x y z : T} (h : x < y) (g : y < z) : x < z := List.lt_trans h g
theorem lt_tot {x y : T} (h : ¬ x < y) (g : ¬ x = y) : y < x := by
  by_cases h' : y < x
  · exact h'
  · exact absurd (List.le_antisymm (List.not_lt.1 h') (List.not_lt.1 h)) g
theorem mem_put : ∀ (l : List T) (x y : T), y ∈ put l x ↔ y = x ∨ y ∈ l := by
  intro l
  induction l with
  | nil => intro x y; simp [put]
  | cons z r ih =>
    intro x y
    rw [put]
    by_cases h1 : z < x
    · rw [if_pos h1]
      simp only [List.mem_cons, ih]
      constructor
      · rintro (h | h | h) <;> simp [h]
      · rintro (h | h | h) <;> simp [h]
    · rw [if_neg h1]
      by_cases h2 : z = x
      · rw [if_pos h2]
        subst h2
        simp
      · rw [if_neg h2]
        simp
theorem put_rising : ∀ (l : List T) (x : T), Rising l → Rising (put l x) := by
  intro l
  induction l with
  | nil => intro x _; simp [put, Rising]
  | cons z r ih =>
    intro x h
    rw [Rising, List.pairwise_cons] at h
    rw [put]
    by_cases h1 : z < x
    · rw [if_pos h1, Rising, List.pairwise_cons]
      refine ⟨fun y hy => ?_, ih x h.2⟩
      rcases (mem_put r x y).1 hy with rfl | hy
      · exact h1
      · exact h.1 y hy
    · rw [if_neg h1]
      by_cases h2 : z = x
      · rw [if_pos h2, Rising, List.pairwise_cons]; exact h
      · rw [if_neg h2, Rising, List.pairwise_cons]
        have hx : x < z := lt_tot h1 h2
        refine ⟨fun y hy => ?_, by rw [List.pairwise_cons]; exact h⟩
        rcases List.mem_cons.1 hy with rfl | hy
        · exact hx
        · exact lt_tr hx (h.1 y hy)
theorem foldl_put (l : List T) : ∀ (acc : List T), Rising acc → Rising (l.foldl put acc) ∧ ∀ y, y ∈ l.foldl put acc ↔ y ∈ acc ∨ y ∈ l := by
  induction l with
  | nil => intro acc h; exact ⟨h, fun y => by simp⟩
  | cons x r ih =>
    intro acc h
    obtain ⟨h1, h2⟩ := ih (put acc x) (put_rising acc x h)
    refine ⟨h1, fun y => ?_⟩
    rw [List.foldl_cons, h2 y, mem_put]
    simp only [List.mem_cons]
    constructor
    · rintro ((h | h) | h) <;> simp [h]
    · rintro (h | h | h) <;> simp [h]
theorem gather_rising (l : List T) : Rising (gather l) := (foldl_put l [] List.Pairwise.nil).1
theorem mem_gather (l : List T) (y : T) : y ∈ gather l ↔ y ∈ l := by have := (foldl_put l [] List.Pairwise.nil).2 y; rw [gather, this]; simp
theorem rising_ext : ∀ (a b : List T), Rising a → Rising b → (∀ y, y ∈ a ↔ y ∈ b) → a = b := by
  intro a
  induction a with
  | nil =>
    intro b _ _ h
    cases b with
    | nil => rfl
    | cons y r => have := (h y).2 (by simp); cases this
  | cons x r ih =>
    intro b ha hb h
    cases b with
    | nil => have := (h x).1 (by simp); cases this
    | cons y t =>
      rw [Rising, List.pairwise_cons] at ha hb
      have hxy : x = y := by
        have h1 := (h x).1 (by simp)
        have h2 := (h y).2 (by simp)
        rcases List.mem_cons.1 h1 with e | e
        · exact e
        · rcases List.mem_cons.1 h2 with e2 | e2
          · exact e2.symm
          · exact absurd (lt_tr (hb.1 x e) (ha.1 y e2)) (lt_irr _)
      subst hxy
      congr 1
      refine ih t ha.2 hb.2 fun z => ?_
      have := h z
      simp only [List.mem_cons] at this
      constructor
      · intro hz
        rcases this.1 (.inr hz) with e | e
        · subst e; exact absurd (ha.1 z hz) (lt_irr _)
        · exact e
      · intro hz
        rcases this.2 (.inr hz) with e | e
        · subst e; exact absurd (hb.1 z hz) (lt_irr _)
        · exact e
theorem gather_congr {a b : List T} (h : ∀ y, y ∈ a ↔ y ∈ b) : gather a = gather b := rising_ext _ _ (gather_rising _) (gather_rising _) fun y => by rw [mem_gather, mem_gather, h]

/-! #### what sort and compact make -/
theorem compact_up (d : Array T) (hs : ∀ i j, i ≤ j → j < d.size → ¬ d[j]! < d[i]!) : ∀ m, m ≤ d.size → Rising (Lib.compactUpTo d m) ∧ ∀ y, y ∈ Lib.compactUpTo d m ↔ ∃ j, j < m ∧ d[j]! = y := by
  intro m
  induction m with
  | zero => intro _; exact ⟨List.Pairwise.nil, fun y => by simp [Lib.compactUpTo]⟩
  | succ m ih =>
    intro hm
    obtain ⟨h1, h2⟩ := ih (by omega)
    rw [Lib.compactUpTo_succ]
    by_cases hk : Lib.keeps d m = true
    · rw [if_pos hk]
      refine ⟨?_, fun y => ?_⟩
      · rw [Rising, List.pairwise_append]
        refine ⟨h1, by simp, fun y hy z hz => ?_⟩
        simp only [List.mem_singleton] at hz
        subst hz
        obtain ⟨j, hj, rfl⟩ := (h2 y).1 hy
        have hne : d[m]! ≠ d[m - 1]! := by
          unfold Lib.keeps at hk
          simp only [decide_eq_true_eq] at hk
          rcases hk with h | h
          · omega
          · exact h
        have a1 := hs j m (by omega) (by omega)
        have a2 := hs j (m - 1) (by omega) (by omega)
        have a3 := hs (m - 1) m (by omega) (by omega)
        by_cases e : d[j]! < d[m]!
        · exact e
        · have e2 : d[m]! = d[j]! := by
            by_cases q : d[m]! = d[j]!
            · exact q
            · exact absurd (lt_tot a1 q) e
          rw [← e2] at a2
          by_cases q : d[m]! = d[m - 1]!
          · exact absurd q hne
          · exact absurd (lt_tot a3 q) a2
      · rw [List.mem_append, h2 y]
        simp only [List.mem_singleton]
        constructor
        · rintro (⟨j, hj, e⟩ | e)
          · exact ⟨j, by omega, e⟩
          · exact ⟨m, by omega, e.symm⟩
        · rintro ⟨j, hj, e⟩
          by_cases q : j = m
          · subst q; exact .inr e.symm
          · exact .inl ⟨j, by omega, e⟩
    · rw [if_neg hk, List.append_nil]
      refine ⟨h1, fun y => ?_⟩
      unfold Lib.keeps at hk
      simp only [decide_eq_true_eq, not_or, ne_eq, Decidable.not_not] at hk
      rw [h2 y]
      constructor
      · rintro ⟨j, hj, e⟩; exact ⟨j, by omega, e⟩
      · rintro ⟨j, hj, e⟩
        by_cases q : j = m
        · subst q; exact ⟨j - 1, by omega, by rw [← hk.2]; exact e⟩
        · exact ⟨j, by omega, e⟩
theorem compact_of {l : List T} (hs : l.Pairwise (fun x y => ¬ y < x)) : Rising (Lib.compact l) ∧ ∀ y, y ∈ Lib.compact l ↔ y ∈ l := by
  have hget : ∀ j (h : j < l.length), l.toArray[j]! = l[j] := fun j h => by rw [getElem!_pos l.toArray j (by simpa using h)]; rfl
  obtain ⟨h1, h2⟩ := compact_up l.toArray (fun i j hij hj => by
    have hj' : j < l.length := by simpa using hj
    rw [hget j hj', hget i (by omega)]
    by_cases e : i = j
    · subst e; exact lt_irr _
    · exact (List.pairwise_iff_getElem.1 hs) i j (by omega) hj' (by omega)) l.length (by simp)
  refine ⟨h1, fun y => ?_⟩
  rw [Lib.compact, h2 y, List.mem_iff_getElem]
  constructor
  · rintro ⟨j, hj, e⟩; exact ⟨j, hj, by rw [← hget j hj]; exact e⟩
  · rintro ⟨j, hj, e⟩; exact ⟨j, hj, by rw [hget j hj]; exact e⟩
/-- the library's Compact of its Sort -/
theorem compact_sort (l : List T) : Lib.compact (l.mergeSort fun x y => decide (x ≤ y)) = gather l := by
  have hs : (l.mergeSort fun x y => decide (x ≤ y)).Pairwise (fun x y => ¬ y < x) := by
    have := List.pairwise_mergeSort (le := fun x y : T => decide (x ≤ y)) (fun a b c h1 h2 => by simp only [decide_eq_true_eq] at *; exact List.le_trans h1 h2) (fun a b => by simp only [Bool.or_eq_true, decide_eq_true_eq]; exact List.le_total a b) l
    refine this.imp fun h => ?_
    simpa using h
  obtain ⟨h1, h2⟩ := compact_of hs
  exact rising_ext _ _ h1 (gather_rising _) fun y => by rw [h2, List.mem_mergeSort, mem_gather]

/-! #### the laws -/
theorem raw_turn {f : UInt8 → UInt8} (h61 : ∀ c, f c = 61 ↔ c = 61) (s : List UInt8) : ∀ (l : List W) (p : Option W), raw (s.map f) p l = raw s p l := by
  have hp : ∀ p w, paired (s.map f) p w = paired s p w := by
    intro p w
    unfold paired
    rw [← List.map_take, ← List.map_drop]
    congr 1
    generalize (s.take w.a).drop p.z = m
    apply propext
    constructor
    · intro h
      cases m with
      | nil => cases h
      | cons c r =>
        cases r with
        | nil => simp only [List.map_cons, List.map_nil, List.cons.injEq, and_true] at h; rw [(h61 c).1 h]
        | cons d t => simp at h
    · intro h; rw [h]; simp [(h61 61).2 rfl]
  intro l
  induction l with
  | nil => intro p; cases p <;> rfl
  | cons w r ih =>
    intro p
    cases p with
    | none => rw [raw, raw, ih]
    | some p => rw [raw, raw, ih, hp]
theorem terms_low (s : List UInt8) : terms (s.map low) = terms s := by
  unfold terms words
  rw [words_turn low_case (fun c => (low_is c).2.1), raw_turn (fun c => (low_is c).2.2)]
theorem terms_high (s : List UInt8) : terms (s.map high) = terms s := by
  unfold terms words
  rw [words_turn high_case (fun c => (high_is c).2.1), raw_turn (fun c => (high_is c).2.2)]

theorem raw_in (s r : List UInt8) : ∀ (l : List W) (p : Option W), (∀ w ∈ l, w.a ≤ s.length) → raw (s ++ r) p l = raw s p l := by
  intro l
  induction l with
  | nil => intro p _; cases p <;> rfl
  | cons w t ih =>
    intro p h
    have hw := h w (by simp)
    have e := ih (some w) (fun v hv => h v (by simp [hv]))
    cases p with
    | none => rw [raw, raw, e]
    | some p =>
      have hp : paired (s ++ r) p w = paired s p w := by unfold paired; rw [List.take_append_of_le_length hw]
      rw [raw, raw, e, hp]
def shift (b : Nat) (w : W) : W := ⟨w.text, w.a + b, w.z + b⟩
theorem raw_shift (u t : List UInt8) : ∀ (l : List W) (p : Option W), raw (u ++ t) (p.map (shift u.length)) (l.map (shift u.length)) = raw t p l := by
  have hp : ∀ p w, paired (u ++ t) (shift u.length p) (shift u.length w) = paired t p w := by
    intro p w
    unfold paired shift
    have : ((u ++ t).take (w.a + u.length)).drop (p.z + u.length) = (t.take w.a).drop p.z := by
      rw [Nat.add_comm w.a, List.take_length_add_append, Nat.add_comm p.z, List.drop_length_add_append]
    simp only [this]
  intro l
  induction l with
  | nil => intro p; cases p <;> rfl
  | cons w r ih =>
    intro p
    have e := ih (some w)
    simp only [Option.map_some] at e
    cases p with
    | none => simp only [Option.map_none, List.map_cons]; rw [raw, raw, e]; rfl
    | some p => simp only [Option.map_some, List.map_cons]; rw [raw, raw, e, hp]; rfl
theorem raw_app (s : List UInt8) : ∀ (l m : List W) (p : Option W), raw s p (l ++ m) = raw s p l ++ raw s (l.getLast?.or p) m := by
  intro l
  induction l with
  | nil => intro m p; cases p <;> simp [raw]
  | cons w r ih =>
    intro m p
    have e := ih m (some w)
    have hl : (w :: r).getLast?.or p = r.getLast?.or (some w) := by
      cases r with
      | nil => simp
      | cons y t => rw [List.getLast?_cons_cons]; simp [List.getLast?_cons]
    rw [hl, List.cons_append]
    cases p with
    | none => rw [raw, raw, e]; rfl
    | some p => rw [raw, raw, e]; simp
theorem raw_join (s t : List UInt8) : raw (s ++ 32 :: t) none (words (s ++ 32 :: t)) = raw s none (words s) ++ raw t none (words t) := by
  have e1 : words (s ++ 32 :: t) = words s ++ (words t).map (shift (s.length + 1)) := by
    unfold words
    rw [words_blank, show (0 + s.length + 1) = 0 + (s.length + 1) by omega, words_shift]
    rfl
  have hin : ∀ w ∈ words s, w.a ≤ s.length ∧ w.z ≤ s.length := fun w hw => by
    have := words_all s 0 w hw
    omega
  have e2 : s ++ 32 :: t = (s ++ [32]) ++ t := by simp
  have e3 := raw_shift (s ++ [32]) t (words t) none
  rw [← e2] at e3
  simp only [List.length_append, List.length_cons, List.length_nil, Option.map_none, Nat.zero_add] at e3
  rw [e1, raw_app, raw_in s _ _ _ (fun w hw => (hin w hw).1), ← e3]
  congr 1
  rw [Option.or_none]
  cases hp : (words s).getLast? with
  | none => rfl
  | some p =>
    have hpz := (hin p (List.mem_of_getLast? hp)).2
    cases hw : (words t).map (shift (s.length + 1)) with
    | nil => rfl
    | cons w r =>
      have hwa : s.length + 1 ≤ w.a := by
        have : w ∈ (words t).map (shift (s.length + 1)) := by rw [hw]; simp
        obtain ⟨v, _, rfl⟩ := List.mem_map.1 this
        simp only [shift]; omega
      have hno : paired (s ++ 32 :: t) p w = false := by
        unfold paired
        rw [decide_eq_false_iff_not]
        intro h
        have hl := congrArg List.length h
        have hg := congrArg (·[s.length - p.z]?) h
        simp only [List.length_drop, List.length_take, List.length_append, List.length_cons, List.length_nil] at hl
        simp only [List.getElem?_drop, List.getElem?_take] at hg
        rw [if_pos (by omega), show p.z + (s.length - p.z) = s.length by omega] at hg
        simp only [List.getElem?_append_right (Nat.le_refl s.length), Nat.sub_self, List.getElem?_cons_zero] at hg
        cases hx : s.length - p.z with
        | zero => rw [hx] at hg; simp at hg
        | succ k => rw [hx] at hg; simp at hg
      rw [raw, raw, hno]
      rfl
theorem mem_join (s t : List UInt8) (y : T) : y ∈ terms (s ++ 32 :: t) ↔ y ∈ terms s ∨ y ∈ terms t := by
  unfold terms
  rw [mem_gather, mem_gather, mem_gather, raw_join, List.mem_append]
theorem words_join (s t : List UInt8) : (words (s ++ 32 :: t)).length = (words s).length + (words t).length := by
  unfold words
  rw [words_blank, show (0 + s.length + 1) = 0 + (s.length + 1) by omega, words_shift, List.length_append, List.length_map]
theorem count_in {a c : List T} (ha : Rising a) (hc : Rising c) (h : ∀ y ∈ a, y ∈ c) : c.countP (fun y => decide (y ∈ a)) = a.length := by
  rw [List.countP_eq_length_filter]
  congr 1
  refine rising_ext _ _ (List.Pairwise.filter _ hc) ha fun y => ?_
  rw [List.mem_filter]
  simp only [decide_eq_true_eq]
  exact ⟨fun h => h.2, fun h' => ⟨h y h', h'⟩⟩
theorem count_two (p q : T → Bool) : ∀ c : List T, c.countP p + c.countP q = c.countP (fun y => p y || q y) + c.countP (fun y => p y && q y) := by
  intro c
  induction c with
  | nil => rfl
  | cons y r ih =>
    simp only [List.countP_cons]
    cases p y <;> cases q y <;> simp <;> omega
theorem count_join (s t : List UInt8) : (terms (s ++ 32 :: t)).length + (terms (s ++ 32 :: t)).countP (fun y => decide (y ∈ terms s) && decide (y ∈ terms t)) = (terms s).length + (terms t).length := by
  have h1 := count_in (a := terms s) (c := terms (s ++ 32 :: t)) (gather_rising _) (gather_rising _) (fun y hy => (mem_join s t y).2 (.inl hy))
  have h2 := count_in (a := terms t) (c := terms (s ++ 32 :: t)) (gather_rising _) (gather_rising _) (fun y hy => (mem_join s t y).2 (.inr hy))
  have h3 := count_two (fun y => decide (y ∈ terms s)) (fun y => decide (y ∈ terms t)) (terms (s ++ 32 :: t))
  have h4 : (terms (s ++ 32 :: t)).countP (fun y => decide (y ∈ terms s) || decide (y ∈ terms t)) = (terms (s ++ 32 :: t)).length := by
    rw [List.countP_eq_length]
    intro y hy
    simpa using (mem_join s t y).1 hy
  omega
end Go.Proofs.YtjdkpcibdjhdoaaDoor.M
