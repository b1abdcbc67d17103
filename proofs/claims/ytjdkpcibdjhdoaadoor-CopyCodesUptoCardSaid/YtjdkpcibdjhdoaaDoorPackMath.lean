/-
  Plain mathematics of package pack (numbers as bytes, the sum): no Go in it. Proved here: what is written as bytes is what is read, and a number has one form; the sum as a function of the bytes, which is one-to-one in every single byte.
-/
namespace Go.Proofs.YtjdkpcibdjhdoaaDoor.M

/-! ### numbers as bytes -/
def uvF : Nat → Nat → List UInt8
  | 0, v => [UInt8.ofNat v]
  | f + 1, v => if v < 128 then [UInt8.ofNat v] else UInt8.ofNat (v % 128 + 128) :: uvF f (v / 128)
def uv (v : Nat) : List UInt8 := uvF 9 v

theorem toNat_of {n : Nat} (h : n < 256) : (UInt8.ofNat n).toNat = n := by simp; omega

theorem uvF_small (f v : Nat) (h : v < 128) : uvF f v = [UInt8.ofNat v] := by
  cases f <;> simp [uvF, h]
theorem uvF_big (f v : Nat) (h : 128 ≤ v) : uvF (f + 1) v = UInt8.ofNat (v % 128 + 128) :: uvF f (v / 128) := by
  have : ¬ v < 128 := by omega
  simp [uvF, this]
theorem uvF_len (f : Nat) : ∀ v, 1 ≤ (uvF f v).length ∧ (uvF f v).length ≤ f + 1 := by
  induction f with
  | zero => intro v; simp [uvF]
  | succ f ih =>
    intro v
    by_cases h : v < 128
    · rw [uvF_small _ _ h]; simp
    · rw [uvF_big _ _ (by omega)]; have := ih (v / 128); simp; omega
theorem uv_len (v : Nat) : 1 ≤ (uv v).length ∧ (uv v).length ≤ 10 := uvF_len 9 v

def hb (v : Nat) : UInt8 := UInt8.ofNat (v % 128 + 128)
def lb (v : Nat) : UInt8 := UInt8.ofNat v
theorem hb_toNat (v : Nat) : (hb v).toNat = v % 128 + 128 := toNat_of (by omega)
theorem lb_toNat {v : Nat} (h : v < 256) : (lb v).toNat = v := toNat_of h

/-- the number that stands at the front, begun behind i bytes of value v: its value, how many bytes -/
def rd : Nat → Nat → List UInt8 → Option (Nat × Nat)
  | _, _, [] => none
  | i, v, b :: r =>
    if i = 9 ∧ 1 < b.toNat then none
    else if b.toNat < 128 then (if b.toNat = 0 ∧ 0 < i then none else some (v + b.toNat * 2 ^ (7 * i), i + 1))
    else rd (i + 1) (v + b.toNat % 128 * 2 ^ (7 * i)) r

theorem pow7 (i : Nat) : 2 ^ (7 * (i + 1)) = 128 * 2 ^ (7 * i) := by
  rw [Nat.mul_add, Nat.pow_add]; omega

theorem split7 (u i v : Nat) : v + u % 128 * 2 ^ (7 * i) + u / 128 * 2 ^ (7 * (i + 1)) = v + u * 2 ^ (7 * i) := by
  have h : u * 2 ^ (7 * i) = (128 * (u / 128) + u % 128) * 2 ^ (7 * i) := by rw [Nat.div_add_mod]
  rw [h, pow7, Nat.add_mul, Nat.mul_comm 128 (u / 128), Nat.mul_assoc]; omega

theorem rd_uvF (f : Nat) : ∀ (u i v : Nat) (r : List UInt8), u < 2 ^ (7 * f + 1) → i + f = 9 → (0 < i → u ≠ 0) →
    rd i v (uvF f u ++ r) = some (v + u * 2 ^ (7 * i), i + (uvF f u).length) := by
  induction f with
  | zero =>
    intro u i v r hu hi hz
    have h2 : u < 2 := by simpa using hu
    have ht : (UInt8.ofNat u).toNat = u := toNat_of (by omega)
    have hi9 : i = 9 := by omega
    have hu1 : u = 1 := by have := hz (by omega); omega
    subst hu1; subst hi9
    simp [uvF, rd]
  | succ f ih =>
    intro u i v r hu hi hz
    by_cases h : u < 128
    · have ht : (UInt8.ofNat u).toNat = u := toNat_of (by omega)
      rw [uvF_small _ _ h]
      have h9 : ¬ (i = 9 ∧ 1 < u) := by omega
      have h0 : ¬ (u = 0 ∧ 0 < i) := fun ⟨a, b⟩ => hz b a
      simp only [List.cons_append, List.nil_append, rd, ht, h9, h, h0, if_true, if_false, List.length_cons, List.length_nil]
    · have hm : u % 128 < 128 := Nat.mod_lt _ (by omega)
      have ht : (UInt8.ofNat (u % 128 + 128)).toNat = u % 128 + 128 := toNat_of (by omega)
      rw [uvF_big _ _ (by omega)]
      have h9 : ¬ (i = 9 ∧ 1 < u % 128 + 128) := by omega
      have hl : ¬ u % 128 + 128 < 128 := by omega
      have hmm : (u % 128 + 128) % 128 = u % 128 := by omega
      have hu' : u / 128 < 2 ^ (7 * f + 1) := by
        have e : 2 ^ (7 * (f + 1) + 1) = 128 * 2 ^ (7 * f + 1) := by
          rw [show 7 * (f + 1) + 1 = (7 * f + 1) + 7 from by omega, Nat.pow_add]; omega
        rw [e] at hu; omega
      have := ih (u / 128) (i + 1) (v + u % 128 * 2 ^ (7 * i)) r hu' (by omega) (fun _ => by omega)
      simp only [List.cons_append, rd, ht, h9, hl, hmm, if_false, this, split7, List.length_cons]
      congr 2; omega

theorem rd_sound : ∀ (l : List UInt8) (i v x n : Nat), i ≤ 9 → rd i v l = some (x, n) →
    ∃ u r, l = uvF (9 - i) u ++ r ∧ x = v + u * 2 ^ (7 * i) ∧ n = i + (uvF (9 - i) u).length ∧ u < 2 ^ (7 * (9 - i) + 1) ∧ (0 < i → u ≠ 0) := by
  intro l
  induction l with
  | nil => intro i v x n _ h; simp [rd] at h
  | cons b r ih =>
    intro i v x n hi h
    have hb : b.toNat < 256 := b.toNat_lt
    rw [rd] at h
    by_cases h9 : i = 9 ∧ 1 < b.toNat
    · rw [if_pos h9] at h; cases h
    · rw [if_neg h9] at h
      by_cases hl : b.toNat < 128
      · rw [if_pos hl] at h
        by_cases h0 : b.toNat = 0 ∧ 0 < i
        · rw [if_pos h0] at h; cases h
        · rw [if_neg h0] at h
          injection h with h
          injection h with hx hn
          refine ⟨b.toNat, r, ?_, hx.symm, ?_, ?_, fun hp he => h0 ⟨he, hp⟩⟩
          · rw [uvF_small _ _ hl]; simp
          · rw [uvF_small _ _ hl]; simp; omega
          · by_cases hi9 : i = 9
            · subst hi9; simp; omega
            · calc b.toNat < 2 ^ 7 := hl
                _ ≤ 2 ^ (7 * (9 - i) + 1) := Nat.pow_le_pow_right (by omega) (by omega)
      · rw [if_neg hl] at h
        have hi8 : i ≠ 9 := by omega
        obtain ⟨u, r', hr, hx, hn, hu, hz⟩ := ih (i + 1) _ x n (by omega) h
        have hu0 : u ≠ 0 := hz (by omega)
        have e : 9 - i = (9 - (i + 1)) + 1 := by omega
        have hmod : (128 * u + b.toNat % 128) % 128 = b.toNat % 128 := by omega
        have hdiv : (128 * u + b.toNat % 128) / 128 = u := by omega
        have hbig : 128 ≤ 128 * u + b.toNat % 128 := by omega
        have hself : UInt8.ofNat (b.toNat % 128 + 128) = b := by
          have : b.toNat % 128 + 128 = b.toNat := by omega
          rw [this]; simp
        have hform : uvF (9 - i) (128 * u + b.toNat % 128) = b :: uvF (9 - (i + 1)) u := by
          rw [e, uvF_big _ _ hbig, hmod, hdiv, hself]
        refine ⟨128 * u + b.toNat % 128, r', by rw [hform, hr]; rfl, ?_, by rw [hform, List.length_cons]; omega, ?_, fun _ => by omega⟩
        · have hs := split7 (128 * u + b.toNat % 128) i v
          rw [hmod, hdiv] at hs
          omega
        · have e2 : 2 ^ (7 * (9 - i) + 1) = 128 * 2 ^ (7 * (9 - (i + 1)) + 1) := by
            rw [show 7 * (9 - i) + 1 = (7 * (9 - (i + 1)) + 1) + 7 from by omega, Nat.pow_add]; omega
          rw [e2]; omega

/-- what is read at the front of bytes is the number whose bytes stand there -/
theorem rd_iff (l : List UInt8) (x n : Nat) : rd 0 0 l = some (x, n) ↔ ∃ r, l = uv x ++ r ∧ n = (uv x).length ∧ x < 2 ^ 64 := by
  constructor
  · intro h
    obtain ⟨u, r, hl, hx, hn, hu, _⟩ := rd_sound l 0 0 x n (by omega) h
    have hxu : x = u := by simpa using hx
    subst hxu
    exact ⟨r, hl, by simpa [uv] using hn, by simpa using hu⟩
  · rintro ⟨r, rfl, rfl, hx⟩
    have := rd_uvF 9 x 0 0 r (by simpa using hx) (by omega) (by omega)
    simpa [uv] using this
theorem rd_uv (x : Nat) (r : List UInt8) (hx : x < 2 ^ 64) : rd 0 0 (uv x ++ r) = some (x, (uv x).length) := (rd_iff _ _ _).2 ⟨r, rfl, rfl, hx⟩

/-! ### the elder way: how many bytes go on; their value from the last on; that they are the value's own bytes -/
def goOn (l : List UInt8) : Nat := (l.takeWhile fun b => decide (128 ≤ b.toNat)).length
def val : List UInt8 → Nat
  | [] => 0
  | b :: r => val r * 128 + b.toNat % 128

theorem val_uvF (f : Nat) : ∀ u, u < 2 ^ (7 * f + 1) → val (uvF f u) = u := by
  induction f with
  | zero =>
    intro u hu
    have h2 : u < 2 := by simpa using hu
    simp [uvF, val]; omega
  | succ f ih =>
    intro u hu
    by_cases h : u < 128
    · rw [uvF_small _ _ h]; simp [val]; omega
    · have ht : (UInt8.ofNat (u % 128 + 128)).toNat = u % 128 + 128 := toNat_of (by omega)
      have hu' : u / 128 < 2 ^ (7 * f + 1) := by
        have e : 2 ^ (7 * (f + 1) + 1) = 128 * 2 ^ (7 * f + 1) := by
          rw [show 7 * (f + 1) + 1 = (7 * f + 1) + 7 from by omega, Nat.pow_add]; omega
        rw [e] at hu; omega
      rw [uvF_big _ _ (by omega), val, ih _ hu', ht]; omega
theorem goOn_uvF (f : Nat) : ∀ u r, u < 2 ^ (7 * f + 1) → goOn (uvF f u ++ r) + 1 = (uvF f u).length := by
  induction f with
  | zero =>
    intro u r hu
    have h2 : u < 2 := by simpa using hu
    have ht : (UInt8.ofNat u).toNat = u := toNat_of (by omega)
    simp [uvF, goOn, List.takeWhile]
    have : decide (128 ≤ u % 256) = false := by simp; omega
    simp [this]
  | succ f ih =>
    intro u r hu
    by_cases h : u < 128
    · have : decide (128 ≤ u % 256) = false := by simp; omega
      rw [uvF_small _ _ h]; simp [goOn, this]
    · have ht : (UInt8.ofNat (u % 128 + 128)).toNat = u % 128 + 128 := toNat_of (by omega)
      have hu' : u / 128 < 2 ^ (7 * f + 1) := by
        have e : 2 ^ (7 * (f + 1) + 1) = 128 * 2 ^ (7 * f + 1) := by
          rw [show 7 * (f + 1) + 1 = (7 * f + 1) + 7 from by omega, Nat.pow_add]; omega
        rw [e] at hu; omega
      have hd : decide (128 ≤ (UInt8.ofNat (u % 128 + 128)).toNat) = true := by rw [ht]; simp
      rw [uvF_big _ _ (by omega)]
      have := ih (u / 128) r hu'
      simp only [goOn, List.cons_append, List.takeWhile_cons, hd, if_true, List.length_cons] at this ⊢
      omega

theorem elder_yes (l : List UInt8) (x n : Nat) (h : rd 0 0 l = some (x, n)) :
    n = goOn l + 1 ∧ goOn l < 10 ∧ goOn l < l.length ∧ val (l.take (goOn l + 1)) = x ∧ uv x = l.take (goOn l + 1) ∧ x < 2 ^ 64 := by
  obtain ⟨r, rfl, hn, hx⟩ := (rd_iff _ _ _).1 h
  have hg : goOn (uv x ++ r) + 1 = (uv x).length := goOn_uvF 9 x r (by simpa using hx)
  have hl := uv_len x
  have ht : (uv x ++ r).take (goOn (uv x ++ r) + 1) = uv x := by rw [hg]; simp
  refine ⟨by omega, by omega, by simp; omega, by rw [ht]; exact val_uvF 9 x (by simpa using hx), ht.symm, hx⟩
theorem elder_no (l : List UInt8) (h : rd 0 0 l = none) (v : Nat) (hv : v < 2 ^ 64) : uv v ≠ l.take (goOn l + 1) := by
  intro e
  have : l = uv v ++ l.drop (goOn l + 1) := by rw [e, List.take_append_drop]
  rw [this, rd_uv v _ hv] at h
  cases h

/-- at a place of bytes: value, place behind it, the error's number -/
def rdAt (l : List UInt8) (at_ : Int) : Nat × Nat × Nat :=
  if at_ < 0 ∨ (l.length : Int) < at_ then (0, 0, 1)
  else match rd 0 0 (l.drop at_.toNat) with
    | none => (0, 0, 3)
    | some (v, n) => (v, at_.toNat + n, 0)

theorem rdAt_uv (a r : List UInt8) (x : Nat) (hx : x < 2 ^ 64) : rdAt (a ++ (uv x ++ r)) a.length = (x, a.length + (uv x).length, 0) := by
  unfold rdAt
  rw [if_neg (by simp; omega)]
  simp [rd_uv x r hx]
theorem rdAt_ok {l : List UInt8} {k : Int} (h : (rdAt l k).2.2 = 0) :
    ∃ a r : List UInt8, (a.length : Int) = k ∧ l = a ++ (uv (rdAt l k).1 ++ r) ∧ (rdAt l k).1 < 2 ^ 64 ∧ (rdAt l k).2.1 = a.length + (uv (rdAt l k).1).length := by
  unfold rdAt at h ⊢
  by_cases hk : k < 0 ∨ (l.length : Int) < k
  · rw [if_pos hk] at h; simp at h
  · rw [if_neg hk] at h ⊢
    have hl : (l.take k.toNat).length = k.toNat := by simp; omega
    cases hr : rd 0 0 (l.drop k.toNat) with
    | none => rw [hr] at h; simp at h
    | some p =>
      obtain ⟨v, n⟩ := p
      obtain ⟨r, h1, h2, h3⟩ := (rd_iff _ _ _).1 hr
      refine ⟨l.take k.toNat, r, by omega, ?_, h3, ?_⟩
      · rw [← h1, List.take_append_drop]
      · simp only [hl]; omega
theorem rdAt_le {l : List UInt8} {k : Int} (h : (rdAt l k).2.2 = 0) : k.toNat < (rdAt l k).2.1 ∧ (rdAt l k).2.1 ≤ l.length ∧ (rdAt l k).2.1 ≤ k.toNat + 10 ∧ 0 ≤ k := by
  obtain ⟨a, r, h1, h2, _, h4⟩ := rdAt_ok h
  have := congrArg List.length h2
  have hu := uv_len (rdAt l k).1
  simp at this
  omega
theorem rdAt_err (l : List UInt8) (k : Int) : (rdAt l k).2.2 = 0 ∨ ((rdAt l k).2.2 = 1 ∧ rdAt l k = (0, 0, 1)) ∨ ((rdAt l k).2.2 = 3 ∧ rdAt l k = (0, 0, 3)) := by
  unfold rdAt
  by_cases hk : k < 0 ∨ (l.length : Int) < k
  · rw [if_pos hk]; simp
  · rw [if_neg hk]; cases rd 0 0 (l.drop k.toNat) <;> simp

/-! ### texts -/
def text (s : List UInt8) : List UInt8 := uv s.length ++ s
/-- the text at a place, the place behind it, the error's number -/
def rdText (l : List UInt8) (at_ most : Int) : List UInt8 × Nat × Nat :=
  if (rdAt l at_).2.2 ≠ 0 then ([], 0, (rdAt l at_).2.2)
  else if l.length - (rdAt l at_).2.1 < (rdAt l at_).1 then ([], 0, 3)
  else if most < ((rdAt l at_).1 : Int) then ([], 0, 2)
  else ((l.drop (rdAt l at_).2.1).take (rdAt l at_).1, (rdAt l at_).2.1 + (rdAt l at_).1, 0)

theorem rdText_text (a s r : List UInt8) (most : Int) (hs : s.length < 2 ^ 64) :
    rdText (a ++ (text s ++ r)) a.length most = if most < (s.length : Int) then ([], 0, 2) else (s, a.length + (text s).length, 0) := by
  have h : rdAt (a ++ (text s ++ r)) a.length = (s.length, a.length + (uv s.length).length, 0) := by
    have := rdAt_uv a (s ++ r) s.length hs
    simpa [text] using this
  unfold rdText
  rw [h]
  simp only [ne_eq, not_true_eq_false, if_false]
  rw [if_neg (by simp [text]; omega)]
  by_cases hm : most < (s.length : Int)
  · rw [if_pos hm, if_pos hm]
  · rw [if_neg hm, if_neg hm]
    have e : (a ++ (text s ++ r)).drop (a.length + (uv s.length).length) = s ++ r := by
      rw [← List.append_assoc, text, ← List.append_assoc, List.append_assoc (a ++ uv s.length)]
      rw [List.drop_left' (by simp)]
    rw [e]
    simp [text]; omega

/-! ### the sum -/
def poly : Nat := 3988292384
def bit1 (c : Nat) : Nat := if c % 2 = 1 then (c / 2) ^^^ poly else c / 2
def byte1 (c : Nat) (b : Nat) : Nat := bit1 (bit1 (bit1 (bit1 (bit1 (bit1 (bit1 (bit1 (c ^^^ b))))))))
def bitN : Nat → Nat → Nat
  | 0, c => c
  | k + 1, c => bit1 (bitN k c)
theorem byte1_eq (c b : Nat) : byte1 c b = bitN 8 (c ^^^ b) := rfl
def runs (c : Nat) (l : List UInt8) : Nat := l.foldl (fun c b => byte1 c b.toNat) c
def sum (l : List UInt8) : Nat := 4294967295 - runs 4294967295 l

theorem bit1_lt {c : Nat} (h : c < 4294967296) : bit1 c < 4294967296 := by
  unfold bit1
  split
  · exact Nat.xor_lt_two_pow (n := 32) (by omega) (by decide)
  · omega
theorem bitN_lt {c : Nat} (h : c < 4294967296) : ∀ k, bitN k c < 4294967296 := by
  intro k
  induction k with
  | zero => exact h
  | succ k ih => exact bit1_lt ih
theorem byte1_lt {c b : Nat} (h : c < 4294967296) (hb : b < 256) : byte1 c b < 4294967296 := by
  have h0 : c ^^^ b < 4294967296 := Nat.xor_lt_two_pow (n := 32) (by omega) (by omega)
  unfold byte1
  exact bit1_lt (bit1_lt (bit1_lt (bit1_lt (bit1_lt (bit1_lt (bit1_lt (bit1_lt h0)))))))
theorem runs_lt (l : List UInt8) : ∀ {c : Nat}, c < 4294967296 → runs c l < 4294967296 := by
  induction l with
  | nil => intro c h; exact h
  | cons b r ih => intro c h; exact ih (byte1_lt h b.toNat_lt)
theorem runs_snoc (c : Nat) (l : List UInt8) (b : UInt8) : runs c (l ++ [b]) = byte1 (runs c l) b.toNat := by simp [runs]
theorem sum_lt (l : List UInt8) : sum l < 4294967296 := by unfold sum; omega

theorem bit1_top {c : Nat} (h : c < 4294967296) : (bit1 c).testBit 31 = decide (c % 2 = 1) := by
  unfold bit1
  have h2 : (c / 2).testBit 31 = false := Nat.testBit_lt_two_pow (by omega)
  split
  · rename_i hc
    rw [Nat.testBit_xor, h2, decide_eq_true hc]; decide
  · rename_i hc
    rw [h2, decide_eq_false hc]
theorem bit1_inj {a b : Nat} (ha : a < 4294967296) (hb : b < 4294967296) (h : bit1 a = bit1 b) : a = b := by
  have ht := bit1_top ha
  rw [h, bit1_top hb, decide_eq_decide] at ht
  unfold bit1 at h
  by_cases hp : a % 2 = 1
  · rw [if_pos hp, if_pos (ht.2 hp)] at h
    have h' := congrArg (· ^^^ poly) h
    simp only [Nat.xor_assoc, Nat.xor_self, Nat.xor_zero] at h'
    have := ht.2 hp; omega
  · rw [if_neg hp, if_neg (fun hq => hp (ht.1 hq))] at h
    have : ¬ b % 2 = 1 := fun hq => hp (ht.1 hq)
    omega
theorem byte1_inj {c d x y : Nat} (hc : c < 4294967296) (hd : d < 4294967296) (hx : x < 256) (hy : y < 256) (h : byte1 c x = byte1 d y) : c ^^^ x = d ^^^ y := by
  have h0 : c ^^^ x < 4294967296 := Nat.xor_lt_two_pow (n := 32) (by omega) (by omega)
  have h1 : d ^^^ y < 4294967296 := Nat.xor_lt_two_pow (n := 32) (by omega) (by omega)
  have b0 := @bit1_lt
  unfold byte1 at h
  have e8 := bit1_inj (b0 (b0 (b0 (b0 (b0 (b0 (b0 h0))))))) (b0 (b0 (b0 (b0 (b0 (b0 (b0 h1))))))) h
  have e7 := bit1_inj (b0 (b0 (b0 (b0 (b0 (b0 h0)))))) (b0 (b0 (b0 (b0 (b0 (b0 h1)))))) e8
  have e6 := bit1_inj (b0 (b0 (b0 (b0 (b0 h0))))) (b0 (b0 (b0 (b0 (b0 h1))))) e7
  have e5 := bit1_inj (b0 (b0 (b0 (b0 h0)))) (b0 (b0 (b0 (b0 h1)))) e6
  have e4 := bit1_inj (b0 (b0 (b0 h0))) (b0 (b0 (b0 h1))) e5
  have e3 := bit1_inj (b0 (b0 h0)) (b0 (b0 h1)) e4
  have e2 := bit1_inj (b0 h0) (b0 h1) e3
  exact bit1_inj h0 h1 e2
theorem xor_cancel_left {a b c : Nat} (h : a ^^^ b = a ^^^ c) : b = c := by
  have h' := congrArg (a ^^^ ·) h
  simpa [← Nat.xor_assoc] using h'
theorem xor_cancel_right {a b c : Nat} (h : a ^^^ c = b ^^^ c) : a = b := by
  have h' := congrArg (· ^^^ c) h
  simpa [Nat.xor_assoc] using h'
theorem runs_inj (l : List UInt8) : ∀ {c d : Nat}, c < 4294967296 → d < 4294967296 → runs c l = runs d l → c = d := by
  induction l with
  | nil => intro c d _ _ h; exact h
  | cons b r ih =>
    intro c d hc hd h
    have hb := b.toNat_lt
    exact xor_cancel_right (byte1_inj hc hd hb hb (ih (byte1_lt hc hb) (byte1_lt hd hb) h))
/-- one byte that is another one: another sum -/
theorem sum_turn (a r : List UInt8) (x y : UInt8) (h : sum (a ++ x :: r) = sum (a ++ y :: r)) : x = y := by
  have hx := x.toNat_lt
  have hy := y.toNat_lt
  have ha := runs_lt a (c := 4294967295) (by omega)
  have l1 := runs_lt (a ++ x :: r) (c := 4294967295) (by omega)
  have l2 := runs_lt (a ++ y :: r) (c := 4294967295) (by omega)
  have h1 : runs 4294967295 (a ++ x :: r) = runs 4294967295 (a ++ y :: r) := by unfold sum at h; omega
  unfold runs at h1
  rw [List.foldl_append, List.foldl_append, List.foldl_cons, List.foldl_cons] at h1
  have h2 := runs_inj r (byte1_lt ha hx) (byte1_lt ha hy) h1
  have h3 := xor_cancel_left (byte1_inj ha ha hx hy h2)
  exact UInt8.toNat_inj.1 h3

/-! ### numbers with a sign -/
def zig (v : Int) : Int := if 0 ≤ v then 2 * v else -2 * v - 1
def zag (u : Int) : Int := if u % 2 = 0 then u / 2 else -(u / 2) - 1
theorem zag_zig (v : Int) : zag (zig v) = v := by unfold zag zig; split <;> split <;> omega
theorem zig_zag (u : Int) (h : 0 ≤ u) : zig (zag u) = u := by unfold zag zig; split <;> split <;> omega
theorem zig_range (v : Int) (h1 : -9223372036854775808 ≤ v) (h2 : v ≤ 9223372036854775807) : 0 ≤ zig v ∧ zig v < 18446744073709551616 := by unfold zig; split <;> omega
theorem zag_range (u : Int) (h1 : 0 ≤ u) (h2 : u < 18446744073709551616) : -9223372036854775808 ≤ zag u ∧ zag u ≤ 9223372036854775807 := by unfold zag; split <;> omega
end Go.Proofs.YtjdkpcibdjhdoaaDoor.M
