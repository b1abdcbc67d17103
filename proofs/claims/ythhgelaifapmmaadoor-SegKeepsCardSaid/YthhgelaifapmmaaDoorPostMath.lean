/-
  Plain mathematics of package post (rising numbers, as bytes and as sets): no Go in it. Proved here: what is written is read again; cut short it is none; below a bound that is too low it is refused; the sets' laws.
-/
import Derived.Test.YthhgelaifapmmaaDoorPackMath
namespace Go.Proofs.YthhgelaifapmmaaDoor.M

/-- the numbers rise, all above 'last' -/
def rise : Int → List Int → Bool
  | _, [] => true
  | last, x :: r => decide (last < x) && rise x r
theorem rise_cons (last x : Int) (r : List Int) : rise last (x :: r) = true ↔ last < x ∧ rise x r = true := by simp [rise]
theorem rise_no {last x : Int} {r : List Int} (h : x ≤ last) : rise last (x :: r) = false := by
  have : ¬ last < x := by omega
  simp [rise, this]
theorem rise_yes {last x : Int} {r : List Int} (h : last < x) : rise last (x :: r) = rise x r := by simp [rise, h]
theorem rise_less {lo hi : Int} {l : List Int} (hl : lo ≤ hi) (h : rise hi l = true) : rise lo l = true := by
  cases l with
  | nil => rfl
  | cons x r => rw [rise_cons] at h ⊢; exact ⟨by omega, h.2⟩
theorem rise_mem {lo : Int} {l : List Int} : rise lo l = true → ∀ x ∈ l, lo < x := by
  induction l generalizing lo with
  | nil => intro _ x hx; simp at hx
  | cons y r ih =>
    intro h x hx
    rw [rise_cons] at h
    rcases List.mem_cons.1 hx with rfl | hx
    · exact h.1
    · have := ih h.2 x hx; omega
theorem rise_max {lo : Int} {l : List Int} (d : Int) : rise lo l = true → ∀ x ∈ l, x ≤ l.getLastD d := by
  induction l generalizing lo with
  | nil => intro _ x hx; simp at hx
  | cons y r ih =>
    intro h x hx
    rw [rise_cons] at h
    cases r with
    | nil => simp at hx; simp [hx]
    | cons z r =>
      have := ih h.2
      simp only [List.getLastD_cons] at this ⊢
      rcases List.mem_cons.1 hx with rfl | hx
      · have h1 := this z (by simp)
        have h2 := h.2
        rw [rise_cons] at h2
        omega
      · exact this x hx

/-- by how much each is greater than the one ahead of it, less one, as bytes -/
def encs : Int → List Int → List UInt8
  | _, [] => []
  | last, x :: r => uv (x - last - 1).toNat ++ encs x r
def enc (l : List Int) : List UInt8 := uv l.length ++ encs (-1) l
def encErr (l : List Int) : Nat := if rise (-1) l then 0 else 3
def encOut (l : List Int) : List UInt8 := if rise (-1) l then enc l else []
theorem encErr_yes {l : List Int} (h : rise (-1) l = true) : encErr l = 0 := by simp [encErr, h]
theorem encErr_no {l : List Int} (h : rise (-1) l = false) : encErr l = 3 := by simp [encErr, h]
theorem encOut_yes {l : List Int} (h : rise (-1) l = true) : encOut l = enc l := by simp [encOut, h]
theorem encOut_no {l : List Int} (h : rise (-1) l = false) : encOut l = [] := by simp [encOut, h]
theorem uvF_short (f : Nat) : ∀ (k v : Nat), v < 2 ^ (7 * k + 7) → (uvF f v).length ≤ k + 1 := by
  induction f with
  | zero => intro k v _; simp [uvF]
  | succ f ih =>
    intro k v hv
    by_cases h : v < 128
    · rw [uvF_small _ _ h]; simp
    · rw [uvF_big _ _ (by omega)]
      cases k with
      | zero => simp at hv; omega
      | succ k =>
        have := ih k (v / 128) (by
          rw [show 7 * (k + 1) + 7 = 7 * (k + 1 + 1) from by omega, pow7, show 7 * (k + 1) = 7 * k + 7 from by omega] at hv
          omega)
        simp; omega
theorem uv_weight (v : Nat) : (uv v).length ≤ 5 + 5 * (v / 34359738368) := by
  by_cases h : v < 34359738368
  · have := uvF_short 9 4 v (by simpa using h)
    unfold uv; omega
  · have := (uv_len v).2
    have : 1 ≤ v / 34359738368 := by omega
    omega

/-- k more numbers at a place -/
def decs (p : List UInt8) (below : Int) : Nat → Nat → Int → List Int → List Int × Nat × Nat
  | 0, f, _, acc => (acc, f, 0)
  | k + 1, f, next, acc =>
    if (rdAt p f).2.2 ≠ 0 then ([], 0, (rdAt p f).2.2) else if below - next ≤ ((rdAt p f).1 : Int) then ([], 0, 6)
    else decs p below k (rdAt p f).2.1 (next + (rdAt p f).1 + 1) (acc ++ [next + (rdAt p f).1])
def dec (p : List UInt8) (at_ below : Int) : List Int × Nat × Nat :=
  if (rdAt p at_).2.2 ≠ 0 then ([], 0, (rdAt p at_).2.2) else if below < 0 ∨ below < ((rdAt p at_).1 : Int) then ([], 0, 6)
  else decs p below (rdAt p at_).1 (rdAt p at_).2.1 0 []
section
variable {p : List UInt8} {at_ below next : Int} {k f : Nat} {acc : List Int}
theorem decs_err (h : (rdAt p f).2.2 ≠ 0) : decs p below (k + 1) f next acc = ([], 0, (rdAt p f).2.2) := by rw [decs, if_pos h]
theorem decs_out (h : (rdAt p f).2.2 = 0) (h2 : below - next ≤ ((rdAt p f).1 : Int)) : decs p below (k + 1) f next acc = ([], 0, 6) := by rw [decs, if_neg (by simpa using h), if_pos h2]
theorem decs_on (h : (rdAt p f).2.2 = 0) (h2 : ¬ below - next ≤ ((rdAt p f).1 : Int)) : decs p below (k + 1) f next acc = decs p below k (rdAt p f).2.1 (next + (rdAt p f).1 + 1) (acc ++ [next + (rdAt p f).1]) := by
  rw [decs, if_neg (by simpa using h), if_neg h2]
theorem dec_err (h : (rdAt p at_).2.2 ≠ 0) : dec p at_ below = ([], 0, (rdAt p at_).2.2) := by rw [dec, if_pos h]
theorem dec_out (h : (rdAt p at_).2.2 = 0) (h2 : below < 0 ∨ below < ((rdAt p at_).1 : Int)) : dec p at_ below = ([], 0, 6) := by rw [dec, if_neg (by simpa using h), if_pos h2]
theorem dec_on (h : (rdAt p at_).2.2 = 0) (h2 : ¬ (below < 0 ∨ below < ((rdAt p at_).1 : Int))) : dec p at_ below = decs p below (rdAt p at_).1 (rdAt p at_).2.1 0 [] := by
  rw [dec, if_neg (by simpa using h), if_neg h2]
end

theorem decs_encs (below : Int) (r : List UInt8) : ∀ (l : List Int) (a : List UInt8) (last : Int) (acc : List Int), rise last l = true → -1 ≤ last → (∀ x ∈ l, x < below) → below ≤ 9223372036854775807 →
    decs (a ++ (encs last l ++ r)) below l.length a.length (last + 1) acc = (acc ++ l, a.length + (encs last l).length, 0) := by
  intro l
  induction l with
  | nil => intro a last acc _ _ _ _; simp [encs, decs]
  | cons x l ih =>
    intro a last acc hr hl hb hm
    rw [rise_cons] at hr
    have hx := hb x (by simp)
    have e := rdAt_uv a (encs x l ++ r) (x - last - 1).toNat (by omega)
    rw [encs, List.append_assoc, List.length_cons, decs_on (by rw [e]) (by rw [e]; simp only; omega), e]
    simp only
    have h2 := ih (a ++ uv (x - last - 1).toNat) x (acc ++ [x]) hr.2 (by omega) (fun y hy => hb y (by simp [hy])) hm
    rw [List.append_assoc, List.length_append] at h2
    rw [show last + 1 + ((x - last - 1).toNat : Int) = x from by omega, h2]
    simp [Nat.add_assoc]
theorem decs_low (below : Int) (r : List UInt8) : ∀ (l : List Int) (a : List UInt8) (last : Int) (acc : List Int), rise last l = true → -1 ≤ last → (∃ x ∈ l, below ≤ x) → (∀ x ∈ l, x ≤ 9223372036854775807) →
    decs (a ++ (encs last l ++ r)) below l.length a.length (last + 1) acc = ([], 0, 6) := by
  intro l
  induction l with
  | nil => intro a last acc _ _ ⟨x, hx, _⟩; simp at hx
  | cons x l ih =>
    intro a last acc hr hl hb hm
    rw [rise_cons] at hr
    have hx := hm x (by simp)
    have e := rdAt_uv a (encs x l ++ r) (x - last - 1).toNat (by omega)
    rw [encs, List.append_assoc, List.length_cons]
    by_cases hxb : below ≤ x
    · rw [decs_out (by rw [e]) (by rw [e]; simp only; omega)]
    · rw [decs_on (by rw [e]) (by rw [e]; simp only; omega), e]
      simp only
      have h2 := ih (a ++ uv (x - last - 1).toNat) x (acc ++ [x]) hr.2 (by omega) (by
        obtain ⟨y, hy, hyb⟩ := hb
        rcases List.mem_cons.1 hy with rfl | hy
        · omega
        · exact ⟨y, hy, hyb⟩) (fun y hy => hm y (by simp [hy]))
      rw [List.append_assoc, List.length_append] at h2
      rw [show last + 1 + ((x - last - 1).toNat : Int) = x from by omega, h2]
theorem uv_ne (v : Nat) : uv v ≠ [] := fun h => by have := (uv_len v).1; rw [h] at this; simp at this
theorem rd_torn (x : Nat) (hx : x < 2 ^ 64) : rd 0 0 (uv x).dropLast = none := by
  cases h : rd 0 0 (uv x).dropLast with
  | none => rfl
  | some q =>
    obtain ⟨y, n⟩ := q
    obtain ⟨r, h1, h2, h3⟩ := (rd_iff _ _ _).1 h
    have h4 := List.dropLast_concat_getLast (uv_ne x)
    rw [h1, List.append_assoc] at h4
    have h5 := rd_uv y (r ++ [(uv x).getLast (uv_ne x)]) h3
    rw [h4] at h5
    have h6 := rd_uv x [] hx
    rw [List.append_nil, h5] at h6
    have h7 := congrArg List.length h4
    simp only [Option.some.injEq, Prod.mk.injEq] at h6
    simp only [List.length_append, List.length_cons, List.length_nil] at h7
    omega
theorem rdAt_torn (a : List UInt8) (x : Nat) (hx : x < 2 ^ 64) : rdAt (a ++ (uv x).dropLast) a.length = (0, 0, 3) := by
  unfold rdAt
  rw [if_neg (by simp; omega)]
  simp [rd_torn x hx]
theorem encs_ne (last x : Int) (l : List Int) : encs last (x :: l) ≠ [] := by
  rw [encs]; intro h
  exact uv_ne _ (List.append_eq_nil_iff.1 h).1
theorem decs_torn (below : Int) : ∀ (l : List Int) (a : List UInt8) (last : Int) (acc : List Int), l ≠ [] → rise last l = true → -1 ≤ last → (∀ x ∈ l, x < below) → below ≤ 9223372036854775807 →
    decs (a ++ (encs last l).dropLast) below l.length a.length (last + 1) acc = ([], 0, 3) := by
  intro l
  induction l with
  | nil => intro a last acc h; exact absurd rfl h
  | cons x l ih =>
    intro a last acc _ hr hl hb hm
    rw [rise_cons] at hr
    have hx := hb x (by simp)
    cases l with
    | nil =>
      have e := rdAt_torn a (x - last - 1).toNat (by omega)
      simp only [encs, List.append_nil, List.length_cons, List.length_nil]
      rw [decs_err (by rw [e]; simp), e]
    | cons y l =>
      have e := rdAt_uv a (encs x (y :: l)).dropLast (x - last - 1).toNat (by omega)
      rw [encs, List.dropLast_append_of_ne_nil (encs_ne x y l), List.length_cons, decs_on (by rw [e]) (by rw [e]; simp only; omega), e]
      simp only
      have h2 := ih (a ++ uv (x - last - 1).toNat) x (acc ++ [x]) (by simp) hr.2 (by omega) (fun z hz => hb z (by simp at hz ⊢; exact .inr hz)) hm
      rw [List.append_assoc, List.length_append] at h2
      rw [show last + 1 + ((x - last - 1).toNat : Int) = x from by omega, h2]

theorem rdAt_enc (l : List Int) (hl : l.length < 2 ^ 64) : rdAt (enc l) 0 = (l.length, (uv l.length).length, 0) := by
  have := rdAt_uv [] (encs (-1) l) l.length hl
  simpa [enc] using this
theorem rise_len : ∀ {l : List Int} {lo : Int}, rise lo l = true → (l.length : Int) ≤ l.getLastD lo - lo := by
  intro l
  induction l with
  | nil => intro lo _; simp
  | cons x r ih =>
    intro lo h
    rw [rise_cons] at h
    have := ih h.2
    simp only [List.getLastD_cons, List.length_cons] at this ⊢
    omega
/-- what is written is read again -/
theorem dec_enc (l : List Int) (below : Int) (hr : rise (-1) l = true) (hb : ∀ x ∈ l, x < below) (hb0 : 0 ≤ below) (hm : below ≤ 9223372036854775807) : dec (enc l) 0 below = (l, (enc l).length, 0) := by
  have hlen : (l.length : Int) ≤ below := by
    have h1 := rise_len hr
    cases l with
    | nil => simpa using hb0
    | cons x r =>
      have h2 := hb ((x :: r).getLastD (-1)) (by rw [List.getLastD_cons]; cases r with | nil => simp | cons y r => simp [List.getLastD_eq_getLast?, List.getLast?_eq_some_getLast])
      omega
  have e := rdAt_enc l (by omega)
  rw [dec_on (by rw [e]) (by rw [e]; simp only; omega), e]
  simp only
  have h := decs_encs below [] l (uv l.length) (-1) [] hr (by omega) hb hm
  rw [List.append_nil] at h
  have h' : decs (enc l) below l.length (uv l.length).length 0 [] = _ := h
  rw [h']
  simp [enc]
theorem dec_low (l : List Int) (below : Int) (hr : rise (-1) l = true) (hb : ∃ x ∈ l, below ≤ x) (hm : ∀ x ∈ l, x ≤ 9223372036854775807) (hl : l.length < 2 ^ 64) : dec (enc l) 0 below = ([], 0, 6) := by
  have e := rdAt_enc l hl
  by_cases h : below < 0 ∨ below < (l.length : Int)
  · rw [dec_out (by rw [e]) (by rw [e]; exact h)]
  · rw [dec_on (by rw [e]) (by rw [e]; exact h), e]
    simp only
    have h := decs_low below [] l (uv l.length) (-1) [] hr (by omega) hb hm
    rw [List.append_nil] at h
    exact h
theorem dec_torn (l : List Int) (below : Int) (hne : l ≠ []) (hr : rise (-1) l = true) (hb : ∀ x ∈ l, x < below) (hlen : (l.length : Int) ≤ below) (hm : below ≤ 9223372036854775807) : dec (enc l).dropLast 0 below = ([], 0, 3) := by
  cases l with
  | nil => exact absurd rfl hne
  | cons x l =>
    have e1 : (enc (x :: l)).dropLast = uv (x :: l).length ++ (encs (-1) (x :: l)).dropLast := by
      unfold enc; rw [List.dropLast_append_of_ne_nil (encs_ne _ x l)]
    have e : rdAt (enc (x :: l)).dropLast 0 = ((x :: l).length, (uv (x :: l).length).length, 0) := by
      rw [e1]
      have := rdAt_uv [] (encs (-1) (x :: l)).dropLast (x :: l).length (by omega)
      simpa using this
    rw [dec_on (by rw [e]) (by rw [e]; simp only; omega), e, e1]
    simp only
    exact decs_torn below (x :: l) (uv (x :: l).length) (-1) [] hne hr (by omega) hb hm

/-! ### sets -/
def andL : List Int → List Int → List Int
  | [], _ => []
  | _ :: _, [] => []
  | x :: a, y :: b => if x < y then andL a (y :: b) else if y < x then andL (x :: a) b else x :: andL a b
termination_by a b => a.length + b.length
def orL : List Int → List Int → List Int
  | [], b => b
  | x :: a, [] => x :: a
  | x :: a, y :: b => if x < y then x :: orL a (y :: b) else if y < x then y :: orL (x :: a) b else x :: orL a b
termination_by a b => a.length + b.length
def lessL : List Int → List Int → List Int
  | [], _ => []
  | x :: a, [] => x :: a
  | x :: a, y :: b => if x < y then x :: lessL a (y :: b) else if y < x then lessL (x :: a) b else lessL a b
termination_by a b => a.length + b.length

section
variable {x y : Int} {a b : List Int}
theorem and_nil (b : List Int) : andL [] b = [] := by rw [andL]
theorem and_nil' (a : List Int) : andL a [] = [] := by cases a <;> rw [andL]
theorem or_nil (b : List Int) : orL [] b = b := by rw [orL]
theorem or_nil' (a : List Int) : orL a [] = a := by cases a <;> rw [orL]
theorem less_nil (b : List Int) : lessL [] b = [] := by rw [lessL]
theorem less_nil' (a : List Int) : lessL a [] = a := by cases a <;> rw [lessL]
theorem and_lt (h : x < y) : andL (x :: a) (y :: b) = andL a (y :: b) := by rw [andL, if_pos h]
theorem and_gt (h : y < x) : andL (x :: a) (y :: b) = andL (x :: a) b := by rw [andL, if_neg (by omega), if_pos h]
theorem and_eq (x : Int) (a b : List Int) : andL (x :: a) (x :: b) = x :: andL a b := by rw [andL, if_neg (by omega), if_neg (by omega)]
theorem or_lt (h : x < y) : orL (x :: a) (y :: b) = x :: orL a (y :: b) := by rw [orL, if_pos h]
theorem or_gt (h : y < x) : orL (x :: a) (y :: b) = y :: orL (x :: a) b := by rw [orL, if_neg (by omega), if_pos h]
theorem or_eq (x : Int) (a b : List Int) : orL (x :: a) (x :: b) = x :: orL a b := by rw [orL, if_neg (by omega), if_neg (by omega)]
theorem less_lt (h : x < y) : lessL (x :: a) (y :: b) = x :: lessL a (y :: b) := by rw [lessL, if_pos h]
theorem less_gt (h : y < x) : lessL (x :: a) (y :: b) = lessL (x :: a) b := by rw [lessL, if_neg (by omega), if_pos h]
theorem less_eq (x : Int) (a b : List Int) : lessL (x :: a) (x :: b) = lessL a b := by rw [lessL, if_neg (by omega), if_neg (by omega)]
end
/-- two lists, walked as the sets' functions walk them -/
theorem two {C : List Int → List Int → Prop} (h1 : ∀ b, C [] b) (h2 : ∀ a, C a []) (h3 : ∀ x y a b, x < y → C a (y :: b) → C (x :: a) (y :: b)) (h4 : ∀ x y a b, y < x → C (x :: a) b → C (x :: a) (y :: b))
    (h5 : ∀ x a b, C a b → C (x :: a) (x :: b)) (a b : List Int) : C a b := by
  suffices ∀ n (a b : List Int), a.length + b.length ≤ n → C a b from this _ a b (Nat.le_refl _)
  intro n
  induction n with
  | zero =>
    intro a b h
    have : a = [] := List.eq_nil_of_length_eq_zero (by omega)
    subst this; exact h1 b
  | succ n ih =>
    intro a b h
    cases a with
    | nil => exact h1 b
    | cons x a =>
      cases b with
      | nil => exact h2 _
      | cons y b =>
        simp only [List.length_cons] at h
        rcases Int.lt_trichotomy x y with hl | rfl | hl
        · exact h3 _ _ _ _ hl (ih _ _ (by simp; omega))
        · exact h5 _ _ _ (ih _ _ (by omega))
        · exact h4 _ _ _ _ hl (ih _ _ (by simp; omega))
theorem and_len (a b : List Int) : (andL a b).length + (orL a b).length = a.length + b.length := by
  refine two (C := fun a b => (andL a b).length + (orL a b).length = a.length + b.length) ?_ ?_ ?_ ?_ ?_ a b
  · intro b; simp [and_nil, or_nil]
  · intro a; simp [and_nil', or_nil']
  · intro x y a b h ih; rw [and_lt h, or_lt h]; simp only [List.length_cons] at ih ⊢; omega
  · intro x y a b h ih; rw [and_gt h, or_gt h]; simp only [List.length_cons] at ih ⊢; omega
  · intro x a b ih; rw [and_eq, or_eq]; simp only [List.length_cons] at ih ⊢; omega
theorem less_len (a b : List Int) : (andL a b).length + (lessL a b).length = a.length := by
  refine two (C := fun a b => (andL a b).length + (lessL a b).length = a.length) ?_ ?_ ?_ ?_ ?_ a b
  · intro b; simp [and_nil, less_nil]
  · intro a; simp [and_nil', less_nil']
  · intro x y a b h ih; rw [and_lt h, less_lt h]; simp only [List.length_cons] at ih ⊢; omega
  · intro x y a b h ih; rw [and_gt h, less_gt h]; exact ih
  · intro x a b ih; rw [and_eq, less_eq]; simp only [List.length_cons] at ih ⊢; omega
theorem and_le (a b : List Int) : (andL a b).length ≤ a.length := by have := less_len a b; omega
theorem less_le (a b : List Int) : (lessL a b).length ≤ a.length := by have := less_len a b; omega
theorem or_le (a b : List Int) : (orL a b).length ≤ a.length + b.length := by have := and_len a b; omega

theorem rise_and : ∀ (a b : List Int) (lo : Int), rise lo a = true → rise lo b = true → rise lo (andL a b) = true := by
  refine two ?_ ?_ ?_ ?_ ?_
  · intro b lo _ _; rw [and_nil]; rfl
  · intro a lo _ _; rw [and_nil']; rfl
  · intro x y a b h ih lo h1 h2; rw [and_lt h]; rw [rise_cons] at h1; exact ih lo (rise_less (by omega) h1.2) h2
  · intro x y a b h ih lo h1 h2; rw [and_gt h]; rw [rise_cons] at h2; exact ih lo h1 (rise_less (by omega) h2.2)
  · intro x a b ih lo h1 h2; rw [and_eq]; rw [rise_cons] at h1 h2 ⊢; exact ⟨h1.1, ih x h1.2 h2.2⟩
theorem rise_or : ∀ (a b : List Int) (lo : Int), rise lo a = true → rise lo b = true → rise lo (orL a b) = true := by
  refine two ?_ ?_ ?_ ?_ ?_
  · intro b lo _ h; rw [or_nil]; exact h
  · intro a lo h _; rw [or_nil']; exact h
  · intro x y a b h ih lo h1 h2; rw [or_lt h]; rw [rise_cons] at h1 h2 ⊢; exact ⟨h1.1, ih x h1.2 ((rise_cons _ _ _).2 ⟨h, h2.2⟩)⟩
  · intro x y a b h ih lo h1 h2; rw [or_gt h]; rw [rise_cons] at h1 h2 ⊢; exact ⟨h2.1, ih y ((rise_cons _ _ _).2 ⟨h, h1.2⟩) h2.2⟩
  · intro x a b ih lo h1 h2; rw [or_eq]; rw [rise_cons] at h1 h2 ⊢; exact ⟨h1.1, ih x h1.2 h2.2⟩
theorem rise_diff : ∀ (a b : List Int) (lo : Int), rise lo a = true → rise lo (lessL a b) = true := by
  refine two ?_ ?_ ?_ ?_ ?_
  · intro b lo h; rw [less_nil]; rfl
  · intro a lo h; rw [less_nil']; exact h
  · intro x y a b h ih lo h1; rw [less_lt h]; rw [rise_cons] at h1 ⊢; exact ⟨h1.1, ih x h1.2⟩
  · intro x y a b h ih lo h1; rw [less_gt h]; exact ih lo h1
  · intro x a b ih lo h1; rw [less_eq]; rw [rise_cons] at h1; exact ih lo (rise_less (by omega) h1.2)
theorem not_in {lo x : Int} {l : List Int} (h : rise lo l = true) (hx : x ≤ lo) : x ∉ l := fun hm => by have := rise_mem h x hm; omega
theorem mem_and : ∀ (a b : List Int) (lo : Int), rise lo a = true → rise lo b = true → ∀ z, z ∈ andL a b ↔ z ∈ a ∧ z ∈ b := by
  refine two ?_ ?_ ?_ ?_ ?_
  · intro b lo _ _ z; rw [and_nil]; simp
  · intro a lo _ _ z; rw [and_nil']; simp
  · intro x y a b h ih lo h1 h2 z
    rw [and_lt h]
    rw [rise_cons] at h1
    have hn := not_in (x := x) h2
    rw [ih lo (rise_less (by omega) h1.2) h2 z]
    have : x ∉ y :: b := by
      rw [rise_cons] at h2
      intro hm
      rcases List.mem_cons.1 hm with e | hm
      · omega
      · exact not_in h2.2 (by omega) hm
    constructor
    · rintro ⟨p, q⟩; exact ⟨List.mem_cons_of_mem _ p, q⟩
    · rintro ⟨p, q⟩
      rcases List.mem_cons.1 p with e | p
      · subst e; exact absurd q this
      · exact ⟨p, q⟩
  · intro x y a b h ih lo h1 h2 z
    rw [and_gt h]
    rw [rise_cons] at h2
    rw [ih lo h1 (rise_less (by omega) h2.2) z]
    have : y ∉ x :: a := by
      rw [rise_cons] at h1
      intro hm
      rcases List.mem_cons.1 hm with e | hm
      · omega
      · exact not_in h1.2 (by omega) hm
    constructor
    · rintro ⟨p, q⟩; exact ⟨p, List.mem_cons_of_mem _ q⟩
    · rintro ⟨p, q⟩
      rcases List.mem_cons.1 q with e | q
      · subst e; exact absurd p this
      · exact ⟨p, q⟩
  · intro x a b ih lo h1 h2 z
    rw [and_eq]
    rw [rise_cons] at h1 h2
    simp only [List.mem_cons]
    rw [ih x h1.2 h2.2 z]
    constructor
    · rintro (e | ⟨p, q⟩)
      · exact ⟨.inl e, .inl e⟩
      · exact ⟨.inr p, .inr q⟩
    · rintro ⟨p, q⟩
      rcases p with e | p
      · exact .inl e
      · rcases q with e | q
        · exact .inl e
        · exact .inr ⟨p, q⟩
theorem mem_or : ∀ (a b : List Int) z, z ∈ orL a b ↔ z ∈ a ∨ z ∈ b := by
  refine two ?_ ?_ ?_ ?_ ?_
  · intro b z; rw [or_nil]; simp
  · intro a z; rw [or_nil']; simp
  · intro x y a b h ih z; rw [or_lt h, List.mem_cons, ih z]; simp only [List.mem_cons]; exact or_assoc.symm
  · intro x y a b h ih z; rw [or_gt h, List.mem_cons, ih z]; simp only [List.mem_cons]; exact or_left_comm
  · intro x a b ih z; rw [or_eq, List.mem_cons, ih z]; simp only [List.mem_cons]
    constructor
    · rintro (e | p | q)
      · exact .inl (.inl e)
      · exact .inl (.inr p)
      · exact .inr (.inr q)
    · rintro ((e | p) | (e | q))
      · exact .inl e
      · exact .inr (.inl p)
      · exact .inl e
      · exact .inr (.inr q)
theorem mem_less : ∀ (a b : List Int) (lo : Int), rise lo a = true → rise lo b = true → ∀ z, z ∈ lessL a b ↔ z ∈ a ∧ z ∉ b := by
  refine two ?_ ?_ ?_ ?_ ?_
  · intro b lo _ _ z; rw [less_nil]; simp
  · intro a lo _ _ z; rw [less_nil']; simp
  · intro x y a b h ih lo h1 h2 z
    rw [less_lt h]
    rw [rise_cons] at h1
    have : x ∉ y :: b := by
      rw [rise_cons] at h2
      intro hm
      rcases List.mem_cons.1 hm with e | hm
      · omega
      · exact not_in h2.2 (by omega) hm
    rw [List.mem_cons, ih lo (rise_less (by omega) h1.2) h2 z]
    constructor
    · rintro (e | ⟨p, q⟩)
      · subst e; exact ⟨by simp, this⟩
      · exact ⟨List.mem_cons_of_mem _ p, q⟩
    · rintro ⟨p, q⟩
      rcases List.mem_cons.1 p with e | p
      · exact .inl e
      · exact .inr ⟨p, q⟩
  · intro x y a b h ih lo h1 h2 z
    rw [less_gt h]
    rw [rise_cons] at h2
    have : y ∉ x :: a := by
      rw [rise_cons] at h1
      intro hm
      rcases List.mem_cons.1 hm with e | hm
      · omega
      · exact not_in h1.2 (by omega) hm
    rw [ih lo h1 (rise_less (by omega) h2.2) z]
    constructor
    · rintro ⟨p, q⟩
      refine ⟨p, fun hm => ?_⟩
      rcases List.mem_cons.1 hm with e | hm
      · subst e; exact this p
      · exact q hm
    · rintro ⟨p, q⟩; exact ⟨p, fun hm => q (List.mem_cons_of_mem _ hm)⟩
  · intro x a b ih lo h1 h2 z
    rw [less_eq]
    rw [rise_cons] at h1 h2
    have ha := not_in (x := x) h1.2 (by omega)
    rw [ih x h1.2 h2.2 z]
    constructor
    · rintro ⟨p, q⟩
      refine ⟨List.mem_cons_of_mem _ p, fun hm => ?_⟩
      rcases List.mem_cons.1 hm with e | hm
      · subst e; exact ha p
      · exact q hm
    · rintro ⟨p, q⟩
      rcases List.mem_cons.1 p with e | p
      · subst e; exact absurd (List.mem_cons_self) q
      · exact ⟨p, fun hm => q (List.mem_cons_of_mem _ hm)⟩
/-- rising lists of the same numbers are the same -/
theorem rise_ext : ∀ (a b : List Int) (lo : Int), rise lo a = true → rise lo b = true → (∀ z, z ∈ a ↔ z ∈ b) → a = b := by
  refine two ?_ ?_ ?_ ?_ ?_
  · intro b lo _ _ h
    cases b with
    | nil => rfl
    | cons y b => have := (h y).2 (by simp); simp at this
  · intro a lo _ _ h
    cases a with
    | nil => rfl
    | cons y b => have := (h y).1 (by simp); simp at this
  · intro x y a b hxy _ lo h1 h2 h
    rw [rise_cons] at h2
    rcases List.mem_cons.1 ((h x).1 (by simp)) with e | hm
    · omega
    · exact absurd hm (not_in h2.2 (by omega))
  · intro x y a b hxy _ lo h1 h2 h
    rw [rise_cons] at h1
    rcases List.mem_cons.1 ((h y).2 (by simp)) with e | hm
    · omega
    · exact absurd hm (not_in h1.2 (by omega))
  · intro x a b ih lo h1 h2 h
    rw [rise_cons] at h1 h2
    rw [ih x h1.2 h2.2 fun z => ?_]
    have hz := h z
    simp only [List.mem_cons] at hz
    constructor
    · intro hm
      rcases hz.1 (.inr hm) with e | hm'
      · subst e; exact absurd hm (not_in h1.2 (by omega))
      · exact hm'
    · intro hm
      rcases hz.2 (.inr hm) with e | hm'
      · subst e; exact absurd hm (not_in h2.2 (by omega))
      · exact hm'
section
variable {a b c : List Int}
theorem law_and (ha : rise (-1) a = true) (hb : rise (-1) b = true) : andL a b = andL b a :=
  rise_ext _ _ (-1) (rise_and _ _ _ ha hb) (rise_and _ _ _ hb ha) fun z => by rw [mem_and _ _ _ ha hb, mem_and _ _ _ hb ha]; exact and_comm
theorem law_or (ha : rise (-1) a = true) (hb : rise (-1) b = true) : orL a b = orL b a :=
  rise_ext _ _ (-1) (rise_or _ _ _ ha hb) (rise_or _ _ _ hb ha) fun z => by rw [mem_or, mem_or]; exact or_comm
theorem law_or1 (a : List Int) : orL a a = a := by
  induction a with
  | nil => rw [or_nil]
  | cons x a ih => rw [or_eq, ih]
theorem law_and1 (a : List Int) : andL a a = a := by
  induction a with
  | nil => rw [and_nil]
  | cons x a ih => rw [and_eq, ih]
theorem law_less1 (a : List Int) : lessL a a = [] := by
  induction a with
  | nil => rw [less_nil]
  | cons x a ih => rw [less_eq, ih]
theorem law_part (ha : rise (-1) a = true) (hb : rise (-1) b = true) : orL (andL a b) (lessL a b) = a :=
  rise_ext _ _ (-1) (rise_or _ _ _ (rise_and _ _ _ ha hb) (rise_diff _ _ _ ha)) ha fun z => by
    rw [mem_or, mem_and _ _ _ ha hb, mem_less _ _ _ ha hb]
    by_cases h : z ∈ b <;> simp [h]
theorem law_dist (ha : rise (-1) a = true) (hb : rise (-1) b = true) (hc : rise (-1) c = true) : andL a (orL b c) = orL (andL a b) (andL a c) :=
  rise_ext _ _ (-1) (rise_and _ _ _ ha (rise_or _ _ _ hb hc)) (rise_or _ _ _ (rise_and _ _ _ ha hb) (rise_and _ _ _ ha hc)) fun z => by
    rw [mem_or, mem_and _ _ _ ha hb, mem_and _ _ _ ha hc, mem_and _ _ _ ha (rise_or _ _ _ hb hc), mem_or]; exact and_or_left
theorem law_two (ha : rise (-1) a = true) (hb : rise (-1) b = true) (hc : rise (-1) c = true) : lessL a (orL b c) = lessL (lessL a b) c :=
  rise_ext _ _ (-1) (rise_diff _ _ _ ha) (rise_diff _ _ _ (rise_diff _ _ _ ha)) fun z => by
    rw [mem_less _ _ _ ha (rise_or _ _ _ hb hc), mem_less _ _ _ (rise_diff _ _ _ ha) hc, mem_less _ _ _ ha hb, mem_or]
    by_cases h : z ∈ b <;> simp [h]
end
end Go.Proofs.YthhgelaifapmmaaDoor.M
