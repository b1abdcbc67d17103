/-
  Plain mathematics of package merge (lists in order as one): no Go in it.
-/
import Derived.Test.YtpnhjcedhcgglaaMatchMath
namespace Go.Proofs.Ytpnhjcedhcgglaa.M
set_option linter.unusedVariables false
section
variable {α : Type} (ah : α → α → Bool)
/-- two lists as one, those of the first ahead of what they stand with -/
def mrg : List α → List α → List α
  | [], b => b
  | a :: as, [] => a :: as
  | a :: as, b :: bs => if ah b a then b :: mrg (a :: as) bs else a :: mrg as (b :: bs)
termination_by a b => a.length + b.length
/-- no one stands behind one that it comes ahead of -/
def MOrd : List α → Prop
  | [] => True
  | a :: as => (∀ x ∈ as, ah x a = false) ∧ MOrd as
structure MPre : Prop where
  tr : ∀ {a b c}, ah b a = false → ah c b = false → ah c a = false
  as : ∀ {a b}, ah a b = true → ah b a = false
variable {ah}
theorem MPre.tr2 (h : MPre ah) {a b c : α} (h1 : ah a b = true) (h2 : ah c b = false) : ah a c = true := by
  cases e : ah a c with
  | true => rfl
  | false => have := h.tr h2 e; rw [h1] at this; cases this
theorem MPre.irr (h : MPre ah) (a : α) : ah a a = false := by
  cases e : ah a a with
  | false => rfl
  | true => have := h.as e; rw [e] at this; cases this
@[simp] theorem mrg_nil (b : List α) : mrg ah [] b = b := by rw [mrg]
@[simp] theorem mrg_nil2 (a : List α) : mrg ah a [] = a := by cases a <;> rw [mrg]
theorem mrg_cons (a : α) (as : List α) (b : α) (bs : List α) : mrg ah (a :: as) (b :: bs) = if ah b a then b :: mrg ah (a :: as) bs else a :: mrg ah as (b :: bs) := by rw [mrg]
theorem mrg_b {a b : α} (h : ah b a = true) (as bs : List α) : mrg ah (a :: as) (b :: bs) = b :: mrg ah (a :: as) bs := by rw [mrg_cons, if_pos h]
theorem mrg_a {a b : α} (h : ah b a = false) (as bs : List α) : mrg ah (a :: as) (b :: bs) = a :: mrg ah as (b :: bs) := by rw [mrg_cons, if_neg (by simp [h])]
theorem mrg_len (a b : List α) : (mrg ah a b).length = a.length + b.length := by
  induction hn : a.length + b.length generalizing a b with
  | zero => 
    obtain rfl : a = [] := List.eq_nil_of_length_eq_zero (by omega)
    obtain rfl : b = [] := List.eq_nil_of_length_eq_zero (by omega)
    simp
  | succ n ih =>
    cases a with
    | nil => simp at hn ⊢; omega
    | cons x xs => cases b with
      | nil => simp at hn ⊢; omega
      | cons y ys =>
        rw [mrg_cons]
        simp only [List.length_cons] at hn
        split
        · rw [List.length_cons, ih _ _ (by simp only [List.length_cons]; omega)]
        · rw [List.length_cons, ih _ _ (by simp only [List.length_cons]; omega)]
theorem mrg_mem {a b : List α} {z : α} : z ∈ mrg ah a b ↔ z ∈ a ∨ z ∈ b := by
  induction hn : a.length + b.length using Nat.strongRecOn generalizing a b with
  | _ n ih =>
    cases a with
    | nil => simp
    | cons x xs => cases b with
      | nil => simp
      | cons y ys =>
        simp only [List.length_cons] at hn
        rw [mrg_cons]
        split
        · rw [List.mem_cons, ih _ (by simp only [List.length_cons]; omega) rfl]
          simp only [List.mem_cons]; grind
        · rw [List.mem_cons, ih _ (by simp only [List.length_cons]; omega) rfl]
          simp only [List.mem_cons]; grind
theorem mrg_ord (hp : MPre ah) {a b : List α} (h1 : MOrd ah a) (h2 : MOrd ah b) : MOrd ah (mrg ah a b) := by
  induction hn : a.length + b.length using Nat.strongRecOn generalizing a b with
  | _ n ih =>
    cases a with
    | nil => simpa using h2
    | cons x xs => cases b with
      | nil => simpa using h1
      | cons y ys =>
        simp only [List.length_cons] at hn
        cases e : ah y x with
        | true =>
          rw [mrg_b e]
          refine ⟨fun z hz => ?_, ih _ (by simp only [List.length_cons]; omega) h1 h2.2 rfl⟩
          rcases mrg_mem.1 hz with hz | hz
          · rcases List.mem_cons.1 hz with rfl | hz
            · exact hp.as e
            · exact hp.tr (hp.as e) (h1.1 z hz)
          · exact h2.1 z hz
        | false =>
          rw [mrg_a e]
          refine ⟨fun z hz => ?_, ih _ (by simp only [List.length_cons]; omega) h1.2 h2 rfl⟩
          rcases mrg_mem.1 hz with hz | hz
          · exact h1.1 z hz
          · rcases List.mem_cons.1 hz with rfl | hz
            · exact e
            · exact hp.tr e (h2.1 z hz)
theorem mrg_assoc (hp : MPre ah) (a b c : List α) : mrg ah (mrg ah a b) c = mrg ah a (mrg ah b c) := by
  induction hn : a.length + b.length + c.length using Nat.strongRecOn generalizing a b c with
  | _ n ih =>
    cases a with
    | nil => simp
    | cons x xs => cases b with
      | nil => simp
      | cons y ys => cases c with
        | nil => simp
        | cons z zs =>
          simp only [List.length_cons] at hn
          cases e : ah y x with
          | false =>
            have i1 := ih _ (by simp only [List.length_cons]; omega) xs (y :: ys) (z :: zs) rfl
            have i2 := ih _ (by simp only [List.length_cons]; omega) (x :: xs) (y :: ys) zs rfl
            rw [mrg_a e] at i2 ⊢
            cases f : ah z y with
            | false =>
              rw [mrg_a f] at i1 ⊢
              rw [mrg_a (hp.tr e f), mrg_a e, i1]
            | true =>
              rw [mrg_b f] at i1 ⊢
              cases g : ah z x with
              | false => rw [mrg_a g, mrg_a g, i1]
              | true => rw [mrg_b g, mrg_b g, i2]
          | true =>
            have i1 := ih _ (by simp only [List.length_cons]; omega) (x :: xs) ys (z :: zs) rfl
            have i2 := ih _ (by simp only [List.length_cons]; omega) (x :: xs) (y :: ys) zs rfl
            rw [mrg_b e] at i2 ⊢
            cases f : ah z y with
            | false =>
              rw [mrg_a f]
              rw [mrg_a f, mrg_b e, i1]
            | true =>
              have g : ah z x = true := hp.tr2 f (hp.as e)
              rw [mrg_b f, mrg_b f, mrg_b g, i2]
/-- lists as one -/
def mall (ah : α → α → Bool) (l : List (List α)) : List α := l.foldl (mrg ah) []
theorem mall_from (hp : MPre ah) : ∀ (l : List (List α)) (a : List α), l.foldl (mrg ah) a = mrg ah a (mall ah l)
  | [], a => by simp [mall]
  | x :: l, a => by
    show l.foldl (mrg ah) (mrg ah a x) = mrg ah a (l.foldl (mrg ah) (mrg ah [] x))
    rw [mall_from hp l, mall_from hp l (mrg ah [] x), mrg_nil, mrg_assoc hp]
theorem mall_app (hp : MPre ah) (l r : List (List α)) : mall ah (l ++ r) = mrg ah (mall ah l) (mall ah r) := by
  show (l ++ r).foldl (mrg ah) [] = _
  rw [List.foldl_append, mall_from hp]; rfl
theorem mall_one (a : List α) : mall ah [a] = a := by simp [mall]
theorem mall_ord (hp : MPre ah) {l : List (List α)} (h : ∀ x ∈ l, MOrd ah x) : MOrd ah (mall ah l) := by
  have : ∀ (l : List (List α)) (a : List α), (∀ x ∈ l, MOrd ah x) → MOrd ah a → MOrd ah (l.foldl (mrg ah) a) := by
    intro l
    induction l with
    | nil => intro a _ h; exact h
    | cons x l ih => intro a h1 h2; exact ih _ (fun y hy => h1 y (by simp [hy])) (mrg_ord hp h2 (h1 x (by simp)))
  exact this l [] h trivial
theorem mall_mem {l : List (List α)} {z : α} : z ∈ mall ah l ↔ ∃ x ∈ l, z ∈ x := by
  have : ∀ (l : List (List α)) (a : List α), z ∈ l.foldl (mrg ah) a ↔ z ∈ a ∨ ∃ x ∈ l, z ∈ x := by
    intro l
    induction l with
    | nil => intro a; simp
    | cons x l ih => intro a; show z ∈ l.foldl (mrg ah) (mrg ah a x) ↔ _; rw [ih, mrg_mem]; simp only [List.mem_cons]; grind
  have := this l []
  simpa [mall] using this
theorem mall_len (l : List (List α)) : (mall ah l).length = (l.map List.length).sum := by
  have : ∀ (l : List (List α)) (a : List α), (l.foldl (mrg ah) a).length = a.length + (l.map List.length).sum := by
    intro l
    induction l with
    | nil => intro a; simp
    | cons x l ih => intro a; show (l.foldl (mrg ah) (mrg ah a x)).length = _; rw [ih, mrg_len]; simp; omega
  have := this l []
  simpa [mall] using this
/-- the first ones of two lists hang on their first ones alone -/
theorem mrg_take (a b : List α) (n : Nat) : (mrg ah (a.take n) (b.take n)).take n = (mrg ah a b).take n := by
  have key : ∀ (n i j : Nat) (a b : List α), n ≤ i → n ≤ j → (mrg ah (a.take i) (b.take j)).take n = (mrg ah a b).take n := by
    intro n
    induction n with
    | zero => intros; simp
    | succ n ih =>
      intro i j a b hi hj
      obtain ⟨i, rfl⟩ : ∃ k, i = k + 1 := ⟨i - 1, by omega⟩
      obtain ⟨j, rfl⟩ : ∃ k, j = k + 1 := ⟨j - 1, by omega⟩
      cases a with
      | nil => simp [List.take_take, Nat.min_eq_left hj]
      | cons x xs => cases b with
        | nil => rw [List.take_nil, mrg_nil2, mrg_nil2, List.take_take, Nat.min_eq_left (by omega)]
        | cons y ys =>
          cases e : ah y x with
          | true =>
            have := ih (i + 1) j (x :: xs) ys (by omega) (by omega)
            rw [List.take_succ_cons] at this
            rw [List.take_succ_cons, List.take_succ_cons, mrg_b e, mrg_b e, List.take_succ_cons, List.take_succ_cons, this]
          | false =>
            have := ih i (j + 1) xs (y :: ys) (by omega) (by omega)
            rw [List.take_succ_cons] at this
            rw [List.take_succ_cons, List.take_succ_cons, mrg_a e, mrg_a e, List.take_succ_cons, List.take_succ_cons, this]
  exact key n n n a b (Nat.le_refl _) (Nat.le_refl _)
theorem mrg_filter (hp : MPre ah) (p : α → Bool) {a b : List α} (h1 : MOrd ah a) (h2 : MOrd ah b) : (mrg ah a b).filter p = mrg ah (a.filter p) (b.filter p) := by
  induction hn : a.length + b.length using Nat.strongRecOn generalizing a b with
  | _ n ih =>
    cases a with
    | nil => simp
    | cons x xs => cases b with
      | nil => simp
      | cons y ys =>
        simp only [List.length_cons] at hn
        cases e : ah y x with
        | true =>
          have i1 := ih _ (by simp only [List.length_cons]; omega) h1 h2.2 rfl
          rw [mrg_b e]
          cases hy : p y with
          | false => rw [List.filter_cons_of_neg (by simp [hy]), i1, List.filter_cons_of_neg (a := y) (by simp [hy])]
          | true =>
            rw [List.filter_cons_of_pos hy, i1, List.filter_cons_of_pos (a := y) hy]
            generalize hf : List.filter p (x :: xs) = f
            cases f with
            | nil => simp
            | cons x' f =>
              have hx : x' ∈ x :: xs := (List.mem_filter.1 (show x' ∈ List.filter p (x :: xs) by rw [hf]; simp)).1
              rw [mrg_b (hp.tr2 e (by rcases List.mem_cons.1 hx with rfl | hx; exact hp.irr _; exact h1.1 _ hx))]
        | false =>
          have i1 := ih _ (by simp only [List.length_cons]; omega) h1.2 h2 rfl
          rw [mrg_a e]
          cases hx : p x with
          | false => rw [List.filter_cons_of_neg (by simp [hx]), i1, List.filter_cons_of_neg (a := x) (by simp [hx])]
          | true =>
            rw [List.filter_cons_of_pos hx, i1, List.filter_cons_of_pos (a := x) hx]
            generalize hf : List.filter p (y :: ys) = f
            cases f with
            | nil => simp
            | cons y' f =>
              have hy : y' ∈ y :: ys := (List.mem_filter.1 (show y' ∈ List.filter p (y :: ys) by rw [hf]; simp)).1
              rw [mrg_a (hp.tr e (by rcases List.mem_cons.1 hy with rfl | hy; exact hp.irr _; exact h2.1 _ hy))]
theorem ord_filter (p : α → Bool) : ∀ {a : List α}, MOrd ah a → MOrd ah (a.filter p)
  | [], _ => trivial
  | x :: xs, h => by
    have ih := ord_filter p h.2
    cases hx : p x with
    | false => rw [List.filter_cons_of_neg (by simp [hx])]; exact ih
    | true => rw [List.filter_cons_of_pos hx]; exact ⟨fun z hz => h.1 z (List.mem_filter.1 hz).1, ih⟩
theorem mall_filter (hp : MPre ah) (p : α → Bool) {l : List (List α)} (h : ∀ x ∈ l, MOrd ah x) : (mall ah l).filter p = mall ah (l.map (List.filter p)) := by
  have : ∀ (l : List (List α)) (a : List α), (∀ x ∈ l, MOrd ah x) → MOrd ah a → (l.foldl (mrg ah) a).filter p = (l.map (List.filter p)).foldl (mrg ah) (a.filter p) := by
    intro l
    induction l with
    | nil => intros; rfl
    | cons x l ih =>
      intro a h1 h2
      show (l.foldl (mrg ah) (mrg ah a x)).filter p = (l.map (List.filter p)).foldl (mrg ah) (mrg ah (a.filter p) (x.filter p))
      rw [ih _ (fun y hy => h1 y (by simp [hy])) (mrg_ord hp h2 (h1 x (by simp))), mrg_filter hp p h2 (h1 x (by simp))]
  exact this l [] h trivial
/-- one more, behind those that it stands with -/
def dput (ah : α → α → Bool) (l : List α) (d : α) : List α := mrg ah l [d]
theorem put_all (hp : MPre ah) : ∀ (l : List α) (a : List α), MOrd ah l → l.foldl (dput ah) a = mrg ah a l
  | [], a, _ => by simp
  | x :: xs, a, h => by
    show xs.foldl (dput ah) (dput ah a x) = _
    rw [put_all hp xs _ h.2, dput, mrg_assoc hp]
    congr 1
    cases xs with
    | nil => simp
    | cons y ys => rw [mrg_a (h.1 y (by simp)), mrg_nil]
theorem puts_all (hp : MPre ah) (l : List (List α)) (h : ∀ x ∈ l, MOrd ah x) (a : List α) : l.flatten.foldl (dput ah) a = l.foldl (mrg ah) a := by
  induction l generalizing a with
  | nil => rfl
  | cons x l ih => rw [List.flatten_cons, List.foldl_append, put_all hp x a (h x (by simp)), ih (fun y hy => h y (by simp [hy]))]; rfl
/-- where it comes to stand: ahead of the first one that it comes ahead of -/
theorem put_at (hp : MPre ah) {l : List α} {d : α} {k : Nat} (hk : k ≤ l.length) (h : MOrd ah l) (h1 : ∀ i (hi : i < l.length), k ≤ i → ah d l[i] = true) (h2 : ∀ (h0 : 0 < k), ah d (l[k - 1]'(by omega)) = false) : dput ah l d = l.take k ++ d :: l.drop k := by
  induction l generalizing k with
  | nil => simp [dput]
  | cons x xs ih =>
    unfold dput
    cases k with
    | zero => rw [mrg_b (show ah d x = true from h1 0 (by simp) (Nat.le_refl _))]; simp
    | succ k =>
      have hx : ah d x = false := by
        cases k with
        | zero => exact h2 (by omega)
        | succ k =>
          have h3 := h2 (by omega)
          have h4 : (x :: xs)[k + 1 + 1 - 1] = xs[k]'(by simp at hk; omega) := rfl
          rw [h4] at h3
          exact hp.tr (h.1 _ (List.getElem_mem _)) h3
      rw [mrg_a hx]
      have := ih (k := k) (by simpa using hk) h.2 (fun i hi hki => h1 (i + 1) (by simpa using hi) (by omega)) (fun h0 => by
        have h3 := h2 (by omega)
        have h4 : (x :: xs)[k + 1 - 1] = (x :: xs)[(k - 1) + 1]'(by simp at hk ⊢; omega) := by congr 1; omega
        rw [h4] at h3
        exact h3)
      unfold dput at this
      rw [this]; rfl
theorem ord_of {l : List α} (hp : MPre ah) (h : ∀ i (hi : i + 1 < l.length), ah l[i + 1] l[i] = false) : MOrd ah l := by
  induction l with
  | nil => trivial
  | cons x xs ih =>
    have h' := ih (fun i hi => h (i + 1) (by simpa using hi))
    refine ⟨fun z hz => ?_, h'⟩
    cases xs with
    | nil => simp at hz
    | cons y ys =>
      have hyx : ah y x = false := h 0 (by simp)
      rcases List.mem_cons.1 hz with rfl | hz
      · exact hyx
      · exact hp.tr hyx (h'.1 z hz)
theorem ord_at {l : List α} (h : MOrd ah l) {i j : Nat} (hij : i < j) (hj : j < l.length) : ah l[j] l[i] = false := by
  induction l generalizing i j with
  | nil => simp at hj
  | cons x xs ih =>
    cases j with
    | zero => omega
    | succ j => cases i with
      | zero => exact h.1 _ (List.getElem_mem _)
      | succ i => exact ih h.2 (by omega) (by simpa using hj)
theorem ord_take : ∀ {l : List α} (k : Nat), MOrd ah l → MOrd ah (l.take k)
  | [], k, _ => by simp [MOrd]
  | x :: xs, 0, _ => trivial
  | x :: xs, k + 1, h => ⟨fun z hz => h.1 z (List.mem_of_mem_take hz), ord_take k h.2⟩
/-- in order, and no two stand together -/
def MStr : List α → (α → α → Bool) → Prop
  | [], _ => True
  | a :: as, ah => (∀ x ∈ as, ah a x = true) ∧ MStr as ah
theorem str_of {l : List α} (hp : MPre ah) (h : ∀ i (hi : i + 1 < l.length), ah l[i] l[i + 1] = true) : MStr l ah := by
  induction l with
  | nil => trivial
  | cons x xs ih =>
    have h' := ih (fun i hi => h (i + 1) (by simpa using hi))
    refine ⟨fun z hz => ?_, h'⟩
    cases xs with
    | nil => simp at hz
    | cons y ys =>
      have hxy : ah x y = true := h 0 (by simp)
      rcases List.mem_cons.1 hz with rfl | hz
      · exact hxy
      · exact hp.tr2 hxy (hp.as (h'.1 z hz))
theorem str_drop : ∀ {p q : List α}, MStr (p ++ q) ah → MStr q ah
  | [], _, h => h
  | x :: p, q, h => str_drop (p := p) h.2
theorem str_filter (hp : MPre ah) {p q : List α} {z : α} (h : MStr (p ++ z :: q) ah) : (p ++ z :: q).filter (ah z) = q := by
  have hz : MStr (z :: q) ah := str_drop h
  have hpz : ∀ x ∈ p, ah z x = false := by
    clear hz
    induction p with
    | nil => intro x hx; simp at hx
    | cons y p ih =>
      intro x hx
      rcases List.mem_cons.1 hx with rfl | hx
      · exact hp.as (h.1 z (by simp))
      · exact ih h.2 x hx
  rw [List.filter_append, List.filter_eq_nil_iff.2 (fun x hx => by simp [hpz x hx]), List.nil_append, List.filter_cons_of_neg (by simp [hp.irr z])]
  exact List.filter_eq_self.2 (fun x hx => hz.1 x hx)
theorem str_ord (hp : MPre ah) : ∀ {l : List α}, MStr l ah → MOrd ah l
  | [], _ => trivial
  | x :: xs, h => ⟨fun z hz => hp.as (h.1 z hz), str_ord hp h.2⟩
theorem mrg_snoc (a b : List α) (x : α) (h : ∀ y ∈ a, ah x y = false) : mrg ah a (b ++ [x]) = mrg ah a b ++ [x] := by
  induction hn : a.length + b.length using Nat.strongRecOn generalizing a b with
  | _ n ih =>
    cases a with
    | nil => simp
    | cons u us => cases b with
      | nil =>
        simp only [List.length_cons] at hn
        rw [List.nil_append, mrg_a (h u (by simp)), mrg_nil2]
        have := ih us.length (by simp at hn; omega) us [] (fun y hy => h y (by simp [hy])) (by simp)
        rw [List.nil_append, mrg_nil2] at this
        rw [this]; rfl
      | cons y ys =>
        simp only [List.length_cons] at hn
        cases e : ah y u with
        | true =>
          rw [List.cons_append, mrg_b e, mrg_b e, ih _ (by simp only [List.length_cons]; omega) (u :: us) ys h rfl]; rfl
        | false =>
          have := ih _ (by simp only [List.length_cons]; omega) us (y :: ys) (fun z hz => h z (by simp [hz])) rfl
          rw [List.cons_append] at this
          rw [List.cons_append, mrg_a e, mrg_a e, this]; rfl
theorem mrg_snoc1 (a b : List α) (x : α) (h : ∀ y ∈ b, ah y x = true) : mrg ah (a ++ [x]) b = mrg ah a b ++ [x] := by
  induction hn : a.length + b.length using Nat.strongRecOn generalizing a b with
  | _ n ih =>
    cases b with
    | nil => simp
    | cons y ys => cases a with
      | nil =>
        simp only [List.length_cons] at hn
        rw [List.nil_append, mrg_b (h y (by simp)), mrg_nil]
        have := ih ys.length (by simp at hn; omega) [] ys (fun z hz => h z (by simp [hz])) (by simp)
        rw [List.nil_append, mrg_nil] at this
        rw [this]; rfl
      | cons u us =>
        simp only [List.length_cons] at hn
        cases e : ah y u with
        | true =>
          have := ih _ (by simp only [List.length_cons]; omega) (u :: us) ys (fun z hz => h z (by simp [hz])) rfl
          rw [List.cons_append] at this
          rw [List.cons_append, mrg_b e, mrg_b e, this]; rfl
        | false =>
          rw [List.cons_append, mrg_a e, mrg_a e, ih _ (by simp only [List.length_cons]; omega) us (y :: ys) h rfl]; rfl
/-- one more at the end of one of the lists, ahead of which all stand -/
theorem mall_snoc (hp : MPre ah) {l : List (List α)} {k : Nat} (hk : k < l.length) (x : α) (h : ∀ y ∈ l, ∀ z ∈ y, ah z x = true) : mall ah (l.set k (l[k] ++ [x])) = mall ah l ++ [x] := by
  have e1 : l = l.take k ++ [l[k]] ++ l.drop (k + 1) := by
    rw [List.append_assoc, List.singleton_append, ← List.drop_eq_getElem_cons hk, List.take_append_drop]
  have e2 : l.set k (l[k] ++ [x]) = l.take k ++ [l[k] ++ [x]] ++ l.drop (k + 1) := by
    rw [List.set_eq_take_append_cons_drop, if_pos hk]; simp
  have e3 : mall ah l = mall ah (l.take k ++ [l[k]] ++ l.drop (k + 1)) := by rw [← e1]
  rw [e2, e3, mall_app hp, mall_app hp, mall_app hp, mall_app hp, mall_one, mall_one]
  rw [mrg_snoc _ _ _ (fun y hy => ?_), mrg_snoc1 _ _ _ (fun y hy => ?_)]
  · obtain ⟨r, hr, hy⟩ := mall_mem.1 hy
    exact h r (List.mem_of_mem_drop hr) y hy
  · obtain ⟨r, hr, hy⟩ := mall_mem.1 hy
    exact hp.as (h r (List.mem_of_mem_take hr) y hy)
end

theorem ahead_pre : MPre ahead where
  tr := fun h1 h2 => ahead_trans h1 h2
  as := fun {a b} h => by rcases order_cases a b with ⟨_, h1, h2⟩ | ⟨_, h1, h2, _⟩ | ⟨_, h1, h2⟩ <;> simp_all
end Go.Proofs.Ytpnhjcedhcgglaa.M
