/-
  Files in the order of their names, as lists, of no program: found, set, taken out, laid in.
-/
namespace Go.Proofs.YtjdkpcibdjhdoaaDoor.FM

/-- a file: its name, its bytes, how many of them are durable; where its struct lies, and the value of its slice (X) -/
structure File (X : Type) where
  name : List UInt8
  data : List UInt8
  sure : Nat
  x : X

section
variable {X Y : Type}
def find (n : List UInt8) (l : List (File X)) : Option (File X) := l.find? fun f => f.name == n
def del (n : List UInt8) (l : List (File X)) : List (File X) := l.filter fun f => f.name != n
def set (n : List UInt8) (h : File X → File X) (l : List (File X)) : List (File X) := l.map fun f => if f.name = n then h f else f
def ins (f : File X) : List (File X) → List (File X)
  | [] => [f]
  | g :: r => if f.name < g.name then f :: g :: r else g :: ins f r
/-- rising, no name twice -/
def Rise (l : List (File X)) : Prop := l.Pairwise fun f g => f.name < g.name
def names (l : List (File X)) : List (List UInt8) := l.map File.name
def used (l : List (File X)) : Nat := (l.map fun f => f.data.length).sum
def File.bare (f : File X) : File Unit := ⟨f.name, f.data, f.sure, ()⟩
def bare (l : List (File X)) : List (File Unit) := l.map File.bare

theorem find_name {n : List UInt8} {l : List (File X)} {f : File X} (h : find n l = some f) : f.name = n ∧ f ∈ l := by
  have := List.find?_some h
  exact ⟨by simpa using this, List.mem_of_find?_eq_some h⟩
theorem find_none {n : List UInt8} {l : List (File X)} (h : find n l = none) : ∀ f ∈ l, f.name ≠ n := by
  intro f hf e
  have := List.find?_eq_none.1 h f hf
  simp [e] at this
theorem find_mem {n : List UInt8} {l : List (File X)} (h : n ∈ names l) : ∃ f, find n l = some f := by
  cases hf : find n l with
  | some f => exact ⟨f, rfl⟩
  | none =>
    obtain ⟨f, h1, h2⟩ := List.mem_map.1 h
    exact absurd h2 (find_none hf f h1)
theorem Rise.tail {f : File X} {l : List (File X)} (h : Rise (f :: l)) : Rise l := (List.pairwise_cons.1 h).2
theorem lt_irrefl (a : List UInt8) : ¬ a < a := List.lt_irrefl a
theorem lt_trans {a b c : List UInt8} (h : a < b) (k : b < c) : a < c := List.lt_trans h k
theorem lt_of_not {a b : List UInt8} (h : ¬ a < b) (hn : a ≠ b) : b < a := by
  rcases Std.lt_trichotomy a b with h1 | h1 | h1
  · exact absurd h1 h
  · exact absurd h1 hn
  · exact h1
theorem Rise.names_nodup {l : List (File X)} (h : Rise l) : (names l).Nodup := by
  unfold names
  refine List.pairwise_map.2 (List.Pairwise.imp (fun {a b} hab => ?_) h)
  intro e; rw [e] at hab; exact lt_irrefl _ hab
/-- in a rising list a file is found by its name -/
theorem find_of_mem {l : List (File X)} (h : Rise l) {f : File X} (hf : f ∈ l) : find f.name l = some f := by
  induction l with
  | nil => cases hf
  | cons g r ih =>
    obtain ⟨h1, h2⟩ := List.pairwise_cons.1 h
    rcases List.mem_cons.1 hf with rfl | hr
    · simp [find]
    · have hne : g.name ≠ f.name := fun e => lt_irrefl _ (e ▸ h1 f hr)
      have := ih h2 hr
      unfold find at this ⊢
      rw [List.find?_cons_of_neg (by simpa using hne)]
      exact this

theorem mem_ins {f g : File X} {l : List (File X)} : g ∈ ins f l ↔ g = f ∨ g ∈ l := by
  induction l with
  | nil => simp [ins]
  | cons a r ih =>
    unfold ins
    split
    · simp
    · simp only [List.mem_cons, ih]
      constructor
      · rintro (h | h | h)
        · exact .inr (.inl h)
        · exact .inl h
        · exact .inr (.inr h)
      · rintro (h | h | h)
        · exact .inr (.inl h)
        · exact .inl h
        · exact .inr (.inr h)
theorem Rise.ins {f : File X} {l : List (File X)} (h : Rise l) (hn : find f.name l = none) : Rise (ins f l) := by
  induction l with
  | nil => simp [FM.ins, Rise]
  | cons a r ih =>
    obtain ⟨h1, h2⟩ := List.pairwise_cons.1 h
    have hna := find_none hn
    unfold FM.ins
    split
    · rename_i hlt
      refine List.pairwise_cons.2 ⟨fun g hg => ?_, h⟩
      rcases List.mem_cons.1 hg with rfl | hg
      · exact hlt
      · exact lt_trans hlt (h1 g hg)
    · rename_i hlt
      have hr : find f.name r = none := by
        unfold find
        refine List.find?_eq_none.2 fun g hg => ?_
        have := hna g (List.mem_cons_of_mem _ hg)
        simpa using this
      refine List.pairwise_cons.2 ⟨fun g hg => ?_, ih h2 hr⟩
      rcases mem_ins.1 hg with rfl | hg
      · exact lt_of_not hlt (fun e => hna a (by simp) e.symm)
      · exact h1 g hg
theorem Rise.del {n : List UInt8} {l : List (File X)} (h : Rise l) : Rise (del n l) := List.Pairwise.filter _ h
theorem Rise.set {n : List UInt8} {hh : File X → File X} {l : List (File X)} (h : Rise l) (hk : ∀ f, (hh f).name = f.name) : Rise (set n hh l) := by
  unfold Rise FM.set
  refine List.pairwise_map.2 (List.Pairwise.imp (fun {a b} hab => ?_) h)
  have e : ∀ f : File X, (if f.name = n then hh f else f).name = f.name := fun f => by split <;> simp [hk]
  rw [e, e]; exact hab

theorem find_ins {f : File X} {l : List (File X)} (hn : find f.name l = none) (n : List UInt8) : find n (ins f l) = if f.name = n then some f else find n l := by
  induction l with
  | nil =>
    simp only [ins, find, List.find?_cons, List.find?_nil]
    by_cases h : f.name = n
    · simp [h]
    · rw [if_neg h, show (f.name == n) = false by simpa using h]
  | cons a r ih =>
    have hna := find_none hn
    have hr : find f.name r = none := by
      unfold find
      refine List.find?_eq_none.2 fun g hg => ?_
      have := hna g (List.mem_cons_of_mem _ hg)
      simpa using this
    have ih := ih hr
    unfold ins
    split
    · unfold find
      by_cases h : f.name = n <;> simp [h, List.find?_cons]
    · unfold find at ih ⊢
      rw [List.find?_cons, ih, List.find?_cons]
      by_cases h : f.name = n
      · have : a.name ≠ n := fun e => hna a (by simp) (e.trans h.symm)
        rw [if_pos h, if_pos h, show (a.name == n) = false by simpa using this]
      · rw [if_neg h, if_neg h]
theorem find_del {l : List (File X)} (m n : List UInt8) : find n (del m l) = if n = m then none else find n l := by
  unfold find del
  by_cases h : n = m
  · subst h
    rw [if_pos rfl]
    refine List.find?_eq_none.2 fun g hg => ?_
    have := (List.mem_filter.1 hg).2
    simpa using this
  · rw [if_neg h]
    induction l with
    | nil => rfl
    | cons a r ih =>
      by_cases ha : a.name = m
      · have han : a.name ≠ n := fun e => h (e ▸ ha)
        have e1 : (a.name != m) = false := by simp [ha]
        have e2 : (a.name == n) = false := by simpa using han
        rw [List.filter_cons, e1, List.find?_cons, e2]
        exact ih
      · have e1 : (a.name != m) = true := by simp [ha]
        rw [List.filter_cons, e1, if_pos rfl, List.find?_cons, List.find?_cons, ih]
theorem find_set {l : List (File X)} {hh : File X → File X} (hk : ∀ f, (hh f).name = f.name) (m n : List UInt8) : find n (set m hh l) = (find n l).map fun f => if f.name = m then hh f else f := by
  unfold find set
  have e : ∀ f : File X, (if f.name = m then hh f else f).name = f.name := fun f => by split <;> simp [hk]
  induction l with
  | nil => rfl
  | cons a r ih =>
    rw [List.map_cons, List.find?_cons, List.find?_cons, e, ih]
    cases (a.name == n) <;> rfl

theorem bare_ins (f : File X) (l : List (File X)) : bare (ins f l) = ins f.bare (bare l) := by
  induction l with
  | nil => rfl
  | cons a r ih =>
    show bare (ins f (a :: r)) = ins f.bare (a.bare :: bare r)
    unfold ins
    show bare (if f.name < a.name then f :: a :: r else a :: ins f r) = if f.name < a.name then f.bare :: a.bare :: bare r else a.bare :: ins f.bare (bare r)
    split
    · rfl
    · rw [← ih]; rfl
theorem bare_del (n : List UInt8) (l : List (File X)) : bare (del n l) = del n (bare l) := by
  unfold bare del
  rw [List.filter_map]
  rfl
theorem bare_find (n : List UInt8) (l : List (File X)) : find n (bare l) = (find n l).map File.bare := by
  unfold find bare
  rw [List.find?_map]
  rfl
theorem bare_names (l : List (File X)) : names (bare l) = names l := by simp [names, bare, Function.comp_def, File.bare]
theorem bare_used (l : List (File X)) : used (bare l) = used l := by simp [used, bare, Function.comp_def, File.bare]
theorem bare_set (n : List UInt8) (h : File X → File X) (k : File Unit → File Unit) (hk : ∀ f, (h f).bare = k f.bare) (l : List (File X)) : bare (set n h l) = set n k (bare l) := by
  simp only [bare, set, List.map_map]
  refine List.map_congr_left fun f _ => ?_
  simp only [Function.comp]
  by_cases e : f.name = n
  · rw [if_pos e, if_pos (show f.bare.name = n from e), hk]
  · rw [if_neg e, if_neg (show ¬ f.bare.name = n from e)]

theorem used_ins (f : File X) (l : List (File X)) : used (ins f l) = f.data.length + used l := by
  induction l with
  | nil => simp [used, ins]
  | cons a r ih =>
    unfold ins
    split
    · simp [used]
    · unfold used at ih ⊢
      rw [List.map_cons, List.sum_cons, ih, List.map_cons, List.sum_cons]; omega
theorem used_del {l : List (File X)} (h : Rise l) {n : List UInt8} {f : File X} (hf : find n l = some f) : used (del n l) + f.data.length = used l := by
  induction l with
  | nil => cases hf
  | cons a r ih =>
    obtain ⟨h1, h2⟩ := List.pairwise_cons.1 h
    by_cases ha : a.name = n
    · have : f = a := by unfold find at hf; rw [List.find?_cons_of_pos (by simpa using ha)] at hf; injection hf with hf; exact hf.symm
      subst this
      have hd : del n (f :: r) = r := by
        unfold del
        rw [List.filter_cons, if_neg (by simp [ha])]
        refine List.filter_eq_self.2 fun g hg => ?_
        have hlt := h1 g hg
        have : g.name ≠ n := fun e => lt_irrefl n (by rw [ha, e] at hlt; exact hlt)
        simpa using this
      rw [hd]; simp [used]; omega
    · have hf' : find n r = some f := by unfold find at hf ⊢; rw [List.find?_cons_of_neg (by simpa using ha)] at hf; exact hf
      have := ih h2 hf'
      have hd : del n (a :: r) = a :: del n r := by unfold del; rw [List.filter_cons, if_pos (by simpa using ha)]
      rw [hd]; simp only [used, List.map_cons, List.sum_cons] at this ⊢; omega
theorem del_none {n : List UInt8} {l : List (File X)} (h : find n l = none) : del n l = l := by
  unfold del
  refine List.filter_eq_self.2 fun g hg => ?_
  have := find_none h g hg
  simpa using this
theorem used_mem {l : List (File X)} {f : File X} (h : f ∈ l) : f.data.length ≤ used l := by
  induction l with
  | nil => cases h
  | cons a r ih =>
    rcases List.mem_cons.1 h with rfl | h
    · simp [used]
    · have := ih h; simp only [used, List.map_cons, List.sum_cons] at this ⊢; omega
/-- the bytes of all files behind a change of one -/
theorem used_set {l : List (File X)} (h : Rise l) {n : List UInt8} {f : File X} {hh : File X → File X} (hf : find n l = some f) : used (set n hh l) + f.data.length = used l + (hh f).data.length := by
  induction l with
  | nil => cases hf
  | cons a r ih =>
    obtain ⟨h1, h2⟩ := List.pairwise_cons.1 h
    by_cases ha : a.name = n
    · have : f = a := by unfold find at hf; rw [List.find?_cons_of_pos (by simpa using ha)] at hf; injection hf with hf; exact hf.symm
      subst this
      have hd : set n hh (f :: r) = hh f :: r := by
        unfold set
        rw [List.map_cons, if_pos ha]
        congr 1
        refine (List.map_congr_left fun g hg => ?_).trans (List.map_id r)
        have hlt := h1 g hg
        have : g.name ≠ n := fun e => lt_irrefl n (by rw [ha, e] at hlt; exact hlt)
        rw [if_neg this]; rfl
      rw [hd]; simp [used]; omega
    · have hf' : find n r = some f := by unfold find at hf ⊢; rw [List.find?_cons_of_neg (by simpa using ha)] at hf; exact hf
      have := ih h2 hf'
      have hd : set n hh (a :: r) = a :: set n hh r := by unfold set; rw [List.map_cons, if_neg ha]
      rw [hd]; simp only [used, List.map_cons, List.sum_cons] at this ⊢; omega
end
end Go.Proofs.YtjdkpcibdjhdoaaDoor.FM
