/-
  What seg's Find is made of: those of some numbers whose entries answer ('hasAt'), as lists; a look-up in the map of lists in a world that has grown; part and less, by contracts.
-/
import Derived.Test.YthhgelaifapmmaaDoorSegZ
namespace Go.Proofs.YthhgelaifapmmaaDoor
open Go.RowKit Mem Go.ChangeShapes Go.Sort
set_option linter.unusedVariables false
set_option maxRecDepth 100000

/-- the entry of a number -/
def dAt (ds : List M.D) (x : Int) : M.D := ds[x.toNat]?.getD ⟨[], 0, []⟩
def hasAt (ds : List M.D) (q : Q) (x : Int) : Bool := q.has (dAt ds x).time (M.terms (dAt ds x).text)
def allAt (ds : List M.D) (ks : List Q) (x : Int) : Bool := Q.hasAll (dAt ds x).time (M.terms (dAt ds x).text) ks
def oneAt (ds : List M.D) (ks : List Q) (x : Int) : Bool := Q.hasOne (dAt ds x).time (M.terms (dAt ds x).text) ks
/-- numbers of entries, rising -/
def Fine (ds : List M.D) (l : List Int) : Prop := M.rise (-1) l = true ∧ ∀ x ∈ l, x < (ds.length : Int)
theorem rise_filter (p : Int → Bool) : ∀ (l : List Int) (lo : Int), M.rise lo l = true → M.rise lo (l.filter p) = true
  | [], _, h => h
  | x :: r, lo, h => by
    obtain ⟨h1, h2⟩ := (M.rise_cons _ _ _).1 h
    rw [List.filter_cons]
    split
    · exact (M.rise_cons _ _ _).2 ⟨h1, rise_filter p r x h2⟩
    · exact M.rise_less (Int.le_of_lt h1) (rise_filter p r x h2)
theorem Fine.filter {ds : List M.D} {l : List Int} (h : Fine ds l) (p : Int → Bool) : Fine ds (l.filter p) := ⟨rise_filter p l _ h.1, fun x hx => h.2 x (List.mem_filter.1 hx).1⟩
theorem Fine.len {ds : List M.D} {l : List Int} (h : Fine ds l) : l.length ≤ ds.length := by
  have h1 := M.rise_len h.1
  rcases List.eq_nil_or_concat l with rfl | ⟨r, x, rfl⟩
  · simp
  · have h2 := h.2 x (by simp)
    rw [List.concat_eq_append] at h1 ⊢
    simp at h1 h2 ⊢
    omega
theorem Fine.nonneg {ds : List M.D} {l : List Int} (h : Fine ds l) : ∀ x ∈ l, 0 ≤ x := fun x hx => by have := M.rise_mem h.1 x hx; omega
theorem mem_posts_at {ds : List M.D} {t : List UInt8} {z : Int} (h0 : 0 ≤ z) (h1 : z < (ds.length : Int)) : z ∈ M.posts ds t ↔ t ∈ M.terms (dAt ds z).text := by
  unfold M.posts M.postsTo dAt
  constructor
  · intro h
    obtain ⟨j, hj, rfl⟩ := List.mem_map.1 h
    have := (List.mem_filter.1 hj).2
    simpa using this
  · intro h
    refine List.mem_map.2 ⟨z.toNat, List.mem_filter.2 ⟨List.mem_range.2 (by omega), by simpa using h⟩, ?_⟩
    show (z.toNat : Int) = z
    omega
theorem and_posts {ds : List M.D} {l : List Int} (h : Fine ds l) (t : List UInt8) (p : Int → Bool) (hp : ∀ x, p x = decide (t ∈ M.terms (dAt ds x).text)) : M.andL l (M.posts ds t) = l.filter p := by
  obtain ⟨f1, f2, f3⟩ := posts_fit ds t
  refine M.rise_ext _ _ (-1) (M.rise_and _ _ _ h.1 f1) (rise_filter p _ _ h.1) fun z => ?_
  rw [M.mem_and _ _ _ h.1 f1, List.mem_filter, hp, decide_eq_true_iff]
  refine and_congr_right fun hz => mem_posts_at (h.nonneg z hz) (h.2 z hz)
theorem less_filter {l : List Int} (h : M.rise (-1) l = true) (p : Int → Bool) : M.lessL l (l.filter p) = l.filter (fun x => !p x) := by
  refine M.rise_ext _ _ (-1) (M.rise_diff _ _ _ h) (rise_filter _ _ _ h) fun z => ?_
  rw [M.mem_less _ _ _ h (rise_filter p _ _ h), List.mem_filter, List.mem_filter]
  cases p z <;> simp
theorem filter_full {l : List Int} {p : Int → Bool} (h : (l.filter p).length = l.length) : l.filter p = l := List.filter_eq_self.2 (List.length_filter_eq_length_iff.1 h)

theorem Tryd.look_on {W W' : World} {b n base : Nat} {D : DataW Unit} (h : W.ownsGroups Tryd.prog 9 base 3 .i64 b n D) (hb : W'.heap[b]? = W.heap[b]?) {key v : Value} {kl : Lit} (hkey : keyOf Tryd.prog 9 key = some kl)
    (hrun : (Instr.lookup 62 (.map (some b)) key false).run Tryd.prog W = .ok v W) : (Instr.lookup 62 (.map (some b)) key false).run Tryd.prog W' = .ok v W' := by
  obtain ⟨es, clock, hb0, F, _⟩ := h
  have hb1 := hb.trans hb0
  have K := Tryd.keyed
  have ht := Tryd.underlying62
  have hap : es.toList.Pairwise (fun x y => x.key ≠ y.key) := ((MapKept.stamped_iff es clock).1 F.stamped).2.2
  rcases K.find W hkey es.toList F.keys with ⟨h1, h2⟩ | ⟨j, e0, h1, h2, h3⟩
  · rcases K.find W' hkey es.toList F.keys with ⟨h1', h2'⟩ | ⟨j', e0', h1', h2', h3'⟩
    · simp [Instr.lookup, run_underlying ht, MapKept.run_getObj_map hb0, K.check W _ hkey, h1, Result.andThen] at hrun
      subst hrun
      simp [Instr.lookup, run_underlying ht, MapKept.run_getObj_map hb1, K.check W' _ hkey, h1', Result.andThen]
    · exact absurd h3' (h2 e0' (List.mem_of_getElem? h2'))
  · rcases K.find W' hkey es.toList F.keys with ⟨h1', h2'⟩ | ⟨j', e0', h1', h2', h3'⟩
    · exact absurd h3 (h2' e0 (List.mem_of_getElem? h2))
    · have he : e0' = e0 := by
        obtain ⟨a1, a2⟩ := List.getElem?_eq_some_iff.1 h2
        obtain ⟨b1, b2⟩ := List.getElem?_eq_some_iff.1 h2'
        rcases Nat.lt_trichotomy j j' with hj | hj | hj
        · have := List.pairwise_iff_getElem.1 hap j j' a1 b1 hj
          rw [a2, b2, h3, h3'] at this; exact absurd rfl this
        · subst hj; rw [← a2, ← b2]
        · have := List.pairwise_iff_getElem.1 hap j' j b1 a1 hj
          rw [a2, b2, h3, h3'] at this; exact absurd rfl this
      subst he
      simp [Instr.lookup, run_underlying ht, MapKept.run_getObj_map hb0, K.check W _ hkey, h1, Result.andThen] at hrun
      subst hrun
      simp [Instr.lookup, run_underlying ht, MapKept.run_getObj_map hb1, K.check W' _ hkey, h1', Result.andThen]

theorem OwnV.less {w : World} {base base' : Nat} {e : TypeId} {v : Value} {xs : List Value} (h : OwnV w base e v xs) (hb : base' ≤ base) : OwnV w base' e v xs := by
  refine ⟨h.1, ?_⟩
  rcases h.2 with h2 | ⟨g, cap, cur, hv, hg, r⟩
  · exact .inl h2
  · exact .inr ⟨g, cap, cur, hv, by omega, r⟩

/-- numbers in memory of their own, from block B0 on -/
def GivesF (B0 : Nat) (w : World) (l : List Int) (e : Ending) (w' : World) : Prop := ∃ v, e = .returned v ∧ OwnV w' B0 3 v (ints l) ∧ Below w.heap.size w w'
theorem GivesF.of {B0 : Nat} {w w' : World} {l : List Int} {e : Ending} (h : GivesI w l e w') (hB : B0 ≤ w.heap.size) : GivesF B0 w l e w' := by
  obtain ⟨v, h1, h2, h3⟩ := h
  exact ⟨v, h1, OwnV.less h2 hB, h3⟩

set_option maxHeartbeats 1000000 in
theorem segPart_any (B0 : Nat) (v v' : Value) (l r : List Int) (w : World) (h : OwnV w B0 3 v (ints l)) (h' : OwnV w B0 3 v' (ints r)) (hx : r.length = l.length → r = l) :
    Calls Tryd.prog 61 #[v, v'] w (GivesF B0 w r) := by
  obtain ⟨A, c, rfl, hc1, hc2⟩ := h.form
  obtain ⟨A', c', rfl, hc1', hc2'⟩ := h'.form
  have H := Lib.hid h; have H' := Lib.hid h'; have HX := Lib.hid hx
  rw [ints_len] at H H' hc1 hc1' ⊢
  rw [ints_len]
  clear h h' hx
  by_cases he : r.length = l.length
  · have hq : ((r.length : Int) == (l.length : Int)) = true := by simp [he]
    have HE := Lib.hid (HX.out he)
    generalize hm : l.length = m at *
    generalize hm' : r.length = m' at *
    subst he
    clear hm hm'
    go_enter Tryd.func61, Tryd.ntmps61
    go_wp2
    go_ret
    exact ⟨_, rfl, by rw [HE.out]; exact H.out, Below.refl _ _⟩
  · have hq : ((r.length : Int) == (l.length : Int)) = false := by simp; omega
    generalize hm : l.length = m at *
    generalize hm' : r.length = m' at *
    clear hm hm'
    go_enter Tryd.func61, Tryd.ntmps61
    go_wp2
    go_ret
    exact ⟨_, rfl, H'.out, Below.refl _ _⟩

set_option maxHeartbeats 1000000 in
theorem segLess_any (B0 : Nat) (v v' : Value) (l r : List Int) (w : World) (hB : B0 ≤ w.heap.size) (h : OwnV w B0 3 v (ints l)) (h' : OwnV w B0 3 v' (ints r)) (hl : l.length + r.length ≤ 1000000) :
    Calls Tryd.prog 76 #[v, v'] w (GivesF B0 w (M.lessL l r)) := by
  obtain ⟨A, c, rfl, hc1, hc2⟩ := h.form
  obtain ⟨A', c', rfl, hc1', hc2'⟩ := h'.form
  have H := Lib.hid h
  have HC := Lib.hid (postLess_any _ _ _ l _ _ _ r w h.rd h'.rd hl)
  rw [ints_len] at H hc1 hc1' HC ⊢
  rw [ints_len] at HC ⊢
  clear h h'
  by_cases he : r = []
  · have HE := Lib.hid he
    have h0 : r.length = 0 := by rw [he]; rfl
    clear HC
    rw [h0] at hc1' ⊢
    generalize l.length = m at *
    clear he h0
    go_enter Tryd.func76, Tryd.ntmps76
    go_wp2
    go_ret
    exact ⟨_, rfl, by rw [HE.out, M.less_nil']; exact H.out, Below.refl _ _⟩
  · have hp : 0 < r.length := by cases r with | nil => exact absurd rfl he | cons => simp
    have hq : ((r.length : Int) == 0) = false := by simp; omega
    generalize hm : l.length = m at *
    generalize hm' : r.length = m' at *
    clear hm hm' he
    go_enter Tryd.func76, Tryd.ntmps76
    go_wp2_with fail
    refine HC.out.mono ?_
    rintro e w2 ⟨v2, rfl, hO2, hb2⟩
    have HO := Lib.hid hO2; have HB := Lib.hid hb2
    clear hO2 hb2
    go_wp2
    go_ret
    exact ⟨_, rfl, OwnV.less HO.out hB, HB.out⟩
end Go.Proofs.YthhgelaifapmmaaDoor
