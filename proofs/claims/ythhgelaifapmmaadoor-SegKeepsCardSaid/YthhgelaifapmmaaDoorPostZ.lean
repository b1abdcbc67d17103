/-
  Joined: PostA PostB PostC PostD PostE.
-/
import Derived.Test.YthhgelaifapmmaaDoorPackZ
import Derived.Test.YthhgelaifapmmaaDoorMemW
import Derived.Test.YthhgelaifapmmaaDoorPostMath
import Derived.BigQuiet
import Derived.Deep.QuietTactic
import Derived.Deep.RegionHeld3
namespace Go.Proofs.YthhgelaifapmmaaDoor
open Go.RowKit Mem
set_option linter.unusedVariables false
set_option maxRecDepth 100000

/-- numbers as values -/
def ints (l : List Int) : List Value := l.map (Value.int .i64)
theorem ints_len (l : List Int) : (ints l).length = l.length := by simp [ints]
theorem ints_app (l r : List Int) : ints (l ++ r) = ints l ++ ints r := by simp [ints]
theorem ints_one (l : List Int) : ∀ u ∈ ints l, u.oneCell' = true := by
  intro u hu
  obtain ⟨x, _, rfl⟩ := List.mem_map.1 hu
  rfl
theorem ints_drop (l : List Int) (k : Nat) : (ints l).drop k = ints (l.drop k) := by simp [ints, List.map_drop]
theorem ints_at {l : List Int} {j : Nat} (h : j < l.length) : (ints l)[j]? = some (.int .i64 l[j]) := by simp [ints, h]
theorem int_at {w : World} {B n c : Nat} {A : Option Addr} {l : List Int} (h : RdV w B A n c (ints l)) {j : Nat} (hj : j < n) :
    ∃ b off x, A = some ⟨b, off, none⟩ ∧ b < B ∧ w.cell? ⟨b, off + j, none⟩ = some (.int .i64 x) ∧ l.drop j = x :: l.drop (j + 1) ∧ l[j]? = some x ∧ x ∈ l := by
  have hl : n = l.length := by have := h.1; rwa [ints_len] at this
  obtain ⟨b, off, e, hb, hc⟩ := h.at_ hj
  refine ⟨b, off, l[j]'(by omega), e, hb, by rw [hc, ints_at (by omega)], List.drop_eq_getElem_cons (by omega), List.getElem?_eq_getElem (by omega), List.getElem_mem _⟩
theorem rdv_drewN {w : World} {B n c : Nat} {A : Option Addr} {xs : List Value} (h : RdV w B A n c xs) (k : Nat) : RdV (w.drewN k) B A n c xs := h
theorem bel_drewN {B : Nat} {w w' : World} (h : Below B w w') (n : Nat) : Below B w (w'.drewN n) := ⟨h.os, h.tape, h.output, h.size, h.block⟩
def SaysBP (b : Bool) (w : World) (e : Ending) (w' : World) : Prop := e = .returned (.bool b) ∧ Below w.heap.size w w'
theorem int_dec {x y : Int} : (x == y) = decide (x = y) := by rw [Bool.eq_iff_iff]; simp
def Known (l : List Int) : Prop := ∀ k ∈ l, -9223372036854775808 ≤ k ∧ k ≤ 9223372036854775807

/-- so far none -/
def Sought (l : List Int) (v : Int) (j : Nat) : Prop := decide (v ∈ l) = decide (v ∈ l.drop j)
theorem Sought.start (l : List Int) (v : Int) : Sought l v 0 := rfl
theorem Sought.found {l : List Int} {v : Int} {j : Nat} (h : Sought l v j) (e : l.drop j = v :: l.drop (j + 1)) : decide (v ∈ l) = true := by rw [h, e]; simp
theorem Sought.step {l : List Int} {v x : Int} {j : Nat} (h : Sought l v j) (e : l.drop j = x :: l.drop (j + 1)) (hx : x ≠ v) : Sought l v (j + 1) := by
  unfold Sought at h ⊢
  rw [h, e]; simp [Ne.symm hx]
theorem Sought.end_ {l : List Int} {v : Int} {j : Nat} (h : Sought l v j) (hj : l.length ≤ j) : decide (v ∈ l) = false := by rw [h, List.drop_eq_nil_of_le hj]; simp

set_option maxHeartbeats 400000 in
theorem in_any (A : Option Addr) (n c B : Nat) (l : List Int) (v : Int) (w : World) (h : RdV w B A n c (ints l)) :
    Calls Tryd.prog 27 #[.slice A n c, .int .i64 v] w (SaysBP (decide (v ∈ l)) w) := by
  have hc := h.2.1
  have hm := h.max
  have HR := Lib.hid h
  have HN := Lib.hid (show n = l.length by have := h.1; rwa [ints_len] at this)
  clear h
  go_enter Tryd.func27, Tryd.ntmps27
  go_wp2
  go_loop [5] (fun i => ∃ j : Nat, i = .int .i64 j ∧ j ≤ n ∧ Hid (Sought l v j)) (fun i => n - (intOf i).toNat)
  case atStart => exact ⟨0, rfl, Nat.zero_le _, Lib.hid (Sought.start l v)⟩
  case round =>
    obtain ⟨j, rfl, hj, HS⟩ := hrel
    by_cases hlt : j < n
    · obtain ⟨b, off, x, rfl, hb, hcell, hd, _, _⟩ := int_at HR.out hlt
      by_cases hx : x = v
      · subst hx
        have HF := Lib.hid (HS.out.found hd)
        clear hd
        go_wp2
        go_ret
        exact ⟨by first | rfl | (rw [HF.out]; rfl), Below.refl _ _⟩
      · have HF := Lib.hid (HS.out.step hd hx)
        have hq : (x == v) = false := by simpa using hx
        clear hd hx
        go_wp2
        go_round
        case rel => exact ⟨j + 1, by go_num, by omega, HF⟩
        case measure => simp [intOf]; omega
    · have HF := Lib.hid (HS.out.end_ (by have := HN.out; omega))
      go_wp2
      go_ret
      exact ⟨by first | rfl | (rw [HF.out]; rfl), Below.refl _ _⟩

/-- alike so far -/
def Alike (a b : List Int) (j : Nat) : Prop := decide (a = b) = decide (a.drop j = b.drop j)
theorem Alike.start (a b : List Int) : Alike a b 0 := rfl
theorem Alike.stop {a b : List Int} {x y : Int} {j : Nat} (h : Alike a b j) (e : a.drop j = x :: a.drop (j + 1)) (e' : b.drop j = y :: b.drop (j + 1)) (hx : x ≠ y) : decide (a = b) = false := by rw [h, e, e']; simp [hx]
theorem Alike.step {a b : List Int} {x : Int} {j : Nat} (h : Alike a b j) (e : a.drop j = x :: a.drop (j + 1)) (e' : b.drop j = x :: b.drop (j + 1)) : Alike a b (j + 1) := by
  unfold Alike at h ⊢
  rw [h, e, e']; simp
theorem Alike.end_ {a b : List Int} {j : Nat} (h : Alike a b j) (hj : a.length ≤ j) (hl : a.length = b.length) : decide (a = b) = true := by rw [h, List.drop_eq_nil_of_le hj, List.drop_eq_nil_of_le (by omega)]; simp

set_option maxHeartbeats 400000 in
theorem same_any (A : Option Addr) (n c B : Nat) (a : List Int) (A' : Option Addr) (n' c' B' : Nat) (b : List Int) (w : World) (h : RdV w B A n c (ints a)) (h' : RdV w B' A' n' c' (ints b)) :
    Calls Tryd.prog 18 #[.slice A n c, .slice A' n' c'] w (SaysBP (decide (a = b)) w) := by
  have hc := h.2.1
  have hm := h.max
  have hc' := h'.2.1
  have hm' := h'.max
  have HR := Lib.hid h
  have HR' := Lib.hid h'
  have HN := Lib.hid (show n = a.length by have := h.1; rwa [ints_len] at this)
  have HN' := Lib.hid (show n' = b.length by have := h'.1; rwa [ints_len] at this)
  clear h h'
  by_cases hnn : n = n'
  · subst hnn
    go_enter Tryd.func18, Tryd.ntmps18
    go_wp2
    go_loopw [5] (fun i wr => ∃ j : Nat, i = .int .i64 j ∧ j ≤ n ∧ Hid (Alike a b j) ∧ Hid (∃ k, wr = w.drewN k)) (fun i _ => n - (intOf i).toNat)
    case atStart => exact ⟨0, rfl, Nat.zero_le _, Lib.hid (Alike.start a b), Lib.hid ⟨0, rfl⟩⟩
    case round =>
      obtain ⟨j, rfl, hj, HS, HW⟩ := hrel
      obtain ⟨k0, rfl⟩ := HW.out
      by_cases hlt : j < n
      · obtain ⟨g, off, x, rfl, hb, hcell, hd, _, _⟩ := int_at HR.out hlt
        obtain ⟨g', off', y, rfl, hb', hcell', hd', _, _⟩ := int_at HR'.out hlt
        have hil : (j : Int) < (n : Int) := by omega
        by_cases hx : x = y
        · subst hx
          have HF := Lib.hid (HS.out.step hd hd')
          clear hd hd'
          go_wp2_with fail
          go_quiet (fail)
          go_wp2
          go_roundw
          case rel => exact ⟨j + 1, by go_num, by omega, HF, Lib.hid ⟨_, rfl⟩⟩
          case measure => simp [intOf]; omega
        · have HF := Lib.hid (HS.out.stop hd hd' hx)
          have hq : (x == y) = false := by simpa using hx
          clear hd hd' hx
          go_wp2_with fail
          go_quiet (fail)
          go_wp2
          go_ret
          exact ⟨by first | rfl | (rw [HF.out]; rfl), bel_drewN (bel_drewN (Below.refl _ _) _) _⟩
      · have HF := Lib.hid (HS.out.end_ (by have := HN.out; omega) (by rw [← HN.out, ← HN'.out]))
        go_wp2
        go_ret
        exact ⟨by first | rfl | (rw [HF.out]; rfl), bel_drewN (Below.refl _ _) _⟩
  · have HF := Lib.hid (show decide (a = b) = false by
      have h1 := HN.out
      have h2 := HN'.out
      simp only [decide_eq_false_iff_not]
      intro e; subst e; omega)
    have hq : ((n : Int) == (n' : Int)) = false := by simp; omega
    go_enter Tryd.func18, Tryd.ntmps18
    go_wp2
    go_ret
    exact ⟨by first | rfl | (rw [HF.out]; rfl), Below.refl _ _⟩

/-- so far they rise, the last one being 'last' -/
def Rose (l : List Int) (j : Nat) (last : Int) : Prop := M.rise (-1) l = M.rise last (l.drop j) ∧ -1 ≤ last ∧ (0 < j → l[j - 1]? = some last) ∧ (j = 0 → last = -1)
theorem Rose.start (l : List Int) : Rose l 0 (-1) := ⟨rfl, by omega, fun h => absurd h (by omega), fun _ => rfl⟩
theorem Rose.stop {l : List Int} {j : Nat} {last x : Int} (h : Rose l j last) (e : l.drop j = x :: l.drop (j + 1)) (hx : x ≤ last) : M.rise (-1) l = false := by rw [h.1, e, M.rise_no hx]
theorem Rose.step {l : List Int} {j : Nat} {last x : Int} (h : Rose l j last) (e : l.drop j = x :: l.drop (j + 1)) (e2 : l[j]? = some x) (hx : last < x) : Rose l (j + 1) x := by
  refine ⟨by rw [h.1, e, M.rise_yes hx], by have := h.2.1; omega, fun _ => by simpa using e2, fun h => by omega⟩
theorem Rose.end_ {l : List Int} {j : Nat} {last : Int} (h : Rose l j last) (hj : l.length ≤ j) : M.rise (-1) l = true := by rw [h.1, List.drop_eq_nil_of_le hj]; rfl

end Go.Proofs.YthhgelaifapmmaaDoor

namespace Go.Proofs.YthhgelaifapmmaaDoor
open Go.RowKit Mem
set_option linter.unusedVariables false
set_option maxRecDepth 100000

theorem Tryd.info_int : ∃ i, Tryd.prog.info? 3 = some i ∧ i.zero = some (.int .i64 0) ∧ i.size = 1 ∧ i.bytes = 8 := ⟨_, rfl, rfl, rfl, rfl⟩

/-- new numbers l, and nothing that was there has turned -/
def GivesI (w : World) (l : List Int) (e : Ending) (w' : World) : Prop := ∃ v, e = .returned v ∧ OwnV w' w.heap.size 3 v (ints l) ∧ Below w.heap.size w w'

theorem head_at {w : World} {B n c : Nat} {A : Option Addr} {l : List Int} (h : RdV w B A n c (ints l)) (hn : 0 < n) :
    ∃ b off x r, A = some ⟨b, off, none⟩ ∧ b < B ∧ w.cell? ⟨b, off, none⟩ = some (.int .i64 x) ∧ l = x :: r := by
  obtain ⟨b, off, x, e, hb, hc, hd, _, _⟩ := int_at h hn
  rw [Nat.add_zero] at hc
  exact ⟨b, off, x, l.drop 1, e, hb, hc, by simpa using hd⟩
theorem tail_at {w : World} {B n c : Nat} {b off : Nat} {x : Int} {r : List Int} (h : RdV w B (some ⟨b, off, none⟩) n c (ints (x :: r))) :
    RdV w B (if c = 1 then some ⟨b, off, none⟩ else some ⟨b, off + 1, none⟩) (n - 1) (c - 1) (ints r) := by
  have hn := h.1
  simp only [ints_len, List.length_cons] at hn
  have := h.from_ (k := 1) (by omega)
  simpa [ints, add_none] using this
namespace M
def behind (x v : Int) (r : List Int) : List Int := if x = v then r else x :: r
end M
/-- what is left of two lists, and what has been found -/
def LeftOf (f : List Int → List Int → List Int) (a b a' b' acc : List Int) : Prop := f a b = acc ++ f a' b'

def lenOf : Value → Nat
  | .slice _ n _ => n
  | _ => 0
theorem wpList_appI1 {P : Program} (w : World) {ops : Array Oper} {rest : List Oper} {o : Oper} {a : Act} {Q : Exit → Act → World → Prop} (hgd : o.guard = none) (s x : Operand) (t : TypeId)
    (ho : o.op = .call { callee := .builtin .append, args := #[s, x], argTypes := #[t, t] })
    (base : Nat) (e : TypeId) (i : TypeInfo) (ht : P.underlying t = some (.slice e)) (hi : P.info? e = some i) (hz : i.zero = some (.int .i64 0)) (hsize : i.size = 1) (hby : i.bytes = 8)
    (v : Value) (l : List Int) (hown : OwnV w base e v (ints l)) (hs : a.eval s = v) (q : Int) (hx : a.eval x = .slice (some ⟨w.heap.size, 0, none⟩) 1 1)
    (hroom : (l.length + 1) * 8 ≤ 140737488355328) (hbase : base ≤ w.heap.size)
    (h : ∀ v' w', OwnV w' base e v' (ints (l ++ [q])) → w.grownBy w' v.ownBlock → wpList P ops Q rest (a.put o.dst v') w') :
    wpList P ops Q (o :: rest) a (w.alloc (.cells #[.int .i64 q] e)) := by
  refine wpList_appV (w.alloc (.cells #[.int .i64 q] e)) hgd s x t ho base (w.heap.size + 1) e i (.int .i64 0) 8 ht hi hz hsize hby rfl v (ints l) (hown.alloc _) hs _ 1 1 [.int .i64 q] (RdV.fresh w _ e) hx (by simp [Value.oneCell'])
    (by simpa [ints_len] using hroom) (by simp [ints_len]; omega) (by simp; omega) fun v' w' h1 h2 h3 => h v' w' ?_ ?_
  · rw [ints_app]; exact h1
  · exact ⟨h2.os, h2.tape, h2.output, Nat.le_trans (by simp) h2.size, fun k hk hne => (h2.block k (by simp; omega) hne).trans (Below.heap_alloc w _ k hk)⟩

theorem own_form {w : World} {base : Nat} {e : TypeId} {v : Value} {l : List Int} (h : OwnV w base e v (ints l)) : ∃ A n c, v = .slice A n c ∧ Hid (n = l.length) ∧ n ≤ c ∧ c ≤ 9223372036854775807 := by
  obtain ⟨A, c, e, h1, h2⟩ := h.form
  exact ⟨A, _, c, e, Lib.hid (ints_len l), h1, h2⟩
theorem own_join {w : World} {base : Nat} {e : TypeId} {v : Value} {l r z : List Int} (h : OwnV w base e v (ints l ++ ints r)) (hz : z = l ++ r) : OwnV w base e v (ints z) := by rw [hz, ints_app]; exact h
/-- two lists that are walked, and what was found -/
def Two (f : List Int → List Int → List Int) (a b : List Int) (w : World) (u v p : Value) (wr : World) : Prop :=
  ∃ (A A' : Option Addr) (n c n' c' : Nat) (a' b' acc : List Int), u = .slice A n c ∧ v = .slice A' n' c' ∧ Hid (RdV wr w.heap.size A n c (ints a')) ∧ Hid (RdV wr w.heap.size A' n' c' (ints b')) ∧
    Hid (OwnV wr w.heap.size 3 p (ints acc)) ∧ Hid (f a b = acc ++ f a' b') ∧ Hid (Below w.heap.size w wr)
theorem Two.start {f : List Int → List Int → List Int} {a b : List Int} {w : World} {A A' : Option Addr} {n c n' c' : Nat} (h : RdV w w.heap.size A n c (ints a)) (h' : RdV w w.heap.size A' n' c' (ints b)) :
    Two f a b w (.slice A n c) (.slice A' n' c') (.slice none 0 0) w :=
  ⟨A, A', n, c, n', c', a, b, [], rfl, rfl, Lib.hid h, Lib.hid h', Lib.hid (OwnV.nil _ _ _), Lib.hid rfl, Lib.hid (Below.refl _ _)⟩
theorem ownv_drewN {w : World} {base : Nat} {e : TypeId} {v : Value} {xs : List Value} (h : OwnV w base e v xs) (k : Nat) : OwnV (w.drewN k) base e v xs := h

set_option maxHeartbeats 4000000 in
theorem and_any (A : Option Addr) (n c : Nat) (a : List Int) (A' : Option Addr) (n' c' : Nat) (b : List Int) (w : World) (h : RdV w w.heap.size A n c (ints a)) (h' : RdV w w.heap.size A' n' c' (ints b)) (hl : a.length + b.length ≤ 1000000) :
    Calls Tryd.prog 62 #[.slice A n c, .slice A' n' c'] w (GivesI w (M.andL a b)) := by
  obtain ⟨i0, hi, hz0, hz1, hz2⟩ := Tryd.info_int
  have HI := Lib.hid hi; have HZ0 := Lib.hid hz0; have HZ1 := Lib.hid hz1; have HZ2 := Lib.hid hz2
  clear hi hz0 hz1 hz2
  have HST := Lib.hid (Two.start (f := M.andL) h h')
  have HAL := Lib.hid (show (M.andL a b).length ≤ 1000000 by have := M.and_le a b; omega)
  clear h h' hl
  go_enter Tryd.func62, Tryd.ntmps62
  go_wp2
  go_loopw [0, 1, 5] (fun u v p wr => Two M.andL a b w u v p wr) (fun u v _ _ => lenOf u + lenOf v)
  case atStart => exact HST.out
  case round =>
    obtain ⟨A, A', n, c, n', c', a', b', acc, rfl, rfl, HA, HB, HP, HF, HW⟩ := hrel
    rename World => wr
    have hc := HA.out.2.1
    have hm := HA.out.max
    have hc' := HB.out.2.1
    have hm' := HB.out.max
    have hna := HA.out.1
    have hnb := HB.out.1
    rw [ints_len] at hna hnb
    have HNA := Lib.hid hna
    have HNB := Lib.hid hnb
    clear hna hnb
    by_cases hn : 0 < n
    · by_cases hn' : 0 < n'
      · obtain ⟨g, off, x, ra, rfl, hg, hcell, rfl⟩ := head_at HA.out hn
        obtain ⟨g', off', y, rb, rfl, hg', hcell', rfl⟩ := head_at HB.out hn'
        have HTA := Lib.hid (tail_at HA.out)
        have HTB := Lib.hid (tail_at HB.out)
        by_cases hxy : x < y
        · have HF2 := Lib.hid (show M.andL a b = acc ++ M.andL ra (y :: rb) by rw [HF.out, M.and_lt hxy])
          by_cases hc1 : c = 1
          · subst hc1
            obtain rfl : n = 1 := by omega
            rw [if_pos rfl] at HTA
            go_wp2_with fail
            go_quiet (fail)
            go_wp2
            exact ⟨⟨_, _, _, _, _, _, ra, y :: rb, acc, rfl, rfl, HTA, HB, HP, HF2, Lib.hid (bel_drewN HW.out _)⟩, by simp only [lenOf]; omega⟩
          · rw [if_neg hc1] at HTA
            go_wp2_with fail
            go_quiet (fail)
            go_wp2
            exact ⟨⟨_, _, _, _, _, _, ra, y :: rb, acc, rfl, rfl, HTA, HB, HP, HF2, Lib.hid (bel_drewN HW.out _)⟩, by simp only [lenOf]; omega⟩
        · by_cases hyx : y < x
          · have HF2 := Lib.hid (show M.andL a b = acc ++ M.andL (x :: ra) rb by rw [HF.out, M.and_gt hyx])
            by_cases hc1 : c' = 1
            · subst hc1
              obtain rfl : n' = 1 := by omega
              rw [if_pos rfl] at HTB
              go_wp2_with fail
              go_quiet (fail)
              go_wp2_with fail
              go_quiet (fail)
              go_wp2
              exact ⟨⟨_, _, _, _, _, _, x :: ra, rb, acc, rfl, rfl, HA, HTB, HP, HF2, Lib.hid (bel_drewN HW.out _)⟩, by simp only [lenOf]; omega⟩
            · rw [if_neg hc1] at HTB
              go_wp2_with fail
              go_quiet (fail)
              go_wp2_with fail
              go_quiet (fail)
              go_wp2
              exact ⟨⟨_, _, _, _, _, _, x :: ra, rb, acc, rfl, rfl, HA, HTB, HP, HF2, Lib.hid (bel_drewN HW.out _)⟩, by simp only [lenOf]; omega⟩
          · obtain rfl : x = y := by omega
            have HF2 := Lib.hid (show M.andL a b = (acc ++ [x]) ++ M.andL ra rb by rw [HF.out, M.and_eq]; simp)
            have HRM := Lib.hid (show (acc.length + 1) * 8 ≤ 140737488355328 by
              have h1 := congrArg List.length HF2.out
              have h2 := HAL.out
              simp only [List.length_append, List.length_cons, List.length_nil] at h1
              omega)
            go_wp2_with fail
            go_quiet (fail)
            go_wp2_with fail
            go_quiet (fail)
            go_wp2_with (at_builtin; go_must (refine wpList_appI1 _ rfl (.tmp 14) (.tmp 18) _ rfl w.heap.size _ i0 Tryd.underlying42 HI.out HZ0.out HZ1.out HZ2.out _ acc (ownv_drewN HP.out _) rfl _ rfl HRM.out HW.out.size ?_))
            intro v' w1 hown' hgr
            have hb1 := OwnV.grown (ownv_drewN HP.out _) HW.out.size hgr
            have HB1 := Lib.hid (HW.out.trans (below_undrewN hb1))
            have HTA1 := Lib.hid (HTA.out.below (below_undrewN hb1))
            have HTB1 := Lib.hid (HTB.out.below (below_undrewN hb1))
            obtain ⟨A3, c3, rfl, hc3, hm3⟩ := hown'.form
            have HO1 := Lib.hid hown'
            clear hown' hgr hb1 hcell hcell'
            by_cases hc1 : c = 1
            · subst hc1
              obtain rfl : n = 1 := by omega
              rw [if_pos rfl] at HTA1
              by_cases hc2 : c' = 1
              · subst hc2
                obtain rfl : n' = 1 := by omega
                rw [if_pos rfl] at HTB1
                go_wp2_with fail
                go_quiet (fail)
                go_wp2
                exact ⟨⟨_, _, _, _, _, _, ra, rb, acc ++ [x], rfl, rfl, HTA1, HTB1, HO1, HF2, Lib.hid (bel_drewN HB1.out _)⟩, by simp only [lenOf]; omega⟩
              · rw [if_neg hc2] at HTB1
                go_wp2_with fail
                go_quiet (fail)
                go_wp2
                exact ⟨⟨_, _, _, _, _, _, ra, rb, acc ++ [x], rfl, rfl, HTA1, HTB1, HO1, HF2, Lib.hid (bel_drewN HB1.out _)⟩, by simp only [lenOf]; omega⟩
            · rw [if_neg hc1] at HTA1
              by_cases hc2 : c' = 1
              · subst hc2
                obtain rfl : n' = 1 := by omega
                rw [if_pos rfl] at HTB1
                go_wp2_with fail
                go_quiet (fail)
                go_wp2
                exact ⟨⟨_, _, _, _, _, _, ra, rb, acc ++ [x], rfl, rfl, HTA1, HTB1, HO1, HF2, Lib.hid (bel_drewN HB1.out _)⟩, by simp only [lenOf]; omega⟩
              · rw [if_neg hc2] at HTB1
                go_wp2_with fail
                go_quiet (fail)
                go_wp2
                exact ⟨⟨_, _, _, _, _, _, ra, rb, acc ++ [x], rfl, rfl, HTA1, HTB1, HO1, HF2, Lib.hid (bel_drewN HB1.out _)⟩, by simp only [lenOf]; omega⟩
      · obtain rfl : b' = [] := List.eq_nil_of_length_eq_zero (by have := HNB.out; omega)
        obtain rfl : n' = 0 := by omega
        have HF2 := Lib.hid (show M.andL a b = acc by rw [HF.out, M.and_nil', List.append_nil])
        go_wp2
        go_ret
        exact ⟨_, rfl, by rw [HF2.out]; exact HP.out, HW.out⟩
    · obtain rfl : a' = [] := List.eq_nil_of_length_eq_zero (by have := HNA.out; omega)
      obtain rfl : n = 0 := by omega
      have HF2 := Lib.hid (show M.andL a b = acc by rw [HF.out, M.and_nil, List.append_nil])
      go_wp2
      go_ret
      exact ⟨_, rfl, by rw [HF2.out]; exact HP.out, HW.out⟩
end Go.Proofs.YthhgelaifapmmaaDoor

namespace Go.Proofs.YthhgelaifapmmaaDoor
open Go.RowKit Mem
set_option linter.unusedVariables false
set_option maxRecDepth 100000

set_option maxHeartbeats 4000000 in
theorem postLess_any (A : Option Addr) (n c : Nat) (a : List Int) (A' : Option Addr) (n' c' : Nat) (b : List Int) (w : World) (h : RdV w w.heap.size A n c (ints a)) (h' : RdV w w.heap.size A' n' c' (ints b)) (hl : a.length + b.length ≤ 1000000) :
    Calls Tryd.prog 83 #[.slice A n c, .slice A' n' c'] w (GivesI w (M.lessL a b)) := by
  obtain ⟨i0, hi, hz0, hz1, hz2⟩ := Tryd.info_int
  have HI := Lib.hid hi; have HZ0 := Lib.hid hz0; have HZ1 := Lib.hid hz1; have HZ2 := Lib.hid hz2
  clear hi hz0 hz1 hz2
  have HST := Lib.hid (Two.start (f := M.lessL) h h')
  have HAL := Lib.hid (show (M.lessL a b).length ≤ 1000000 by have := M.less_le a b; omega)
  clear h h' hl
  go_enter Tryd.func83, Tryd.ntmps83
  go_wp2
  go_loopw [0, 1, 5] (fun u v p wr => Two M.lessL a b w u v p wr) (fun u v _ _ => lenOf u + lenOf v)
  case atStart => exact HST.out
  case round =>
    obtain ⟨A, A', n, c, n', c', a', b', acc, rfl, rfl, HA, HB, HP, HF, HW⟩ := hrel
    rename World => wr
    have hc := HA.out.2.1
    have hm := HA.out.max
    have hc' := HB.out.2.1
    have hm' := HB.out.max
    have hna := HA.out.1
    have hnb := HB.out.1
    rw [ints_len] at hna hnb
    have HNA := Lib.hid hna
    have HNB := Lib.hid hnb
    clear hna hnb
    by_cases hn : 0 < n
    · by_cases hn' : 0 < n'
      · obtain ⟨g, off, x, ra, rfl, hg, hcell, rfl⟩ := head_at HA.out hn
        obtain ⟨g', off', y, rb, rfl, hg', hcell', rfl⟩ := head_at HB.out hn'
        have HTA := Lib.hid (tail_at HA.out)
        have HTB := Lib.hid (tail_at HB.out)
        by_cases hxy : x < y
        · have HF2 := Lib.hid (show M.lessL a b = (acc ++ [x]) ++ M.lessL ra (y :: rb) by rw [HF.out, M.less_lt hxy]; simp)
          have HRM := Lib.hid (show (acc.length + 1) * 8 ≤ 140737488355328 by
            have h1 := congrArg List.length HF2.out
            have h2 := HAL.out
            simp only [List.length_append, List.length_cons, List.length_nil] at h1
            omega)
          go_wp2_with fail
          go_quiet (fail)
          go_wp2_with (at_builtin; go_must (refine wpList_appI1 _ rfl (.tmp 26) (.tmp 30) _ rfl w.heap.size _ i0 Tryd.underlying42 HI.out HZ0.out HZ1.out HZ2.out _ acc (ownv_drewN HP.out _) rfl _ rfl HRM.out HW.out.size ?_))
          intro v' w1 hown' hgr
          have hb1 := OwnV.grown (ownv_drewN HP.out _) HW.out.size hgr
          have HB1 := Lib.hid (HW.out.trans (below_undrewN hb1))
          have HTA1 := Lib.hid (HTA.out.below (below_undrewN hb1))
          have HBB1 := Lib.hid (HB.out.below (below_undrewN hb1))
          obtain ⟨A3, c3, rfl, hc3, hm3⟩ := hown'.form
          have HO1 := Lib.hid hown'
          clear hown' hgr hb1 hcell hcell'
          by_cases hc1 : c = 1
          · subst hc1
            obtain rfl : n = 1 := by omega
            rw [if_pos rfl] at HTA1
            go_wp2
            exact ⟨⟨_, _, _, _, _, _, ra, y :: rb, acc ++ [x], rfl, rfl, HTA1, HBB1, HO1, HF2, HB1⟩, by simp only [lenOf]; omega⟩
          · rw [if_neg hc1] at HTA1
            go_wp2
            exact ⟨⟨_, _, _, _, _, _, ra, y :: rb, acc ++ [x], rfl, rfl, HTA1, HBB1, HO1, HF2, HB1⟩, by simp only [lenOf]; omega⟩
        · by_cases hyx : y < x
          · have HF2 := Lib.hid (show M.lessL a b = acc ++ M.lessL (x :: ra) rb by rw [HF.out, M.less_gt hyx])
            by_cases hc1 : c' = 1
            · subst hc1
              obtain rfl : n' = 1 := by omega
              rw [if_pos rfl] at HTB
              go_wp2_with fail
              go_quiet (fail)
              go_wp2_with fail
              go_quiet (fail)
              go_wp2
              exact ⟨⟨_, _, _, _, _, _, x :: ra, rb, acc, rfl, rfl, HA, HTB, HP, HF2, Lib.hid (bel_drewN HW.out _)⟩, by simp only [lenOf]; omega⟩
            · rw [if_neg hc1] at HTB
              go_wp2_with fail
              go_quiet (fail)
              go_wp2_with fail
              go_quiet (fail)
              go_wp2
              exact ⟨⟨_, _, _, _, _, _, x :: ra, rb, acc, rfl, rfl, HA, HTB, HP, HF2, Lib.hid (bel_drewN HW.out _)⟩, by simp only [lenOf]; omega⟩
          · obtain rfl : x = y := by omega
            have HF2 := Lib.hid (show M.lessL a b = acc ++ M.lessL ra rb by rw [HF.out, M.less_eq])
            go_wp2_with fail
            go_quiet (fail)
            go_wp2_with fail
            go_quiet (fail)
            clear hcell hcell'
            by_cases hc1 : c = 1
            · subst hc1
              obtain rfl : n = 1 := by omega
              rw [if_pos rfl] at HTA
              by_cases hc2 : c' = 1
              · subst hc2
                obtain rfl : n' = 1 := by omega
                rw [if_pos rfl] at HTB
                go_wp2_with fail
                go_quiet (fail)
                go_wp2
                exact ⟨⟨_, _, _, _, _, _, ra, rb, acc, rfl, rfl, HTA, HTB, HP, HF2, Lib.hid (bel_drewN (bel_drewN (bel_drewN HW.out _) _) _)⟩, by simp only [lenOf]; omega⟩
              · rw [if_neg hc2] at HTB
                go_wp2_with fail
                go_quiet (fail)
                go_wp2
                exact ⟨⟨_, _, _, _, _, _, ra, rb, acc, rfl, rfl, HTA, HTB, HP, HF2, Lib.hid (bel_drewN (bel_drewN (bel_drewN HW.out _) _) _)⟩, by simp only [lenOf]; omega⟩
            · rw [if_neg hc1] at HTA
              by_cases hc2 : c' = 1
              · subst hc2
                obtain rfl : n' = 1 := by omega
                rw [if_pos rfl] at HTB
                go_wp2_with fail
                go_quiet (fail)
                go_wp2
                exact ⟨⟨_, _, _, _, _, _, ra, rb, acc, rfl, rfl, HTA, HTB, HP, HF2, Lib.hid (bel_drewN (bel_drewN (bel_drewN HW.out _) _) _)⟩, by simp only [lenOf]; omega⟩
              · rw [if_neg hc2] at HTB
                go_wp2_with fail
                go_quiet (fail)
                go_wp2
                exact ⟨⟨_, _, _, _, _, _, ra, rb, acc, rfl, rfl, HTA, HTB, HP, HF2, Lib.hid (bel_drewN (bel_drewN (bel_drewN HW.out _) _) _)⟩, by simp only [lenOf]; omega⟩
      · obtain rfl : b' = [] := List.eq_nil_of_length_eq_zero (by have := HNB.out; omega)
        obtain rfl : n' = 0 := by omega
        have HF2 := Lib.hid (show M.lessL a b = acc ++ a' by rw [HF.out, M.less_nil'])
        have HRM := Lib.hid (show acc.length + a'.length ≤ 1000000 by have h1 := congrArg List.length HF2.out; have h2 := HAL.out; simp only [List.length_append] at h1; omega)
        go_wp2_with (at_builtin; go_must (refine wpList_appV wr rfl (.tmp 44) (.tmp 45) _ rfl w.heap.size w.heap.size _ i0 (.int .i64 0) 8 Tryd.underlying42 HI.out HZ0.out HZ1.out HZ2.out rfl _ (ints acc) HP.out rfl _ _ _ (ints a') HA.out rfl (ints_one _) (by rw [ints_len, ints_len]; have := HRM.out; omega) (by rw [ints_len, ints_len]; have := HRM.out; omega) HW.out.size ?_))
        intro v' w1 hown' hgr hat
        have hb1 := HW.out.trans (OwnV.grown HP.out HW.out.size hgr)
        have hown2 := own_join hown' HF2.out
        obtain ⟨A3, n3, c3, rfl, HN3, hc3, hm3⟩ := own_form hown2
        have HO2 := Lib.hid hown2
        clear hown' hown2
        go_wp2
        go_ret
        exact ⟨_, rfl, HO2.out, hb1⟩
    · obtain rfl : a' = [] := List.eq_nil_of_length_eq_zero (by have := HNA.out; omega)
      obtain rfl : n = 0 := by omega
      have HF2 := Lib.hid (show M.lessL a b = acc ++ [] by rw [HF.out, M.less_nil])
      have HRM := Lib.hid (show acc.length + ([] : List Int).length ≤ 1000000 by have h1 := congrArg List.length HF2.out; have h2 := HAL.out; simp only [List.length_append] at h1; omega)
      go_wp2_with (at_builtin; go_must (refine wpList_appV wr rfl (.tmp 44) (.tmp 45) _ rfl w.heap.size w.heap.size _ i0 (.int .i64 0) 8 Tryd.underlying42 HI.out HZ0.out HZ1.out HZ2.out rfl _ (ints acc) HP.out rfl _ _ _ (ints []) HA.out rfl (ints_one _) (by rw [ints_len, ints_len]; have := HRM.out; omega) (by rw [ints_len, ints_len]; have := HRM.out; omega) HW.out.size ?_))
      intro v' w1 hown' hgr hat
      have hb1 := HW.out.trans (OwnV.grown HP.out HW.out.size hgr)
      have hown2 := own_join hown' HF2.out
      obtain ⟨A3, n3, c3, rfl, HN3, hc3, hm3⟩ := own_form hown2
      have HO2 := Lib.hid hown2
      clear hown' hown2
      go_wp2
      go_ret
      exact ⟨_, rfl, HO2.out, hb1⟩

theorem or_min (x y : Int) (ra rb : List Int) : M.orL (x :: ra) (y :: rb) = min x y :: M.orL (M.behind x (min x y) ra) (M.behind y (min x y) rb) := by
  rcases Int.lt_trichotomy x y with h | rfl | h
  · rw [M.or_lt h, show min x y = x by omega]; unfold M.behind; rw [if_pos rfl, if_neg (by omega)]
  · rw [M.or_eq, show min x x = x by omega]; unfold M.behind; rw [if_pos rfl, if_pos rfl]
  · rw [M.or_gt h, show min x y = y by omega]; unfold M.behind; rw [if_pos rfl, if_neg (by omega)]
theorem behind_len (x y : Int) (ra rb : List Int) : (M.behind x (min x y) ra).length + (M.behind y (min x y) rb).length < ra.length + 1 + (rb.length + 1) := by
  unfold M.behind
  rcases Int.lt_trichotomy x y with h | rfl | h
  · rw [if_pos (by omega), if_neg (by omega)]; simp only [List.length_cons]; omega
  · rw [if_pos (by omega), if_pos (by omega)]; omega
  · rw [if_neg (by omega), if_pos (by omega)]; simp only [List.length_cons]; omega
theorem or_end {a b acc r : List Int} (h : M.orL a b = acc ++ r) : M.orL a b = acc ++ r := h

end Go.Proofs.YthhgelaifapmmaaDoor

namespace Go.Proofs.YthhgelaifapmmaaDoor
open Go.RowKit Mem
set_option linter.unusedVariables false
set_option maxRecDepth 100000

def EncTells (l : List Int) (w : World) (e : Ending) (w' : World) : Prop := ∃ v, e = .returned (.tuple #[v, .int .i64 (M.encErr l : Nat)]) ∧ Own w' w.heap.size 5 v (M.encOut l) ∧ Below w.heap.size w w'
/-- so much is written, the last one being 'last' -/
def Wrote (l : List Int) (j : Nat) (last : Int) (acc : List UInt8) : Prop := M.enc l = acc ++ M.encs last (l.drop j) ∧ acc.length ≤ 10 + 5 * j + 5 * ((last + 1).toNat / 34359738368)
theorem Wrote.start (l : List Int) : Wrote l 0 (-1) (M.uv l.length) := ⟨rfl, by have := (M.uv_len l.length).2; omega⟩
theorem Wrote.step {l : List Int} {j : Nat} {last x : Int} {acc : List UInt8} (h : Wrote l j last acc) (e : l.drop j = x :: l.drop (j + 1)) (hl : -1 ≤ last) (hx : last < x) : Wrote l (j + 1) x (acc ++ M.uv (x - last - 1).toNat) := by
  refine ⟨by rw [h.1, e, M.encs, List.append_assoc], ?_⟩
  have h1 := h.2
  have h2 := M.uv_weight (x - last - 1).toNat
  rw [List.length_append]
  obtain ⟨p, hp⟩ : ∃ p : Nat, (last + 1) = p := ⟨(last + 1).toNat, by omega⟩
  obtain ⟨q, hq⟩ : ∃ q : Nat, (x - last - 1) = q := ⟨(x - last - 1).toNat, by omega⟩
  have hx1 : (x + 1).toNat = p + q + 1 := by omega
  rw [hx1]
  rw [hp] at h1
  rw [hq] at h2
  rw [hq]
  simp only [Int.toNat_natCast] at h1 h2 ⊢
  omega
theorem Wrote.end_ {l : List Int} {j : Nat} {last : Int} {acc : List UInt8} (h : Wrote l j last acc) (hj : l.length ≤ j) : M.enc l = acc := by rw [h.1, List.drop_eq_nil_of_le hj, M.encs, List.append_nil]
theorem Wrote.room {l : List Int} {j : Nat} {last : Int} {acc : List UInt8} (h : Wrote l j last acc) (hj : j ≤ 17592186043904) (hm : last ≤ 9223372036854775807) : acc.length + 10 ≤ 140737488355328 := by
  have h1 := h.2
  have : (last + 1).toNat / 34359738368 ≤ 268435456 := by omega
  omega
theorem gap_wrap {x last : Int} (h : -1 ≤ last) (hx : last < x) (hm : x ≤ 9223372036854775807) : IntKind.u64.wrap (wrap64 (wrap64 (x - last) - 1)) = ((x - last - 1).toNat : Int) := by
  rw [IntKind.wrap_u64]
  simp only [wrap64]
  omega

set_option maxHeartbeats 2000000 in
theorem encode_any (A : Option Addr) (n c : Nat) (l : List Int) (w : World) (h : RdV w w.heap.size A n c (ints l)) (hk : Known l) (hn : n ≤ 17592186043904) :
    Calls Tryd.prog 55 #[.slice A n c] w (EncTells l w) := by
  obtain ⟨i0, hi, hz0, hz1, hz2⟩ := info_parts Tryd.info_byte
  have HI := Lib.hid hi; have HZ0 := Lib.hid hz0; have HZ1 := Lib.hid hz1; have HZ2 := Lib.hid hz2
  clear hi hz0 hz1 hz2
  have hc := h.2.1
  have hm := h.max
  have HR := Lib.hid h
  have HK := Lib.hid hk
  have HN := Lib.hid (show n = l.length by have := h.1; rwa [ints_len] at this)
  clear h hk
  have HU := Lib.hid (uvarint_any n w (by omega))
  have HW0 := Lib.hid (Wrote.start l)
  rw [← HN.out] at HW0
  go_enter Tryd.func55, Tryd.ntmps55
  go_wp2_with fail
  refine HU.out.mono ?_
  rintro e w1 ⟨v, rfl, hown, hb1⟩
  obtain ⟨A1, c1, rfl, hrd1⟩ := hown.open_
  have HO1 := Lib.hid hown
  have HB1 := Lib.hid hb1
  clear hown hb1 hrd1
  go_wp2
  go_loopw [4, 5, 14] (fun p q i wr => ∃ (j : Nat) (last : Int) (acc : List UInt8), q = .int .i64 last ∧ i = .int .i64 j ∧ j ≤ n ∧ -1 ≤ last ∧ last ≤ 9223372036854775807 ∧ Hid (M.rise (-1) l = M.rise last (l.drop j)) ∧ Hid (Wrote l j last acc) ∧ Hid (Own wr w.heap.size 5 p acc) ∧ Hid (Below w.heap.size w wr)) (fun _ _ i _ => n - (intOf i).toNat)
  case atStart => exact ⟨0, -1, _, rfl, rfl, Nat.zero_le _, by omega, by omega, Lib.hid rfl, HW0, HO1, HB1⟩
  case round =>
    obtain ⟨j, last, acc, rfl, rfl, hj, hl1, hl2, HRI, HWR, HP, HB⟩ := hrel
    rename World => wr
    by_cases hlt : j < n
    · obtain ⟨g, off, x, rfl, hg, hcell, hd, _, hmem⟩ := int_at (HR.out.below HB.out) hlt
      have hx := HK.out x hmem
      have hx1 := hx.1
      have hx2 := hx.2
      by_cases hxl : x ≤ last
      · have HF := Lib.hid (show M.rise (-1) l = false by rw [HRI.out, hd, M.rise_no hxl])
        have HE1 := Lib.hid (M.encErr_no HF.out)
        have HE2 := Lib.hid (M.encOut_no HF.out)
        clear hd hmem hx
        go_wp2
        go_ret2
        exact ⟨_, by rw [HE1.out]; rfl, by rw [HE2.out]; exact Own.nil _ _ _, HB.out⟩
      · have HRI2 := Lib.hid (show M.rise (-1) l = M.rise x (l.drop (j + 1)) by rw [HRI.out, hd, M.rise_yes (by omega)])
        have HWR2 := Lib.hid (HWR.out.step hd hl1 (by omega))
        have HG := Lib.hid (gap_wrap hl1 (show last < x by omega) hx2)
        have hq : decide (x ≤ last) = false := by simpa using hxl
        have HUW := Lib.hid (fun (W : World) => uvarint_any (x - last - 1).toNat W (by omega))
        have HRM := Lib.hid (HWR.out.room (by omega) hl2)
        have HUL := Lib.hid (M.uv_len (x - last - 1).toNat).2
        generalize (x - last - 1).toNat = gp at *
        clear hd hmem hx
        go_wp2_with fail
        rw [HG.out]
        refine (HUW.out wr).mono ?_
        rintro e w2 ⟨v2, rfl, hown2, hb2⟩
        have HP2 := Lib.hid (HP.out.below hb2)
        have HB2 := Lib.hid (HB.out.trans (hb2.mono HB.out.size))
        obtain ⟨A2, c2, rfl, hrd2⟩ := hown2.open_
        have hc2 := hrd2.cap
        have hm2 := hrd2.max
        have HR2 := Lib.hid hrd2
        clear hown2 hb2 hrd2
        go_wp2_with (at_builtin; go_must (refine wpList_app w2 rfl (.tmp 21) (.tmp 27) _ rfl w.heap.size _ _ i0 Tryd.underlying24 HI.out HZ0.out HZ1.out HZ2.out _ acc HP2.out rfl _ _ _ _ HR2.out rfl ?_ HB2.out.size ?_))
        · have h1 := HRM.out
          have h2 := HUL.out
          omega
        intro v' w3 hown3 hg3 hat3
        have HB3 := Lib.hid (HB2.out.trans (below_own HP2.out HB2.out.size hg3))
        obtain ⟨A3, c3, rfl, hrd3⟩ := hown3.open_
        have HP3 := Lib.hid hown3
        clear hown3 hg3 hat3 hrd3 hcell
        go_wp2
        go_roundw
        case rel => exact ⟨j + 1, x, _, rfl, by go_num, by omega, by omega, by omega, HRI2, HWR2, HP3, HB3⟩
        case measure => simp [intOf]; omega
    · have HF := Lib.hid (show M.rise (-1) l = true by rw [HRI.out, List.drop_eq_nil_of_le (by have := HN.out; omega)]; rfl)
      have HE1 := Lib.hid (M.encErr_yes HF.out)
      have HE2 := Lib.hid (show M.encOut l = acc by rw [M.encOut_yes HF.out]; exact HWR.out.end_ (by have := HN.out; omega))
      go_wp2
      go_ret2
      exact ⟨_, by rw [HE1.out]; rfl, by rw [HE2.out]; exact HP.out, HB.out⟩

set_option maxHeartbeats 2000000 in
theorem ref_encode_any (A : Option Addr) (n c : Nat) (l : List Int) (w : World) (h : RdV w w.heap.size A n c (ints l)) (hk : Known l) (hn : n ≤ 17592186043904) (hrise : M.rise (-1) l = true) :
    Calls Tryd.prog 37 #[.slice A n c] w (Gives w (M.enc l)) := by
  obtain ⟨i0, hi, hz0, hz1, hz2⟩ := info_parts Tryd.info_byte
  have HI := Lib.hid hi; have HZ0 := Lib.hid hz0; have HZ1 := Lib.hid hz1; have HZ2 := Lib.hid hz2
  clear hi hz0 hz1 hz2
  have hc := h.2.1
  have hm := h.max
  have HR := Lib.hid h
  have HK := Lib.hid hk
  have HRISE := Lib.hid hrise
  have HN := Lib.hid (show n = l.length by have := h.1; rwa [ints_len] at this)
  clear h hk hrise
  have HU := Lib.hid (ref_uvarint_any n w (by omega))
  have HW0 := Lib.hid (Wrote.start l)
  rw [← HN.out] at HW0
  go_enter Tryd.func37, Tryd.ntmps37
  go_wp2_with fail
  refine HU.out.mono ?_
  rintro e w1 ⟨v, rfl, hown, hb1⟩
  obtain ⟨A1, c1, rfl, hrd1⟩ := hown.open_
  have HO1 := Lib.hid hown
  have HB1 := Lib.hid hb1
  clear hown hb1 hrd1
  go_wp2
  go_loopw [3, 4] (fun p i wr => ∃ (j : Nat) (last : Int) (acc : List UInt8), i = .int .i64 j ∧ j ≤ n ∧ last ≤ 9223372036854775807 ∧ Hid (Rose l j last) ∧ Hid (Wrote l j last acc) ∧ Hid (Own wr w.heap.size 5 p acc) ∧ Hid (Below w.heap.size w wr)) (fun _ i _ => n - (intOf i).toNat)
  case atStart => exact ⟨0, -1, _, rfl, Nat.zero_le _, by omega, Lib.hid (Rose.start l), HW0, HO1, HB1⟩
  case round =>
    obtain ⟨j, last, acc, rfl, hj, hl2, HRO, HWR, HP, HB⟩ := hrel
    rename World => wr
    by_cases hlt : j < n
    · obtain ⟨g, off, x, rfl, hg, hcell, hd, hat, hmem⟩ := int_at (HR.out.below HB.out) hlt
      have hx := HK.out x hmem
      have hx1 := hx.1
      have hx2 := hx.2
      have hl1 := HRO.out.2.1
      have hlx : last < x := by
        have h1 := HRO.out.1
        rw [HRISE.out, hd] at h1
        exact ((M.rise_cons _ _ _).1 h1.symm).1
      have HRO2 := Lib.hid (HRO.out.step hd hat hlx)
      have HWR2 := Lib.hid (HWR.out.step hd hl1 hlx)
      have HG := Lib.hid (gap_wrap hl1 hlx hx2)
      have HUW := Lib.hid (fun (W : World) => ref_uvarint_any (x - last - 1).toNat W (by omega))
      have HRM := Lib.hid (HWR.out.room (by omega) hl2)
      have HUL := Lib.hid (M.uv_len (x - last - 1).toNat).2
      have hil : (j : Int) < (n : Int) := by omega
      cases j with
      | zero =>
        have hl0 := HRO.out.2.2.2 rfl
        have HX := Lib.hid (show x = ((x - last - 1).toNat : Int) by omega)
        have HWG := Lib.hid (show IntKind.u64.wrap (((x - last - 1).toNat : Nat) : Int) = (((x - last - 1).toNat : Nat) : Int) by rw [IntKind.wrap_u64]; omega)
        generalize (x - last - 1).toNat = gp at *
        rw [HX.out, Nat.add_zero] at hcell
        clear hd hmem hx hat hlx
        go_wp2_with fail
        rw [HWG.out]
        refine (HUW.out _).mono ?_
        rintro e w2 ⟨v2, rfl, hown2, hb2⟩
        have hb2' := hb2
        have HP2 := Lib.hid (HP.out.below hb2')
        have HB2 := Lib.hid (HB.out.trans (hb2'.mono HB.out.size))
        obtain ⟨A2, c2, rfl, hrd2⟩ := hown2.open_
        have hc2 := hrd2.cap
        have hm2 := hrd2.max
        have HR2 := Lib.hid hrd2
        clear hown2 hb2 hb2' hrd2
        go_wp2_with (at_builtin; go_must (refine wpList_app w2 rfl (.tmp 33) (.tmp 36) _ rfl w.heap.size _ _ i0 Tryd.underlying24 HI.out HZ0.out HZ1.out HZ2.out _ acc HP2.out rfl _ _ _ _ HR2.out rfl ?_ HB2.out.size ?_))
        · have h1 := HRM.out
          have h2 := HUL.out
          omega
        intro v' w3 hown3 hg3 hat3
        have HB3 := Lib.hid (HB2.out.trans (below_own HP2.out HB2.out.size hg3))
        obtain ⟨A3, c3, rfl, hrd3⟩ := hown3.open_
        have HP3 := Lib.hid hown3
        clear hown3 hg3 hat3 hrd3 hcell
        go_wp2
        go_roundw
        case rel => exact ⟨1, x, _, by go_num, by omega, by omega, HRO2, HWR2, HP3, HB3⟩
        case measure => simp [intOf]; omega
      | succ i =>
        obtain ⟨g2, off2, y, e2, _, hcell2, _, hat2, _⟩ := int_at (HR.out.below HB.out) (show i < n by omega)
        injection e2 with e2
        injection e2 with e2 e3 _
        subst e2 e3
        have hyl : y = last := by
          have h1 := HRO.out.2.2.1 (by omega)
          rw [Nat.add_sub_cancel, hat2] at h1
          injection h1
        subst hyl
        have hii : (i : Int) < (n : Int) := by omega
        have hwi : IntKind.i64.wrap (i : Int) = (i : Int) := by rw [IntKind.wrap_i64]; omega
        generalize (x - y - 1).toNat = gp at *
        clear hd hmem hx hat hat2
        go_wp2_with fail
        go_quiet (fail)
        go_wp2_with fail
        rw [HG.out]
        refine (HUW.out _).mono ?_
        rintro e w2 ⟨v2, rfl, hown2, hb2⟩
        have hb2' := below_undrewN hb2
        have HP2 := Lib.hid (HP.out.below hb2')
        have HB2 := Lib.hid (HB.out.trans (hb2'.mono HB.out.size))
        obtain ⟨A2, c2, rfl, hrd2⟩ := hown2.open_
        have hc2 := hrd2.cap
        have hm2 := hrd2.max
        have HR2 := Lib.hid hrd2
        clear hown2 hb2 hb2' hrd2
        go_wp2_with (at_builtin; go_must (refine wpList_app w2 rfl (.tmp 33) (.tmp 36) _ rfl w.heap.size _ _ i0 Tryd.underlying24 HI.out HZ0.out HZ1.out HZ2.out _ acc HP2.out rfl _ _ _ _ HR2.out rfl ?_ HB2.out.size ?_))
        · have h1 := HRM.out
          have h2 := HUL.out
          omega
        intro v' w3 hown3 hg3 hat3
        have HB3 := Lib.hid (HB2.out.trans (below_own HP2.out HB2.out.size hg3))
        obtain ⟨A3, c3, rfl, hrd3⟩ := hown3.open_
        have HP3 := Lib.hid hown3
        clear hown3 hg3 hat3 hrd3 hcell
        go_wp2
        go_roundw
        case rel => exact ⟨i + 1 + 1, x, _, by go_num, by omega, by omega, HRO2, HWR2, HP3, HB3⟩
        case measure => simp [intOf]; omega
    · have HE2 := Lib.hid (HWR.out.end_ (by have := HN.out; omega))
      go_wp2
      go_ret
      exact ⟨_, rfl, by rw [HE2.out]; exact HP.out, HB.out⟩
end Go.Proofs.YthhgelaifapmmaaDoor

namespace Go.Proofs.YthhgelaifapmmaaDoor
open Go.RowKit Mem
set_option linter.unusedVariables false
set_option maxRecDepth 100000

def DecTells (r : List Int × Nat × Nat) (w : World) (e : Ending) (w' : World) : Prop := ∃ v, e = .returned (.tuple #[v, .int .i64 (r.2.1 : Int), .int .i64 (r.2.2 : Int)]) ∧ OwnV w' w.heap.size 3 v (ints r.1) ∧ Below w.heap.size w w'
/-- j numbers are read, the last one being 'last'; what is left gives the answer -/
def Took (p : List UInt8) (at_ below : Int) (many j f : Nat) (last : Int) (acc : List Int) : Prop := M.dec p at_ below = M.decs p below (many - j) f (last + 1) acc ∧ acc.length = j ∧ j ≤ f ∧ f ≤ p.length
section
variable {p : List UInt8} {at_ below last : Int} {many j f g t x : Nat} {acc : List Int}
theorem Took.start (h : M.rdAt p at_ = (many, f, 0)) (h2 : ¬ (below < 0 ∨ below < (many : Int))) : Took p at_ below many 0 f (-1) [] := by
  have h3 := M.rdAt_le (l := p) (k := at_) (by rw [h])
  rw [h] at h3
  exact ⟨by rw [M.dec_on (by rw [h]) (by rw [h]; exact h2), h]; rfl, rfl, by omega, by simp only at h3; omega⟩
theorem Took.err (h : Took p at_ below many j f last acc) (hj : j < many) (hr : M.rdAt p f = (g, t, x)) (hx : x ≠ 0) : M.dec p at_ below = ([], 0, x) := by
  rw [h.1, show many - j = (many - j - 1) + 1 from by omega, M.decs_err (by rw [hr]; exact hx), hr]
theorem Took.out (h : Took p at_ below many j f last acc) (hj : j < many) (hr : M.rdAt p f = (g, t, 0)) (hg : below - (last + 1) ≤ (g : Int)) : M.dec p at_ below = ([], 0, 6) := by
  rw [h.1, show many - j = (many - j - 1) + 1 from by omega, M.decs_out (by rw [hr]) (by rw [hr]; exact hg)]
theorem Took.on (h : Took p at_ below many j f last acc) (hj : j < many) (hr : M.rdAt p f = (g, t, 0)) (hg : ¬ below - (last + 1) ≤ (g : Int)) {v v' : Int} (hv : v = last + g + 1) (hv' : v' = last + g + 1) : Took p at_ below many (j + 1) t v (acc ++ [v']) := by
  subst hv hv'
  have h3 := M.rdAt_le (l := p) (k := f) (by rw [hr])
  rw [hr] at h3
  have h1 := h.2.1
  have h2 := h.2.2.1
  simp only [Int.toNat_natCast] at h3
  refine ⟨?_, by simp [h1], by omega, by omega⟩
  rw [h.1, show many - j = (many - j - 1) + 1 from by omega, M.decs_on (by rw [hr]) (by rw [hr]; exact hg), hr]
  simp only
  rw [show many - (j + 1) = many - j - 1 from by omega, show last + 1 + (g : Int) = last + g + 1 from by omega]
theorem Took.end_ (h : Took p at_ below many j f last acc) (hj : ¬ j < many) : M.dec p at_ below = (acc, f, 0) := by
  rw [h.1, show many - j = 0 from by omega, M.decs]
theorem Took.room (h : Took p at_ below many j f last acc) (hj : j < many) (hr : M.rdAt p f = (g, t, 0)) (hroom : many * 8 ≤ 140737488355328 ∨ p.length * 8 ≤ 140737488355328) : (acc.length + 1) * 8 ≤ 140737488355328 := by
  have h3 := M.rdAt_le (l := p) (k := f) (by rw [hr])
  rw [hr] at h3
  have h1 := h.2.1
  have h2 := h.2.2.1
  simp only [Int.toNat_natCast] at h3
  omega
end
theorem rest_wrap {x last : Int} (h : -1 ≤ last) (hx : last < x) (hm : x ≤ 9223372036854775807) : IntKind.u64.wrap (wrap64 (wrap64 (x - last) - 1)) = x - last - 1 := by
  rw [gap_wrap h hx hm]; omega

end Go.Proofs.YthhgelaifapmmaaDoor
