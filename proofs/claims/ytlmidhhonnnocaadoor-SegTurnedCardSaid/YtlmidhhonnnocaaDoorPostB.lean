/-
  What And, Or, Less and behind of package post do, by contracts: each answers the list that its function of plain mathematics tells, in memory of its own.
-/
import Derived.Test.YtlmidhhonnnocaaDoorPostA
namespace Go.Proofs.YtlmidhhonnnocaaDoor
open Go.RowKit Mem
set_option linter.unusedVariables false
set_option maxRecDepth 100000

theorem Tryd.info_int : ∃ i, Tryd.prog.info? 3 = some i ∧ i.zero = some (.int .i64 0) ∧ i.size = 1 ∧ i.bytes = 8 := ⟨_, rfl, rfl, rfl, rfl⟩

/-- new numbers l, and nothing that was there has turned -/
def GivesI (w : World) (l : List Int) (e : Ending) (w' : World) : Prop := ∃ v, e = .returned v ∧ OwnV w' w.heap.size 3 v (ints l) ∧ Below w.heap.size w w'

theorem head_at {w : World} {B n c : Nat} {A : Option Addr} {l : List Int} (h : RdV w B A n c (ints l)) (hn : 0 < n) :
    ∃ b off x r, A = some ⟨b, off, none⟩ ∧ b < B ∧ w.cell? ⟨b, off, none⟩ = some (.int .i64 x) ∧ l = x :: r := by
  obtain ⟨b, off, x, e, hb, hc, hd, _, _⟩ := int_at h hn
  rw [Nat.add_zero] at hc
  exact ⟨b, off, x, l.drop 1, e, hb, hc, by simpa using hd⟩
theorem tail_at {w : World} {B n c : Nat} {b off : Nat} {x : Int} {r : List Int} (h : RdV w B (some ⟨b, off, none⟩) n c (ints (x :: r))) :
    RdV w B (if c = 1 then some ⟨b, off, none⟩ else some ⟨b, off + 1, none⟩) (n - 1) (c - 1) (ints r) := by
  have hn := h.1
  simp only [ints_len, List.length_cons] at hn
  have := h.from_ (k := 1) (by omega)
  simpa [ints, add_none] using this
namespace M
def behind (x v : Int) (r : List Int) : List Int := if x = v then r else x :: r
end M
/-- what is left of two lists, and what has been found -/
def LeftOf (f : List Int → List Int → List Int) (a b a' b' acc : List Int) : Prop := f a b = acc ++ f a' b'

def lenOf : Value → Nat
  | .slice _ n _ => n
  | _ => 0
theorem wpList_appI1 {P : Program} (w : World) {ops : Array Oper} {rest : List Oper} {o : Oper} {a : Act} {Q : Exit → Act → World → Prop} (hgd : o.guard = none) (s x : Operand) (t : TypeId)
    (ho : o.op = .call { callee := .builtin .append, args := #[s, x], argTypes := #[t, t] })
    (base : Nat) (e : TypeId) (i : TypeInfo) (ht : P.underlying t = some (.slice e)) (hi : P.info? e = some i) (hz : i.zero = some (.int .i64 0)) (hsize : i.size = 1) (hby : i.bytes = 8)
    (v : Value) (l : List Int) (hown : OwnV w base e v (ints l)) (hs : a.eval s = v) (q : Int) (hx : a.eval x = .slice (some ⟨w.heap.size, 0, none⟩) 1 1)
    (hroom : (l.length + 1) * 8 ≤ 140737488355328) (hbase : base ≤ w.heap.size)
    (h : ∀ v' w', OwnV w' base e v' (ints (l ++ [q])) → w.grownBy w' v.ownBlock → wpList P ops Q rest (a.put o.dst v') w') :
    wpList P ops Q (o :: rest) a (w.alloc (.cells #[.int .i64 q] e)) := by
  refine wpList_appV (w.alloc (.cells #[.int .i64 q] e)) hgd s x t ho base (w.heap.size + 1) e i (.int .i64 0) 8 ht hi hz hsize hby rfl v (ints l) (hown.alloc _) hs _ 1 1 [.int .i64 q] (RdV.fresh w _ e) hx (by simp [Value.oneCell'])
    (by simpa [ints_len] using hroom) (by simp [ints_len]; omega) (by simp; omega) fun v' w' h1 h2 h3 => h v' w' ?_ ?_
  · rw [ints_app]; exact h1
  · exact ⟨h2.os, h2.tape, h2.output, Nat.le_trans (by simp) h2.size, fun k hk hne => (h2.block k (by simp; omega) hne).trans (Below.heap_alloc w _ k hk)⟩

theorem own_form {w : World} {base : Nat} {e : TypeId} {v : Value} {l : List Int} (h : OwnV w base e v (ints l)) : ∃ A n c, v = .slice A n c ∧ Hid (n = l.length) ∧ n ≤ c ∧ c ≤ 9223372036854775807 := by
  obtain ⟨A, c, e, h1, h2⟩ := h.form
  exact ⟨A, _, c, e, Lib.hid (ints_len l), h1, h2⟩
theorem own_join {w : World} {base : Nat} {e : TypeId} {v : Value} {l r z : List Int} (h : OwnV w base e v (ints l ++ ints r)) (hz : z = l ++ r) : OwnV w base e v (ints z) := by rw [hz, ints_app]; exact h
/-- two lists that are walked, and what was found -/
def Two (f : List Int → List Int → List Int) (a b : List Int) (w : World) (u v p : Value) (wr : World) : Prop :=
  ∃ (A A' : Option Addr) (n c n' c' : Nat) (a' b' acc : List Int), u = .slice A n c ∧ v = .slice A' n' c' ∧ Hid (RdV wr w.heap.size A n c (ints a')) ∧ Hid (RdV wr w.heap.size A' n' c' (ints b')) ∧
    Hid (OwnV wr w.heap.size 3 p (ints acc)) ∧ Hid (f a b = acc ++ f a' b') ∧ Hid (Below w.heap.size w wr)
theorem Two.start {f : List Int → List Int → List Int} {a b : List Int} {w : World} {A A' : Option Addr} {n c n' c' : Nat} (h : RdV w w.heap.size A n c (ints a)) (h' : RdV w w.heap.size A' n' c' (ints b)) :
    Two f a b w (.slice A n c) (.slice A' n' c') (.slice none 0 0) w :=
  ⟨A, A', n, c, n', c', a, b, [], rfl, rfl, Lib.hid h, Lib.hid h', Lib.hid (OwnV.nil _ _ _), Lib.hid rfl, Lib.hid (Below.refl _ _)⟩
theorem ownv_drewN {w : World} {base : Nat} {e : TypeId} {v : Value} {xs : List Value} (h : OwnV w base e v xs) (k : Nat) : OwnV (w.drewN k) base e v xs := h

set_option maxHeartbeats 4000000 in
theorem and_any (A : Option Addr) (n c : Nat) (a : List Int) (A' : Option Addr) (n' c' : Nat) (b : List Int) (w : World) (h : RdV w w.heap.size A n c (ints a)) (h' : RdV w w.heap.size A' n' c' (ints b)) (hl : a.length + b.length ≤ 1000000) :
    Calls Tryd.prog 62 #[.slice A n c, .slice A' n' c'] w (GivesI w (M.andL a b)) := by
  obtain ⟨i0, hi, hz0, hz1, hz2⟩ := Tryd.info_int
  have HI := Lib.hid hi; have HZ0 := Lib.hid hz0; have HZ1 := Lib.hid hz1; have HZ2 := Lib.hid hz2
  clear hi hz0 hz1 hz2
  have HST := Lib.hid (Two.start (f := M.andL) h h')
  have HAL := Lib.hid (show (M.andL a b).length ≤ 1000000 by have := M.and_le a b; omega)
  clear h h' hl
  go_enter Tryd.func62, Tryd.ntmps62
  go_wp2
  go_loopw [0, 1, 5] (fun u v p wr => Two M.andL a b w u v p wr) (fun u v _ _ => lenOf u + lenOf v)
  case atStart => exact HST.out
  case round =>
    obtain ⟨A, A', n, c, n', c', a', b', acc, rfl, rfl, HA, HB, HP, HF, HW⟩ := hrel
    rename World => wr
    have hc := HA.out.2.1
    have hm := HA.out.max
    have hc' := HB.out.2.1
    have hm' := HB.out.max
    have hna := HA.out.1
    have hnb := HB.out.1
    rw [ints_len] at hna hnb
    have HNA := Lib.hid hna
    have HNB := Lib.hid hnb
    clear hna hnb
    by_cases hn : 0 < n
    · by_cases hn' : 0 < n'
      · obtain ⟨g, off, x, ra, rfl, hg, hcell, rfl⟩ := head_at HA.out hn
        obtain ⟨g', off', y, rb, rfl, hg', hcell', rfl⟩ := head_at HB.out hn'
        have HTA := Lib.hid (tail_at HA.out)
        have HTB := Lib.hid (tail_at HB.out)
        by_cases hxy : x < y
        · have HF2 := Lib.hid (show M.andL a b = acc ++ M.andL ra (y :: rb) by rw [HF.out, M.and_lt hxy])
          by_cases hc1 : c = 1
          · subst hc1
            obtain rfl : n = 1 := by omega
            rw [if_pos rfl] at HTA
            go_wp2_with fail
            go_quiet (fail)
            go_wp2
            exact ⟨⟨_, _, _, _, _, _, ra, y :: rb, acc, rfl, rfl, HTA, HB, HP, HF2, Lib.hid (bel_drewN HW.out _)⟩, by simp only [lenOf]; omega⟩
          · rw [if_neg hc1] at HTA
            go_wp2_with fail
            go_quiet (fail)
            go_wp2
            exact ⟨⟨_, _, _, _, _, _, ra, y :: rb, acc, rfl, rfl, HTA, HB, HP, HF2, Lib.hid (bel_drewN HW.out _)⟩, by simp only [lenOf]; omega⟩
        · by_cases hyx : y < x
          · have HF2 := Lib.hid (show M.andL a b = acc ++ M.andL (x :: ra) rb by rw [HF.out, M.and_gt hyx])
            by_cases hc1 : c' = 1
            · subst hc1
              obtain rfl : n' = 1 := by omega
              rw [if_pos rfl] at HTB
              go_wp2_with fail
              go_quiet (fail)
              go_wp2_with fail
              go_quiet (fail)
              go_wp2
              exact ⟨⟨_, _, _, _, _, _, x :: ra, rb, acc, rfl, rfl, HA, HTB, HP, HF2, Lib.hid (bel_drewN HW.out _)⟩, by simp only [lenOf]; omega⟩
            · rw [if_neg hc1] at HTB
              go_wp2_with fail
              go_quiet (fail)
              go_wp2_with fail
              go_quiet (fail)
              go_wp2
              exact ⟨⟨_, _, _, _, _, _, x :: ra, rb, acc, rfl, rfl, HA, HTB, HP, HF2, Lib.hid (bel_drewN HW.out _)⟩, by simp only [lenOf]; omega⟩
          · obtain rfl : x = y := by omega
            have HF2 := Lib.hid (show M.andL a b = (acc ++ [x]) ++ M.andL ra rb by rw [HF.out, M.and_eq]; simp)
            have HRM := Lib.hid (show (acc.length + 1) * 8 ≤ 140737488355328 by
              have h1 := congrArg List.length HF2.out
              have h2 := HAL.out
              simp only [List.length_append, List.length_cons, List.length_nil] at h1
              omega)
            go_wp2_with fail
            go_quiet (fail)
            go_wp2_with fail
            go_quiet (fail)
            go_wp2_with (at_builtin; go_must (refine wpList_appI1 _ rfl (.tmp 14) (.tmp 18) _ rfl w.heap.size _ i0 Tryd.underlying42 HI.out HZ0.out HZ1.out HZ2.out _ acc (ownv_drewN HP.out _) rfl _ rfl HRM.out HW.out.size ?_))
            intro v' w1 hown' hgr
            have hb1 := OwnV.grown (ownv_drewN HP.out _) HW.out.size hgr
            have HB1 := Lib.hid (HW.out.trans (below_undrewN hb1))
            have HTA1 := Lib.hid (HTA.out.below (below_undrewN hb1))
            have HTB1 := Lib.hid (HTB.out.below (below_undrewN hb1))
            obtain ⟨A3, c3, rfl, hc3, hm3⟩ := hown'.form
            have HO1 := Lib.hid hown'
            clear hown' hgr hb1 hcell hcell'
            by_cases hc1 : c = 1
            · subst hc1
              obtain rfl : n = 1 := by omega
              rw [if_pos rfl] at HTA1
              by_cases hc2 : c' = 1
              · subst hc2
                obtain rfl : n' = 1 := by omega
                rw [if_pos rfl] at HTB1
                go_wp2_with fail
                go_quiet (fail)
                go_wp2
                exact ⟨⟨_, _, _, _, _, _, ra, rb, acc ++ [x], rfl, rfl, HTA1, HTB1, HO1, HF2, Lib.hid (bel_drewN HB1.out _)⟩, by simp only [lenOf]; omega⟩
              · rw [if_neg hc2] at HTB1
                go_wp2_with fail
                go_quiet (fail)
                go_wp2
                exact ⟨⟨_, _, _, _, _, _, ra, rb, acc ++ [x], rfl, rfl, HTA1, HTB1, HO1, HF2, Lib.hid (bel_drewN HB1.out _)⟩, by simp only [lenOf]; omega⟩
            · rw [if_neg hc1] at HTA1
              by_cases hc2 : c' = 1
              · subst hc2
                obtain rfl : n' = 1 := by omega
                rw [if_pos rfl] at HTB1
                go_wp2_with fail
                go_quiet (fail)
                go_wp2
                exact ⟨⟨_, _, _, _, _, _, ra, rb, acc ++ [x], rfl, rfl, HTA1, HTB1, HO1, HF2, Lib.hid (bel_drewN HB1.out _)⟩, by simp only [lenOf]; omega⟩
              · rw [if_neg hc2] at HTB1
                go_wp2_with fail
                go_quiet (fail)
                go_wp2
                exact ⟨⟨_, _, _, _, _, _, ra, rb, acc ++ [x], rfl, rfl, HTA1, HTB1, HO1, HF2, Lib.hid (bel_drewN HB1.out _)⟩, by simp only [lenOf]; omega⟩
      · obtain rfl : b' = [] := List.eq_nil_of_length_eq_zero (by have := HNB.out; omega)
        obtain rfl : n' = 0 := by omega
        have HF2 := Lib.hid (show M.andL a b = acc by rw [HF.out, M.and_nil', List.append_nil])
        go_wp2
        go_ret
        exact ⟨_, rfl, by rw [HF2.out]; exact HP.out, HW.out⟩
    · obtain rfl : a' = [] := List.eq_nil_of_length_eq_zero (by have := HNA.out; omega)
      obtain rfl : n = 0 := by omega
      have HF2 := Lib.hid (show M.andL a b = acc by rw [HF.out, M.and_nil, List.append_nil])
      go_wp2
      go_ret
      exact ⟨_, rfl, by rw [HF2.out]; exact HP.out, HW.out⟩
end Go.Proofs.YtlmidhhonnnocaaDoor
