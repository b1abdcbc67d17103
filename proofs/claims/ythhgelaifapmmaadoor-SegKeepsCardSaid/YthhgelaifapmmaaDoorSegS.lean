/-
  What seg's answer and Find do, by contracts; of a nil segment too.
-/
import Derived.Test.YthhgelaifapmmaaDoorSegR
namespace Go.Proofs.YthhgelaifapmmaaDoor
open Go.RowKit Mem Go.ChangeShapes Go.Sort
set_option linter.unusedVariables false
set_option maxRecDepth 100000

/-- what a term's list is looked up by: the query's text, the segment's map, the look-up itself -/
def LkS (w1 : World) (gq g b : Nat) (t : List UInt8) (v : Value) (W : World) : Prop :=
  W.cell? ⟨gq, 1, none⟩ = some (.string ⟨t.toArray⟩) ∧ W.cell? ⟨g, 1, none⟩ = some (.map (some b)) ∧ (Instr.lookup 62 (.map (some b)) (.string ⟨t.toArray⟩) false).run Tryd.prog W = .ok v W ∧ Below w1.heap.size w1 W
theorem LkS.on {w1 W W' : World} {gq g b base n : Nat} {t : List UInt8} {v : Value} {D : DataW Unit} (hg : w1.ownsGroups Tryd.prog 9 base 3 .i64 b n D) (ht : t.length ≤ 9223372036854775807) (h : LkS w1 gq g b t v W) (hb : Below W.heap.size W W') : LkS w1 gq g b t v W' :=
  ⟨cell_on hb h.1, cell_on hb h.2.1, Tryd.look_on (groups_below hg h.2.2.2) (hb.block b (groups_lt (groups_below hg h.2.2.2))) (keyOf_text t ht) h.2.2.1, h.2.2.2.trans (hb.mono h.2.2.2.size)⟩

namespace Q
/-- a query whose texts are no longer than a text can be -/
inductive Short : Q → Prop
  | mk {k : Nat} {t : List UInt8} {z : Int} {A : Option Addr} {n c : Nat} {ks : List Q} (h1 : t.length ≤ 9223372036854775807) (h2 : ∀ q ∈ ks, Short q) : Short (.mk k t z A n c ks)
theorem Short.text {k : Nat} {t : List UInt8} {z : Int} {A : Option Addr} {n c : Nat} {ks : List Q} (h : Short (.mk k t z A n c ks)) : t.length ≤ 9223372036854775807 := by cases h; assumption
theorem Short.kids {k : Nat} {t : List UInt8} {z : Int} {A : Option Addr} {n c : Nat} {ks : List Q} (h : Short (.mk k t z A n c ks)) : ∀ q ∈ ks, Short q := by cases h; assumption
end Q

theorem answer_none (p : Value) (q : Q) (A : Option Addr) (c : Nat) (hc : c ≤ 9223372036854775807) (w : World) : Calls Tryd.prog 46 #[p, q.val, .slice A 0 c] w (fun e w' => e = .returned (.slice none 0 0) ∧ Below w.heap.size w w') := by
  obtain ⟨k, t, z, Aq, nq, cq, ks⟩ := q
  unfold Q.val
  simp only
  obtain ⟨K, hK⟩ : ∃ K : Int, (k : Int) = K := ⟨_, rfl⟩
  rw [hK]
  clear hK
  have HB1 := Lib.hid ((Below.refl w.heap.size w).alloc (Nat.le_refl _) (.cells #[.int .u8 K, .string ⟨t.toArray⟩, .int .i64 z, .slice Aq nq cq] 39))
  go_enter Tryd.func46, Tryd.ntmps46
  go_wp2
  go_ret
  exact ⟨rfl, HB1.out⟩

set_option maxHeartbeats 8000000 in
theorem answer_any (w0 : World) (base g : Nat) (ds : List M.D) (hS : SegAt w0 base g ds) (hT : Tabs w0) (hl : ds.length ≤ 4096) (htx : ∀ d ∈ ds, d.text.length ≤ 512) {q : Q} (hq : Q.Ok w0 w0.heap.size q) (hqt : Q.Short q) : AnswerAt w0 g ds q := by
  induction hq with
  | @mk k t z Aq nq cq ks h1 h2 h3 h4 ih =>
  intro B0 v l w hb hB ho hf
  by_cases hl0 : l = []
  · subst hl0
    obtain ⟨Av, cv, rfl, hcv, hmv⟩ := ho.form
    exact (answer_none (.pointer (some ⟨g, 0, none⟩)) (.mk k t z Aq nq cq ks) Av cv hmv w).mono fun e w' h => ⟨_, h.1, OwnV.nil _ _ _, h.2⟩
  have hlp : 0 < l.length := by cases l with | nil => exact absurd rfl hl0 | cons => simp
  have HRow := Lib.hid h3
  have HIH := Lib.hid (fun q hq => ih q hq (hqt.kids q hq))
  have hc3 := h3.2.1; have hm3 := h3.2.2.1
  have HT8 := Lib.hid hqt.text
  have HAL := Lib.hid (fun (W : World) (hW : Below w0.heap.size w0 W) (hBW : B0 ≤ W.heap.size) (hoW : OwnV W B0 3 v (ints l)) => answerAlone_any w0 base g ds (.mk k t z Aq nq cq ks) hS (.mk h1 h2 h3 h4) hT hl htx B0 v l W hW hBW hoW hf)
  obtain ⟨Ad, cd, b, N, D, s1, -, -, s4, s5, s6, -⟩ := hS.on hb
  have HSC := Lib.hid (show w.cell? ⟨g, 1, none⟩ = some (.map (some b)) from cellAt 1 s1)
  have HG := Lib.hid s4; have HGP := Lib.hid s6
  have HO := Lib.hid ho; have HF := Lib.hid hf; have HB := Lib.hid hb
  clear hS hT htx h3 h4 ih hb ho hf s1 s4 s6 hl0 h1 h2
  obtain ⟨Av, cv, hvv, hcv, hmv⟩ := HO.out.form
  rw [ints_len] at hvv hcv
  have HVV := Lib.hid hvv
  obtain ⟨n, hn⟩ : ∃ n, l.length = n := ⟨_, rfl⟩
  have HN := Lib.hid hn
  rw [hn] at hvv hcv hlp
  subst hvv
  have hnq : ((n : Int) == 0) = false := by simp; omega
  have hn0 : n ≠ 0 := by omega
  have HLL := Lib.hid (show n ≤ 4096 by have := HF.out.len; omega)
  unfold Q.val at HAL ⊢
  simp only at HAL ⊢
  obtain ⟨K, hK⟩ : ∃ K : Int, (k : Int) = K := ⟨_, rfl⟩
  rw [hK] at HAL ⊢
  obtain ⟨w1, hw1⟩ : ∃ w1, w1 = w.alloc (.cells #[.int .u8 K, .string ⟨t.toArray⟩, .int .i64 z, .slice Aq nq cq] 39) := ⟨_, rfl⟩
  have hb1 : Below w.heap.size w w1 := by rw [hw1]; exact (Below.refl _ _).alloc (Nat.le_refl _) _
  have HB1 := Lib.hid hb1
  have HB01 := Lib.hid (HB.out.trans (hb1.mono HB.out.size))
  have HBX := Lib.hid (show BoxIn w1 w.heap.size K t z Aq nq cq by rw [hw1]; exact BoxIn.new w K t z Aq nq cq)
  have HO1 := Lib.hid (HO.out.below hb1)
  have hB1 : B0 ≤ w1.heap.size := Nat.le_trans hB hb1.size
  clear hb1 hn
  obtain ⟨x0, x1, x2, x3⟩ := HBX.out.cells
  by_cases hw : k = 1 ∨ k = 2
  · have HHA := Lib.hid (show ∀ x, hasAt ds (.mk k t z Aq nq cq ks) x = decide (t ∈ M.terms (dAt ds x).text) from fun x => by
      unfold hasAt
      rcases hw with rfl | rfl
      · rw [Q.has1]
      · rw [Q.has2])
    have HAP := Lib.hid (and_posts HF.out t (hasAt ds (.mk k t z Aq nq cq ks)) HHA.out)
    obtain ⟨pv, zs, hrun, hat, hoi, hzl, -⟩ := World.ownsGroups.at (groups_below HG.out HB1.out) Tryd.keyed Tryd.underlying62 (Tryd.zeroInts _) (by simp only [maxLen]; omega) (keyOf_text t HT8.out)
    have hzf := HGP.out.at_ hat hoi
    subst hzf
    have hov : OwnV w1 (b + 1) 3 pv (ints (M.posts ds t)) := by
      have := hoi.1
      unfold OwnV
      rw [ints_len]
      exact this
    obtain ⟨Ap, cp, hpv, -⟩ := hov.form
    subst hpv
    have HPO := Lib.hid hov
    rw [ints_len] at hrun HPO
    have HPL := Lib.hid (posts_fit ds t).2.1
    have HL0 := Lib.hid (show LkS w1 w.heap.size g b t (.slice Ap (M.posts ds t).length cp) w1.drew from ⟨x1, cell_on HB1.out HSC.out, Tryd.look_on (W' := w1.drew) (groups_below HG.out HB1.out) rfl (keyOf_text t HT8.out) hrun, ⟨rfl, rfl, rfl, Nat.le_refl _, fun _ _ => rfl⟩⟩)
    have HAND := Lib.hid (fun (W : World) (hW : Below w1.heap.size w1 W) => and_any Av n cv l Ap (M.posts ds t).length cp (M.posts ds t) W (HO1.out.below hW).rd (HPO.out.below hW).rd (by have := HN.out; have := HLL.out; have := HPL.out; omega))
    rw [HAP.out] at HAND
    have HGB := Lib.hid (fun (W W' : World) (h : LkS w1 w.heap.size g b t (.slice Ap (M.posts ds t).length cp) W) (hW : Below W.heap.size W W') => LkS.on (groups_below HG.out HB1.out) HT8.out h hW)
    clear hrun hat hoi hzl hov
    generalize (M.posts ds t).length = np at *
    have hkk : K = 1 ∨ K = 2 := by omega
    have HFF := Lib.hid (show (l.filter (hasAt ds (.mk k t z Aq nq cq ks))).length = l.length → l.filter (hasAt ds (.mk k t z Aq nq cq ks)) = l from filter_full)
    generalize l.filter (hasAt ds (.mk k t z Aq nq cq ks)) = res at *
    clear hw hK HRow HIH HAL HHA HAP
    subst hw1
    rcases hkk with rfl | rfl
    · go_enter Tryd.func46, Tryd.ntmps46
      go_wp2_with fail
      go_region_held3 (fun W => W.cell? ⟨w.heap.size, 1, none⟩ = some (.string ⟨t.toArray⟩) ∧ W.cell? ⟨g, 1, none⟩ = some (.map (some b)) ∧ (Instr.lookup 62 (.map (some b)) (.string ⟨t.toArray⟩) false).run Tryd.prog W = .ok (.slice Ap np cp) W ∧ Below (w.alloc (.cells #[.int .u8 1, .string ⟨t.toArray⟩, .int .i64 z, .slice Aq nq cq] 39)).heap.size (w.alloc (.cells #[.int .u8 1, .string ⟨t.toArray⟩, .int .i64 z, .slice Aq nq cq] 39)) W)
        (first | exact hHeld | exact HL0.out | exact hL2 | exact hL3)
        (first
          | (go_at_call 62; refine (HAND.out _ HL0.out.2.2.2).mono ?_; rintro e w2 ⟨v2, rfl, hO2, hb2⟩; have hL2 := HGB.out _ _ HL0.out hb2)
          | (go_at_call 61; refine (segPart_any B0 _ _ l _ _ (HO1.out.below hL2.2.2.2) (OwnV.less hO2 hB1) HFF.out).mono ?_; rintro e w3 ⟨v3, rfl, hO3, hb3⟩; have hL3 := HGB.out _ _ hL2 hb3))
      all_goals
        have HO3 := Lib.hid hO3
        have HB3 := Lib.hid (HB1.out.trans (hL3.2.2.2.mono HB1.out.size))
        clear hO3 hO2 hb2 hb3 hL2 hL3
        go_wp2
        go_ret
        exact ⟨_, rfl, HO3.out, HB3.out⟩
    · go_enter Tryd.func46, Tryd.ntmps46
      go_wp2_with fail
      go_region_held3 (fun W => W.cell? ⟨w.heap.size, 1, none⟩ = some (.string ⟨t.toArray⟩) ∧ W.cell? ⟨g, 1, none⟩ = some (.map (some b)) ∧ (Instr.lookup 62 (.map (some b)) (.string ⟨t.toArray⟩) false).run Tryd.prog W = .ok (.slice Ap np cp) W ∧ Below (w.alloc (.cells #[.int .u8 2, .string ⟨t.toArray⟩, .int .i64 z, .slice Aq nq cq] 39)).heap.size (w.alloc (.cells #[.int .u8 2, .string ⟨t.toArray⟩, .int .i64 z, .slice Aq nq cq] 39)) W)
        (first | exact hHeld | exact HL0.out | exact hL2 | exact hL3)
        (first
          | (go_at_call 62; refine (HAND.out _ HL0.out.2.2.2).mono ?_; rintro e w2 ⟨v2, rfl, hO2, hb2⟩; have hL2 := HGB.out _ _ HL0.out hb2)
          | (go_at_call 61; refine (segPart_any B0 _ _ l _ _ (HO1.out.below hL2.2.2.2) (OwnV.less hO2 hB1) HFF.out).mono ?_; rintro e w3 ⟨v3, rfl, hO3, hb3⟩; have hL3 := HGB.out _ _ hL2 hb3))
      all_goals
        have HO3 := Lib.hid hO3
        have HB3 := Lib.hid (HB1.out.trans (hL3.2.2.2.mono HB1.out.size))
        clear hO3 hO2 hb2 hb3 hL2 hL3
        go_wp2
        go_ret
        exact ⟨_, rfl, HO3.out, HB3.out⟩
  · have hk1 : (K == 1) = false := by simp; omega
    have hk2 : (K == 2) = false := by simp; omega
    clear HG HGP HSC HT8
    by_cases h5 : k = 5
    · subst h5
      obtain rfl : K = 5 := hK.symm
      have HC := Lib.hid (segNot_any w0 g ds hl Aq nq cq ks HRow.out HIH.out B0 _ l w1 HB01.out hB1 HO1.out HF.out)
      have HX := Lib.hid (show (l.filter fun x => decide (ks.length = 1) && !oneAt ds ks x) = l.filter (hasAt ds (.mk 5 t z Aq nq cq ks)) by
        congr 1)
      rw [HX.out] at HC
      clear hw
      go_enter Tryd.func46, Tryd.ntmps46
      go_wp2_with fail
      rw [← hw1]
      refine HC.out.mono ?_
      rintro e w2 ⟨v2, rfl, hO2, hb2⟩
      have HO2 := Lib.hid hO2
      have HB2 := Lib.hid (HB1.out.trans (hb2.mono HB1.out.size))
      clear hO2 hb2
      go_wp2
      go_ret
      exact ⟨_, rfl, HO2.out, HB2.out⟩
    have hk5 : (K == 5) = false := by simp; omega
    by_cases h3 : k = 3
    · subst h3
      obtain rfl : K = 3 := hK.symm
      have HC := Lib.hid (segAll_any w0 g ds Aq nq cq ks HRow.out HIH.out B0 _ l w1 HB01.out hB1 HO1.out HF.out)
      have HX := Lib.hid (show l.filter (allAt ds ks) = l.filter (hasAt ds (.mk 3 t z Aq nq cq ks)) by
        congr 1)
      rw [HX.out] at HC
      clear hw
      go_enter Tryd.func46, Tryd.ntmps46
      go_wp2_with fail
      rw [← hw1]
      refine HC.out.mono ?_
      rintro e w2 ⟨v2, rfl, hO2, hb2⟩
      have HO2 := Lib.hid hO2
      have HB2 := Lib.hid (HB1.out.trans (hb2.mono HB1.out.size))
      clear hO2 hb2
      go_wp2
      go_ret
      exact ⟨_, rfl, HO2.out, HB2.out⟩
    have hk3 : (K == 3) = false := by simp; omega
    by_cases h4 : k = 4
    · subst h4
      obtain rfl : K = 4 := hK.symm
      have HC := Lib.hid (segOne_any w0 g ds hl Aq nq cq ks HRow.out HIH.out B0 _ l w1 HB01.out hB1 HO1.out HF.out)
      have HX := Lib.hid (show l.filter (oneAt ds ks) = l.filter (hasAt ds (.mk 4 t z Aq nq cq ks)) by
        congr 1)
      rw [HX.out] at HC
      clear hw
      go_enter Tryd.func46, Tryd.ntmps46
      go_wp2_with fail
      rw [← hw1]
      refine HC.out.mono ?_
      rintro e w2 ⟨v2, rfl, hO2, hb2⟩
      have HO2 := Lib.hid hO2
      have HB2 := Lib.hid (HB1.out.trans (hb2.mono HB1.out.size))
      clear hO2 hb2
      go_wp2
      go_ret
      exact ⟨_, rfl, HO2.out, HB2.out⟩
    have hk4 : (K == 4) = false := by simp; omega
    have HC := Lib.hid (HAL.out w1 HB01.out hB1 HO1.out)
    have HFF := Lib.hid (show (l.filter (hasAt ds (.mk k t z Aq nq cq ks))).length = l.length → l.filter (hasAt ds (.mk k t z Aq nq cq ks)) = l from filter_full)
    generalize l.filter (hasAt ds (.mk k t z Aq nq cq ks)) = res at *
    clear hw hK HRow HIH HAL
    go_enter Tryd.func46, Tryd.ntmps46
    go_wp2_with fail
    rw [← hw1]
    refine HC.out.mono ?_
    rintro e w2 ⟨v2, rfl, hO2, hb2⟩
    have HP := Lib.hid (segPart_any B0 _ _ l _ _ (HO1.out.below hb2) hO2 HFF.out)
    have HB2 := Lib.hid (HB1.out.trans (hb2.mono HB1.out.size))
    clear hO2 hb2
    go_wp2_with fail
    refine HP.out.mono ?_
    rintro e w3 ⟨v3, rfl, hO3, hb3⟩
    have HO3 := Lib.hid hO3
    have HB3 := Lib.hid (HB2.out.trans (hb3.mono HB2.out.size))
    clear hO3 hb3
    go_wp2
    go_ret
    exact ⟨_, rfl, HO3.out, HB3.out⟩

def allN (n : Nat) : List Int := (List.range n).map Int.ofNat
/-- the first i numbers are laid -/
def upN (n i : Nat) : List Int := (List.range n).map fun j => if j < i then (j : Int) else 0
theorem upN_zero (n : Nat) : ints (upN n 0) = List.replicate n (.int .i64 0) := by
  unfold ints upN
  rw [List.map_map]
  apply List.ext_getElem
  · simp
  · intro i h1 h2; simp
theorem upN_set (n i : Nat) : (ints (upN n i)).set i (.int .i64 (i : Int)) = ints (upN n (i + 1)) := by
  unfold ints upN
  rw [List.map_map, List.map_map]
  apply List.ext_getElem
  · simp
  · intro j h1 h2
    rw [List.getElem_set]
    by_cases e : i = j
    · subst e; simp
    · rw [if_neg e]
      have : (j < i + 1) = (j < i) := by apply propext; omega
      simp [this]
theorem upN_all (n : Nat) : upN n n = allN n := by
  unfold upN allN
  apply List.map_congr_left
  intro j hj
  rw [if_pos (List.mem_range.1 hj)]
  rfl
theorem upN_len (n i : Nat) : (upN n i).length = n := by simp [upN]
theorem allN_fine (ds : List M.D) : Fine ds (allN ds.length) := by
  refine ⟨nat_rise _ List.pairwise_lt_range _ (fun x _ => by omega), fun x hx => ?_⟩
  obtain ⟨j, hj, rfl⟩ := List.mem_map.1 hx
  have := List.mem_range.1 hj
  show (j : Int) < _
  omega
/-- the numbers of the entries that answer -/
def finds (ds : List M.D) (q : Q) : List Int := (allN ds.length).filter (hasAt ds q)

set_option maxHeartbeats 2000000 in
theorem segFind_any (g base : Nat) (ds : List M.D) (q : Q) (w : World) (hS : SegAt w base g ds) (hT : Tabs w) (hl : ds.length ≤ 4096) (htx : ∀ d ∈ ds, d.text.length ≤ 512) (hq : Q.Ok w w.heap.size q) (hqt : Q.Short q) :
    Calls Tryd.prog 19 #[.pointer (some ⟨g, 0, none⟩), q.val] w (GivesI w (finds ds q)) := by
  obtain ⟨i0, hi0, hz0, hz1, hz2⟩ := Tryd.info_int
  have HI := Lib.hid hi0; have HZ0 := Lib.hid hz0; have HZ1 := Lib.hid hz1; have HZ2 := Lib.hid hz2
  clear hi0 hz0 hz1 hz2
  have HLN := Lib.hid (fun (W : World) (hW : Below w.heap.size w W) => segLen_any g base ds W (hS.on hW))
  have HAN := Lib.hid (answer_any w base g ds hS hT hl htx hq hqt)
  have HFN := Lib.hid (allN_fine ds)
  clear hS hT htx hq hqt
  obtain ⟨res, hres⟩ : ∃ res, finds ds q = res := ⟨_, rfl⟩
  have HRES := Lib.hid hres
  rw [hres]
  clear hres
  unfold finds at HRES
  unfold AnswerAt at HAN
  obtain ⟨k, t, z, Aq, nq, cq, ks⟩ := q
  unfold Q.val at HAN ⊢
  simp only at HAN ⊢
  obtain ⟨K, hK⟩ : ∃ K : Int, (k : Int) = K := ⟨_, rfl⟩
  rw [hK] at HAN ⊢
  obtain ⟨n, hn⟩ : ∃ n, ds.length = n := ⟨_, rfl⟩
  rw [hn] at HLN HFN HRES hl
  clear hK hn
  obtain ⟨w1, hw1⟩ : ∃ w1, w1 = w.alloc (.cells #[.int .u8 K, .string ⟨t.toArray⟩, .int .i64 z, .slice Aq nq cq] 39) := ⟨_, rfl⟩
  have hb1 : Below w.heap.size w w1 := by rw [hw1]; exact (Below.refl _ _).alloc (Nat.le_refl _) _
  have HB1 := Lib.hid hb1
  have HBX := Lib.hid (show BoxIn w1 w.heap.size K t z Aq nq cq by rw [hw1]; exact BoxIn.new w K t z Aq nq cq)
  clear hb1
  have HW1 := Lib.hid hw1
  clear hw1
  obtain ⟨w2, hmk, ho2, hg2⟩ := run_make_full (P := Tryd.prog) w1 w1.heap.size 42 3 i0 (.int .i64 0) 1 Tryd.underlying42 HI.out HZ0.out HZ1.out .i64 .i64 n (by rw [HZ2.out]; omega) (by simp only [maxLen]; omega) (Nat.le_refl _)
  have HO2 := Lib.hid (show OwnV w2 w1.heap.size 3 (.slice (some ⟨w1.heap.size, 0, none⟩) n n) (ints (upN n 0)) by
    unfold OwnV
    rw [ints_len, upN_len, upN_zero, ← toList_madeCells_one]
    rw [Nat.mul_one] at ho2
    exact ho2)
  have HB2 := Lib.hid (show Below w1.heap.size w1 w2 from ⟨hg2.os, hg2.tape, hg2.output, hg2.size, fun k hk => hg2.block k hk (by simp)⟩)
  have HMK := Lib.hid hmk
  clear ho2 hg2 hmk
  go_enter Tryd.func19, Tryd.ntmps19
  go_wp2_with fail
  rw [← HW1.out]
  refine (HLN.out _ HB1.out).mono ?_
  rintro e w1 ⟨rfl, hx⟩
  subst hx
  have hmk := HMK.out
  obtain ⟨g1, hg1⟩ : ∃ g1, w1.heap.size = g1 := ⟨_, rfl⟩
  have HG1 := Lib.hid hg1
  rw [hg1] at HO2 hmk
  clear hg1 HMK HLN
  go_wp2
  clear hmk
  go_loopw [12] (fun p wr => ∃ i : Nat, p = .int .i64 i ∧ i ≤ n ∧ Hid (OwnV wr g1 3 (.slice (some ⟨g1, 0, none⟩) n n) (ints (upN n i))) ∧ Hid (Below w1.heap.size w1 wr)) (fun p _ => n - (intOf p).toNat)
  case atStart => exact ⟨0, rfl, Nat.zero_le _, HO2, HB2⟩
  case round =>
    obtain ⟨i, rfl, hi, HO, HB⟩ := hrel
    rename World => wr
    by_cases hlt : i < n
    · have hil : (i : Int) < (n : Int) := by omega
      have hrow : wr.ownsRow g1 3 1 (.slice (some ⟨g1, 0, none⟩) n n) n (ints (upN n i)) := by
        have := HO.out
        unfold OwnV at this
        rw [ints_len, upN_len] at this
        exact this
      have hst := World.ownsRow.stored hrow i (.int .i64 (i : Int))
      have HO3 := Lib.hid (show OwnV (wr.setCell ⟨g1, i, none⟩ (.int .i64 (i : Int))) g1 3 (.slice (some ⟨g1, 0, none⟩) n n) (ints (upN n (i + 1))) by
        unfold OwnV
        rw [ints_len, upN_len, ← upN_set]
        exact hst.1)
      have HB3 := Lib.hid (HB.out.setCell (p := ⟨g1, i, none⟩) (by rw [HG1.out]; exact Nat.le_refl _) (.int .i64 (i : Int)))
      have hfz : wr.frozen? ⟨g1, i, none⟩ = false := World.ownsRow.frozenAt hrow i
      have hce : ∃ u, wr.cell? ⟨g1, i, none⟩ = some u := by
        obtain ⟨b, off, e, hb, hc⟩ := HO.out.rd.at_ hlt
        injection e with e
        injection e with e1 e2
        subst e1 e2
        rw [Nat.zero_add] at hc
        rw [ints_at (by rw [upN_len]; exact hlt)] at hc
        exact ⟨_, hc⟩
      obtain ⟨u, hce⟩ := hce
      clear hst hrow
      go_wp2
      go_roundw
      case rel => exact ⟨i + 1, by go_num, by omega, HO3, HB3⟩
      case measure => simp [intOf]; omega
    · obtain rfl : i = n := by omega
      have HBW := Lib.hid (HB1.out.trans (HB.out.mono HB1.out.size))
      obtain ⟨x0, x1, x2, x3⟩ := (HBX.out.on HB.out).cells
      have HC := Lib.hid (HAN.out w.heap.size _ (allN i) wr HBW.out HBW.out.size (by have := HO.out; rw [upN_all] at this; exact OwnV.less this (by rw [← HG1.out]; exact HB1.out.size)) HFN.out)
      rw [HRES.out] at HC
      go_wp2_with fail
      refine HC.out.mono ?_
      rintro e w4 ⟨v4, rfl, hO4, hb4⟩
      have HO4 := Lib.hid hO4
      have HB4 := Lib.hid (HBW.out.trans (hb4.mono HBW.out.size))
      clear hO4 hb4
      go_wp2
      go_ret
      exact ⟨_, rfl, HO4.out, HB4.out⟩

set_option maxHeartbeats 1000000 in
theorem segFind_nil (q : Q) (w : World) : Calls Tryd.prog 19 #[.pointer none, q.val] w (fun e w' => e = .returned (.slice none 0 0) ∧ Below w.heap.size w w') := by
  have HLN := Lib.hid (fun W => segLen_nil W)
  have hmk : ∀ w, (Instr.makeSlice 42 (.int .i64 0) (.int .i64 0)).run Tryd.prog w = .ok (.slice (some ⟨w.heap.size, 0, none⟩) 0 0) (w.alloc (.cells #[] 3)) := fun _ => by kernel_rfl
  have HAN := Lib.hid (fun (A : Option Addr) (W : World) => answer_none (.pointer none) q A 0 (by omega) W)
  obtain ⟨k, t, z, Aq, nq, cq, ks⟩ := q
  unfold Q.val at HAN ⊢
  simp only at HAN ⊢
  obtain ⟨K, hK⟩ : ∃ K : Int, (k : Int) = K := ⟨_, rfl⟩
  rw [hK] at HAN ⊢
  clear hK
  have hb1 := (Below.refl w.heap.size w).alloc (Nat.le_refl _) (.cells #[.int .u8 K, .string ⟨t.toArray⟩, .int .i64 z, .slice Aq nq cq] 39)
  have HB2 := Lib.hid (hb1.alloc hb1.size (.cells #[] 3))
  clear hb1
  go_enter Tryd.func19, Tryd.ntmps19
  go_wp2_with fail
  refine (HLN.out _).mono ?_
  rintro e w1 ⟨rfl, hx⟩
  subst hx
  go_wp2
  go_loopw [12] (fun p wr => p = .int .i64 0 ∧ Hid (wr = (w.alloc (.cells #[.int .u8 K, .string ⟨t.toArray⟩, .int .i64 z, .slice Aq nq cq] 39)).alloc (.cells #[] 3))) (fun _ _ => 0)
  case atStart => exact ⟨rfl, Lib.hid rfl⟩
  case round =>
    obtain ⟨rfl, HE⟩ := hrel
    have he := HE.out
    subst he
    go_wp2_with fail
    refine (HAN.out _ _).mono ?_
    rintro e w4 ⟨rfl, hb4⟩
    have HB4 := Lib.hid (HB2.out.trans (hb4.mono HB2.out.size))
    clear hb4
    go_wp2
    go_ret
    exact ⟨rfl, HB4.out⟩
end Go.Proofs.YthhgelaifapmmaaDoor
