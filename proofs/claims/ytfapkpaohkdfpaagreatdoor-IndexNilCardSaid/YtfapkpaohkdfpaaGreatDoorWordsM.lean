/-
  What the document's put and Terms do, by contracts; the law WordsTerms.
-/
import Derived.Test.YtfapkpaohkdfpaaGreatDoorWordsK
import Derived.Sort.Walk0
namespace Go.Proofs.YtfapkpaohkdfpaaGreatDoor
open Go.RowKit Mem
set_option linter.unusedVariables false
set_option maxRecDepth 100000

theorem put_at : ∀ (xs : List (List UInt8)) (x : List UInt8) (k : Nat), (∀ j (h : j < xs.length), j < k → xs[j] < x) → k ≤ xs.length → (∀ (h : k < xs.length), ¬ xs[k] < x) →
    M.put xs x = if h : k < xs.length then (if xs[k] = x then xs else xs.take k ++ x :: xs.drop k) else xs ++ [x] := by
  intro xs
  induction xs with
  | nil => intro x k _ hk _; simp [M.put]
  | cons y r ih =>
    intro x k h1 hk h2
    cases k with
    | zero =>
      have hn := h2 (by simp)
      simp only [List.getElem_cons_zero] at hn
      rw [M.put, if_neg hn]
      simp
    | succ k =>
      have hy := h1 0 (by simp) (by omega)
      simp only [List.getElem_cons_zero] at hy
      rw [M.put, if_pos hy, ih x k (fun j hj hjk => h1 (j + 1) (by simpa using hj) (by omega)) (by simpa using hk) (fun h => h2 (by simpa using h))]
      by_cases hl : k < r.length
      · simp only [List.length_cons, Nat.add_lt_add_iff_right, hl, dite_true, List.getElem_cons_succ]
        by_cases he : r[k] = x
        · rw [if_pos he, if_pos he]
        · rw [if_neg he, if_neg he]; simp
      · simp only [List.length_cons, Nat.add_lt_add_iff_right, hl, dite_false]
        simp
def Under (xs : List (List UInt8)) (x : List UInt8) (k : Nat) : Prop := ∀ j (h : j < xs.length), j < k → xs[j] < x

set_option maxHeartbeats 2000000 in
theorem put_any (A : Option Addr) (n c B : Nat) (xs : List (List UInt8)) (x : List UInt8) (w : World) (h : RdV w B A n c (strs xs)) (hB : B ≤ w.heap.size) (hl : n ≤ 1073741824) :
    Calls Tryz.prog 80 #[.slice A n c, .string ⟨x.toArray⟩] w (SaysS (M.put xs x) w) := by
  obtain ⟨i0, hi, hz0, hz1, hz2⟩ := info_of Tryz.infoS
  have HI := Lib.hid hi; have HZ0 := Lib.hid hz0; have HZ1 := Lib.hid hz1; have HZ2 := Lib.hid hz2
  clear hi hz0 hz1 hz2
  have hn : xs.length = n := by have := h.1; simpa using this.symm
  have HN := Lib.hid hn
  have HR := Lib.hid h
  have hc := h.2.1
  have hcm := h.max
  have H0 := Lib.hid (show Under xs x 0 from fun j _ hj => by omega)
  have HPUT := Lib.hid (fun k => put_at xs x k)
  clear h hn
  go_enter Tryz.func80, Tryz.ntmps80
  go_wp2
  go_loop [6] (fun p => ∃ i : Nat, p = .int .i64 (i : Int) ∧ i ≤ n ∧ Hid (Under xs x i)) (fun p => n - (intOf p).toNat)
  case atStart => exact ⟨0, rfl, by omega, H0⟩
  case round =>
    obtain ⟨k, rfl, hk, HU⟩ := hrel
    by_cases hlt : k < n
    · have hix : k < xs.length := by rw [HN.out]; exact hlt
      obtain ⟨b, off, rfl, hb, q⟩ := HR.out.at_ hlt
      rw [strs_at hix] at q
      have hil : (k : Int) < (n : Int) := by omega
      by_cases hle : xs[k] < x
      · have HU2 := Lib.hid (show Under xs x (k + 1) from fun j hj hjk => by
          by_cases e : j = k
          · subst e; exact hle
          · exact HU.out j hj (by omega))
        have hq : Op.bytesLess xs[k] x = true := by rw [bytesLess_eq]; simpa using hle
        clear hle
        generalize xs[k] = y at *
        go_wp2
        go_round
        case rel => exact ⟨k + 1, by go_num, by omega, HU2⟩
        case measure => simp [intOf]; omega
      · have hq : Op.bytesLess xs[k] x = false := by rw [bytesLess_eq]; simpa using hle
        have HP := Lib.hid (HPUT.out k HU.out (by rw [HN.out]; omega) (fun _ => hle))
        rw [dif_pos hix] at HP
        by_cases he : xs[k] = x
        · have HP2 := Lib.hid (show M.put xs x = xs by rw [HP.out, if_pos he])
          have hq2 : (xs[k] == x) = true := by rw [beq_str]; simpa using he
          clear he hle
          generalize xs[k] = y at *
          go_wp2
          go_ret
          refine ⟨_, c, by rw [HP2.out, HN.out]; rfl, by rw [HP2.out, HN.out]; exact HR.out.more hB, Below.refl _ _⟩
        · have HP2 := Lib.hid (show M.put xs x = xs.take k ++ x :: xs.drop k by rw [HP.out, if_neg he])
          have hq2 : (xs[k] == x) = false := by rw [beq_str]; simpa using he
          clear he hle
          generalize xs[k] = y at *
          have HS1 := Lib.hid (HR.out.upto (k := k) (by omega))
          have HS3 := Lib.hid (HR.out.from_ (k := k) (by omega))
          rw [if_neg (by omega)] at HS3
          simp only [Option.map_some, add_none] at HS3
          have HLT := Lib.hid (show (strs xs).length = n by rw [List.length_map, HN.out])
          go_wp2_with (at_builtin; go_must (refine wpList_appV _ rfl (.tmp 34) (.tmp 37) _ rfl w.heap.size B 9 i0 _ 16 Tryz.underlying76 HI.out HZ0.out HZ1.out HZ2.out rfl (.slice none 0 0) [] (OwnV.nil _ _ _) rfl (some ⟨b, off, none⟩) k c ((strs xs).take k) HS1.out rfl (fun u hu => strs_one xs u (List.mem_of_mem_take hu)) (by simp; omega) (by simp; omega) (Nat.le_refl _) ?_))
          intro v1 w1 hown1 hg1 hat1
          obtain ⟨A1, c1, rfl, hc1, hcm1⟩ := hown1.form
          have hb1 : Below w.heap.size w w1 := (OwnV.nil w w.heap.size 9).grown (Nat.le_refl _) hg1
          have HB1 := Lib.hid hb1
          have hL1 : ((strs xs).take k).length = k := by simp; have := HN.out; omega
          have HO1 := Lib.hid hown1
          have hsz1 := hb1.size
          rw [hL1] at hc1 HO1 ⊢
          clear hown1 hg1 hat1 hb1
          go_wp2_with (at_builtin; go_must (refine wpList_appV _ rfl (.tmp 39) (.tmp 41) _ rfl w.heap.size (w1.heap.size + 1) 9 i0 _ 16 Tryz.underlying76 HI.out HZ0.out HZ1.out HZ2.out rfl (.slice A1 k c1) ((strs xs).take k) (HO1.out.alloc _) rfl (some ⟨w1.heap.size, 0, none⟩) 1 1 [.string ⟨x.toArray⟩] (RdV.fresh w1 _ _) rfl (by simp [Value.oneCell']) (by rw [hL1]; simp; omega) (by rw [hL1]; simp; omega) (by simp; omega) ?_))
          intro v2 w2 hown2 hg2 hat2
          obtain ⟨A2, c2, rfl, hc2, hcm2⟩ := hown2.form
          have hb2 : Below w.heap.size w w2 := (HB1.out.alloc hsz1 _).grown hg2 (by simp; omega) (fun k' hk' => (HO1.out.lt k' hk').1)
          have hL2 : ((strs xs).take k ++ [Value.string ⟨x.toArray⟩]).length = k + 1 := by rw [List.length_append, hL1]; rfl
          have HO2 := Lib.hid hown2
          have HB2 := Lib.hid hb2
          have hsz2 := hb2.size
          have HS3B := Lib.hid (HS3.out.below (hb2.mono hB))
          rw [hL2] at hc2 HO2 ⊢
          clear hown2 hg2 hat2 hb2
          go_wp2_with (at_builtin; go_must (refine wpList_appV _ rfl (.tmp 43) (.tmp 46) _ rfl w.heap.size B 9 i0 _ 16 Tryz.underlying76 HI.out HZ0.out HZ1.out HZ2.out rfl (.slice A2 (k + 1) c2) ((strs xs).take k ++ [Value.string ⟨x.toArray⟩]) HO2.out rfl (some ⟨b, off + k, none⟩) (n - k) (c - k) ((strs xs).drop k) HS3B.out rfl (fun u hu => strs_one xs u (List.mem_of_mem_drop hu)) (by rw [hL2]; simp; have := HN.out; omega) (by rw [hL2]; simp; have := HN.out; omega) hsz2 ?_))
          intro v3 w3 hown3 hg3 hat3
          obtain ⟨A3, c3, rfl, hc3, hcm3⟩ := hown3.form
          have HB3 := Lib.hid (HB2.out.grown hg3 hsz2 (fun k' hk' => (HO2.out.lt k' hk').1))
          have e3 : (strs xs).take k ++ Value.string ⟨x.toArray⟩ :: (strs xs).drop k = strs (M.put xs x) := by rw [HP2.out]; simp [List.map_take, List.map_drop]
          rw [e3] at hc3 ⊢
          have HO3 := Lib.hid (show OwnV w3 w.heap.size 9 (.slice A3 (strs (M.put xs x)).length c3) (strs (M.put xs x)) by rw [← e3]; simpa using hown3)
          have hL3 : (strs (M.put xs x)).length = (M.put xs x).length := by simp
          rw [hL3] at hc3 HO3 ⊢
          clear hown3 hg3 hat3 e3
          generalize M.put xs x = rs at *
          go_wp2
          go_ret
          exact ⟨A3, c3, rfl, HO3.out.rd, HB3.out⟩
    · have HP2 := Lib.hid (show M.put xs x = xs.take k ++ x :: xs.drop k by
        rw [HPUT.out k HU.out (by rw [HN.out]; omega) (fun h => absurd h (by rw [HN.out]; omega)), dif_neg (by rw [HN.out]; omega), List.take_of_length_le (by rw [HN.out]; omega), List.drop_eq_nil_of_le (by rw [HN.out]; omega)])
      by_cases hck : c = k
      · subst hck
        have HS1 := Lib.hid (HR.out.upto (k := c) (by omega))
        have HS3 := Lib.hid (HR.out.from_ (k := c) (by omega))
        rw [if_pos rfl, show n - c = 0 by omega, Nat.sub_self] at HS3
        have HLT := Lib.hid (show (strs xs).length = n by rw [List.length_map, HN.out])
        go_wp2_with (at_builtin; go_must (refine wpList_appV _ rfl (.tmp 34) (.tmp 37) _ rfl w.heap.size B 9 i0 _ 16 Tryz.underlying76 HI.out HZ0.out HZ1.out HZ2.out rfl (.slice none 0 0) [] (OwnV.nil _ _ _) rfl A c c ((strs xs).take c) HS1.out rfl (fun u hu => strs_one xs u (List.mem_of_mem_take hu)) (by simp; omega) (by simp; omega) (Nat.le_refl _) ?_))
        intro v1 w1 hown1 hg1 hat1
        obtain ⟨A1, c1, rfl, hc1, hcm1⟩ := hown1.form
        have hb1 : Below w.heap.size w w1 := (OwnV.nil w w.heap.size 9).grown (Nat.le_refl _) hg1
        have HB1 := Lib.hid hb1
        have hL1 : ((strs xs).take c).length = c := by simp; have := HN.out; omega
        have HO1 := Lib.hid hown1
        have hsz1 := hb1.size
        rw [hL1] at hc1 HO1 ⊢
        clear hown1 hg1 hat1 hb1
        go_wp2_with (at_builtin; go_must (refine wpList_appV _ rfl (.tmp 39) (.tmp 41) _ rfl w.heap.size (w1.heap.size + 1) 9 i0 _ 16 Tryz.underlying76 HI.out HZ0.out HZ1.out HZ2.out rfl (.slice A1 c c1) ((strs xs).take c) (HO1.out.alloc _) rfl (some ⟨w1.heap.size, 0, none⟩) 1 1 [.string ⟨x.toArray⟩] (RdV.fresh w1 _ _) rfl (by simp [Value.oneCell']) (by rw [hL1]; simp; omega) (by rw [hL1]; simp; omega) (by simp; omega) ?_))
        intro v2 w2 hown2 hg2 hat2
        obtain ⟨A2, c2, rfl, hc2, hcm2⟩ := hown2.form
        have hb2 : Below w.heap.size w w2 := (HB1.out.alloc hsz1 _).grown hg2 (by simp; omega) (fun k' hk' => (HO1.out.lt k' hk').1)
        have hL2 : ((strs xs).take c ++ [Value.string ⟨x.toArray⟩]).length = c + 1 := by rw [List.length_append, hL1]; rfl
        have HO2 := Lib.hid hown2
        have HB2 := Lib.hid hb2
        have hsz2 := hb2.size
        have HS3B := Lib.hid (HS3.out.below (hb2.mono hB))
        rw [hL2] at hc2 HO2 ⊢
        clear hown2 hg2 hat2 hb2
        go_wp2_with (at_builtin; go_must (refine wpList_appV _ rfl (.tmp 43) (.tmp 46) _ rfl w.heap.size B 9 i0 _ 16 Tryz.underlying76 HI.out HZ0.out HZ1.out HZ2.out rfl (.slice A2 (c + 1) c2) ((strs xs).take c ++ [Value.string ⟨x.toArray⟩]) HO2.out rfl A 0 0 ((strs xs).drop c) HS3B.out rfl (fun u hu => strs_one xs u (List.mem_of_mem_drop hu)) (by rw [hL2]; simp; have := HN.out; omega) (by rw [hL2]; simp; have := HN.out; omega) hsz2 ?_))
        intro v3 w3 hown3 hg3 hat3
        obtain ⟨A3, c3, rfl, hc3, hcm3⟩ := hown3.form
        have HB3 := Lib.hid (HB2.out.grown hg3 hsz2 (fun k' hk' => (HO2.out.lt k' hk').1))
        have e3 : (strs xs).take c ++ Value.string ⟨x.toArray⟩ :: (strs xs).drop c = strs (M.put xs x) := by rw [HP2.out]; simp [List.map_take, List.map_drop]
        rw [e3] at hc3 ⊢
        have HO3 := Lib.hid (show OwnV w3 w.heap.size 9 (.slice A3 (strs (M.put xs x)).length c3) (strs (M.put xs x)) by rw [← e3]; simpa using hown3)
        have hL3 : (strs (M.put xs x)).length = (M.put xs x).length := by simp
        rw [hL3] at hc3 HO3 ⊢
        clear hown3 hg3 hat3 e3
        generalize M.put xs x = rs at *
        go_wp2
        go_ret
        exact ⟨A3, c3, rfl, HO3.out.rd, HB3.out⟩
      · have HS1 := Lib.hid (HR.out.upto (k := k) (by omega))
        have HS3 := Lib.hid (HR.out.from_ (k := k) (by omega))
        rw [if_neg hck] at HS3
        have HLT := Lib.hid (show (strs xs).length = n by rw [List.length_map, HN.out])
        go_wp2_with (at_builtin; go_must (refine wpList_appV _ rfl (.tmp 34) (.tmp 37) _ rfl w.heap.size B 9 i0 _ 16 Tryz.underlying76 HI.out HZ0.out HZ1.out HZ2.out rfl (.slice none 0 0) [] (OwnV.nil _ _ _) rfl A k c ((strs xs).take k) HS1.out rfl (fun u hu => strs_one xs u (List.mem_of_mem_take hu)) (by simp; omega) (by simp; omega) (Nat.le_refl _) ?_))
        intro v1 w1 hown1 hg1 hat1
        obtain ⟨A1, c1, rfl, hc1, hcm1⟩ := hown1.form
        have hb1 : Below w.heap.size w w1 := (OwnV.nil w w.heap.size 9).grown (Nat.le_refl _) hg1
        have HB1 := Lib.hid hb1
        have hL1 : ((strs xs).take k).length = k := by simp; have := HN.out; omega
        have HO1 := Lib.hid hown1
        have hsz1 := hb1.size
        rw [hL1] at hc1 HO1 ⊢
        clear hown1 hg1 hat1 hb1
        go_wp2_with (at_builtin; go_must (refine wpList_appV _ rfl (.tmp 39) (.tmp 41) _ rfl w.heap.size (w1.heap.size + 1) 9 i0 _ 16 Tryz.underlying76 HI.out HZ0.out HZ1.out HZ2.out rfl (.slice A1 k c1) ((strs xs).take k) (HO1.out.alloc _) rfl (some ⟨w1.heap.size, 0, none⟩) 1 1 [.string ⟨x.toArray⟩] (RdV.fresh w1 _ _) rfl (by simp [Value.oneCell']) (by rw [hL1]; simp; omega) (by rw [hL1]; simp; omega) (by simp; omega) ?_))
        intro v2 w2 hown2 hg2 hat2
        obtain ⟨A2, c2, rfl, hc2, hcm2⟩ := hown2.form
        have hb2 : Below w.heap.size w w2 := (HB1.out.alloc hsz1 _).grown hg2 (by simp; omega) (fun k' hk' => (HO1.out.lt k' hk').1)
        have hL2 : ((strs xs).take k ++ [Value.string ⟨x.toArray⟩]).length = k + 1 := by rw [List.length_append, hL1]; rfl
        have HO2 := Lib.hid hown2
        have HB2 := Lib.hid hb2
        have hsz2 := hb2.size
        have HS3B := Lib.hid (HS3.out.below (hb2.mono hB))
        rw [hL2] at hc2 HO2 ⊢
        clear hown2 hg2 hat2 hb2
        go_wp2_with (at_builtin; go_must (refine wpList_appV _ rfl (.tmp 43) (.tmp 46) _ rfl w.heap.size B 9 i0 _ 16 Tryz.underlying76 HI.out HZ0.out HZ1.out HZ2.out rfl (.slice A2 (k + 1) c2) ((strs xs).take k ++ [Value.string ⟨x.toArray⟩]) HO2.out rfl (A.map (·.add k)) (n - k) (c - k) ((strs xs).drop k) HS3B.out rfl (fun u hu => strs_one xs u (List.mem_of_mem_drop hu)) (by rw [hL2]; simp; have := HN.out; omega) (by rw [hL2]; simp; have := HN.out; omega) hsz2 ?_))
        intro v3 w3 hown3 hg3 hat3
        obtain ⟨A3, c3, rfl, hc3, hcm3⟩ := hown3.form
        have HB3 := Lib.hid (HB2.out.grown hg3 hsz2 (fun k' hk' => (HO2.out.lt k' hk').1))
        have e3 : (strs xs).take k ++ Value.string ⟨x.toArray⟩ :: (strs xs).drop k = strs (M.put xs x) := by rw [HP2.out]; simp [List.map_take, List.map_drop]
        rw [e3] at hc3 ⊢
        have HO3 := Lib.hid (show OwnV w3 w.heap.size 9 (.slice A3 (strs (M.put xs x)).length c3) (strs (M.put xs x)) by rw [← e3]; simpa using hown3)
        have hL3 : (strs (M.put xs x)).length = (M.put xs x).length := by simp
        rw [hL3] at hc3 HO3 ⊢
        clear hown3 hg3 hat3 e3
        generalize M.put xs x = rs at *
        go_wp2
        go_ret
        exact ⟨A3, c3, rfl, HO3.out.rd, HB3.out⟩
end Go.Proofs.YtfapkpaohkdfpaaGreatDoor
