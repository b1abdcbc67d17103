/-
  The document's put and Terms (of words), with where the row lies that they hand back; the document's put of segments.
-/
import Derived.Test.YthhgelaifapmmaaDoorSegU
namespace Go.Proofs.YthhgelaifapmmaaDoor
open Go.RowKit Mem
set_option linter.unusedVariables false
set_option maxRecDepth 100000

/-- a row that lies nowhere, or in a block that w does not have -/
def NewA (w : World) (A : Option Addr) : Prop := A = none ∨ ∃ b off, A = some ⟨b, off, none⟩ ∧ w.heap.size ≤ b
/-- texts in a row that is the one that was handed in, or new -/
def SaysA (A0 : Option Addr) (xs : List (List UInt8)) (w : World) (e : Ending) (w' : World) : Prop := ∃ A c, e = .returned (.slice A xs.length c) ∧ RdV w' w'.heap.size A xs.length c (strs xs) ∧ Below w.heap.size w w' ∧ (A = A0 ∨ NewA w A)
theorem ownv_new {w : World} {e : TypeId} {A A0 : Option Addr} {n c : Nat} {xs : List Value} {w0 : World} (h : OwnV w w0.heap.size e (.slice A n c) xs) : A = A0 ∨ NewA w0 A := by
  rcases h.2 with ⟨h1, h0⟩ | ⟨g, cap, cur, h1, hg, _⟩
  · injection h1 with e1 _ _
    exact .inr (.inl e1)
  · injection h1 with e1 _ _
    exact .inr (.inr ⟨g, 0, e1, hg⟩)
theorem NewA.next {w wr : World} {A A' : Option Addr} (h : NewA w A) (hs : w.heap.size ≤ wr.heap.size) (h' : A' = A ∨ NewA wr A') : NewA w A' := by
  rcases h' with rfl | h' | ⟨b, off, e, hb⟩
  · exact h
  · exact .inl h'
  · exact .inr ⟨b, off, e, by omega⟩
theorem NewA.last {w w' : World} {A : Option Addr} {n c : Nat} {xs : List Value} (h : NewA w A) (hr : RdV w' w'.heap.size A n c xs) : 0 < n → ∃ b off, A = some ⟨b, off, none⟩ ∧ w.heap.size ≤ b := by
  intro hn
  rcases h with rfl | h
  · obtain ⟨b, off, e, _⟩ := hr.2.2.2 hn
    cases e
  · exact h

set_option maxHeartbeats 2000000 in
theorem put5_new (A : Option Addr) (n c B : Nat) (xs : List (List UInt8)) (x : List UInt8) (w : World) (h : RdV w B A n c (strs xs)) (hB : B ≤ w.heap.size) (hl : n ≤ 1073741824) :
    Calls Tryd.prog 70 #[.slice A n c, .string ⟨x.toArray⟩] w (SaysA A (M.put xs x) w) := by
  obtain ⟨i0, hi, hz0, hz1, hz2⟩ := info_of Tryd.infoS
  have HI := Lib.hid hi; have HZ0 := Lib.hid hz0; have HZ1 := Lib.hid hz1; have HZ2 := Lib.hid hz2
  clear hi hz0 hz1 hz2
  have hn : xs.length = n := by have := h.1; simpa using this.symm
  have HN := Lib.hid hn
  have HR := Lib.hid h
  have hc := h.2.1
  have hcm := h.max
  have H0 := Lib.hid (show Under xs x 0 from fun j _ hj => by omega)
  have HPUT := Lib.hid (fun k => put_at xs x k)
  clear h hn
  go_enter Tryd.func70, Tryd.ntmps70
  go_wp2
  go_loop [6] (fun p => ∃ i : Nat, p = .int .i64 (i : Int) ∧ i ≤ n ∧ Hid (Under xs x i)) (fun p => n - (intOf p).toNat)
  case atStart => exact ⟨0, rfl, by omega, H0⟩
  case round =>
    obtain ⟨k, rfl, hk, HU⟩ := hrel
    by_cases hlt : k < n
    · have hix : k < xs.length := by rw [HN.out]; exact hlt
      obtain ⟨b, off, rfl, hb, q⟩ := HR.out.at_ hlt
      rw [strs_at hix] at q
      have hil : (k : Int) < (n : Int) := by omega
      by_cases hle : xs[k] < x
      · have HU2 := Lib.hid (show Under xs x (k + 1) from fun j hj hjk => by
          by_cases e : j = k
          · subst e; exact hle
          · exact HU.out j hj (by omega))
        have hq : Op.bytesLess xs[k] x = true := by rw [bytesLess_eq]; simpa using hle
        clear hle
        generalize xs[k] = y at *
        go_wp2
        go_round
        case rel => exact ⟨k + 1, by go_num, by omega, HU2⟩
        case measure => simp [intOf]; omega
      · have hq : Op.bytesLess xs[k] x = false := by rw [bytesLess_eq]; simpa using hle
        have HP := Lib.hid (HPUT.out k HU.out (by rw [HN.out]; omega) (fun _ => hle))
        rw [dif_pos hix] at HP
        by_cases he : xs[k] = x
        · have HP2 := Lib.hid (show M.put xs x = xs by rw [HP.out, if_pos he])
          have hq2 : (xs[k] == x) = true := by rw [beq_str]; simpa using he
          clear he hle
          generalize xs[k] = y at *
          go_wp2
          go_ret
          refine ⟨_, c, by rw [HP2.out, HN.out]; rfl, by rw [HP2.out, HN.out]; exact HR.out.more hB, Below.refl _ _, .inl rfl⟩
        · have HP2 := Lib.hid (show M.put xs x = xs.take k ++ x :: xs.drop k by rw [HP.out, if_neg he])
          have hq2 : (xs[k] == x) = false := by rw [beq_str]; simpa using he
          clear he hle
          generalize xs[k] = y at *
          have HS1 := Lib.hid (HR.out.upto (k := k) (by omega))
          have HS3 := Lib.hid (HR.out.from_ (k := k) (by omega))
          rw [if_neg (by omega)] at HS3
          simp only [Option.map_some, add_none] at HS3
          have HLT := Lib.hid (show (strs xs).length = n by rw [List.length_map, HN.out])
          go_wp2_with (at_builtin; go_must (refine wpList_appV _ rfl (.tmp 34) (.tmp 37) _ rfl w.heap.size B 9 i0 _ 16 Tryd.underlying48 HI.out HZ0.out HZ1.out HZ2.out rfl (.slice none 0 0) [] (OwnV.nil _ _ _) rfl (some ⟨b, off, none⟩) k c ((strs xs).take k) HS1.out rfl (fun u hu => strs_one xs u (List.mem_of_mem_take hu)) (by simp; omega) (by simp; omega) (Nat.le_refl _) ?_))
          intro v1 w1 hown1 hg1 hat1
          obtain ⟨A1, c1, rfl, hc1, hcm1⟩ := hown1.form
          have hb1 : Below w.heap.size w w1 := (OwnV.nil w w.heap.size 9).grown (Nat.le_refl _) hg1
          have HB1 := Lib.hid hb1
          have hL1 : ((strs xs).take k).length = k := by simp; have := HN.out; omega
          have HO1 := Lib.hid hown1
          have hsz1 := hb1.size
          rw [hL1] at hc1 HO1 ⊢
          clear hown1 hg1 hat1 hb1
          go_wp2_with (at_builtin; go_must (refine wpList_appV _ rfl (.tmp 39) (.tmp 41) _ rfl w.heap.size (w1.heap.size + 1) 9 i0 _ 16 Tryd.underlying48 HI.out HZ0.out HZ1.out HZ2.out rfl (.slice A1 k c1) ((strs xs).take k) (HO1.out.alloc _) rfl (some ⟨w1.heap.size, 0, none⟩) 1 1 [.string ⟨x.toArray⟩] (RdV.fresh w1 _ _) rfl (by simp [Value.oneCell']) (by rw [hL1]; simp; omega) (by rw [hL1]; simp; omega) (by simp; omega) ?_))
          intro v2 w2 hown2 hg2 hat2
          obtain ⟨A2, c2, rfl, hc2, hcm2⟩ := hown2.form
          have hb2 : Below w.heap.size w w2 := (HB1.out.alloc hsz1 _).grown hg2 (by simp; omega) (fun k' hk' => (HO1.out.lt k' hk').1)
          have hL2 : ((strs xs).take k ++ [Value.string ⟨x.toArray⟩]).length = k + 1 := by rw [List.length_append, hL1]; rfl
          have HO2 := Lib.hid hown2
          have HB2 := Lib.hid hb2
          have hsz2 := hb2.size
          have HS3B := Lib.hid (HS3.out.below (hb2.mono hB))
          rw [hL2] at hc2 HO2 ⊢
          clear hown2 hg2 hat2 hb2
          go_wp2_with (at_builtin; go_must (refine wpList_appV _ rfl (.tmp 43) (.tmp 46) _ rfl w.heap.size B 9 i0 _ 16 Tryd.underlying48 HI.out HZ0.out HZ1.out HZ2.out rfl (.slice A2 (k + 1) c2) ((strs xs).take k ++ [Value.string ⟨x.toArray⟩]) HO2.out rfl (some ⟨b, off + k, none⟩) (n - k) (c - k) ((strs xs).drop k) HS3B.out rfl (fun u hu => strs_one xs u (List.mem_of_mem_drop hu)) (by rw [hL2]; simp; have := HN.out; omega) (by rw [hL2]; simp; have := HN.out; omega) hsz2 ?_))
          intro v3 w3 hown3 hg3 hat3
          obtain ⟨A3, c3, rfl, hc3, hcm3⟩ := hown3.form
          have HB3 := Lib.hid (HB2.out.grown hg3 hsz2 (fun k' hk' => (HO2.out.lt k' hk').1))
          have e3 : (strs xs).take k ++ Value.string ⟨x.toArray⟩ :: (strs xs).drop k = strs (M.put xs x) := by rw [HP2.out]; simp [List.map_take, List.map_drop]
          rw [e3] at hc3 ⊢
          have HO3 := Lib.hid (show OwnV w3 w.heap.size 9 (.slice A3 (strs (M.put xs x)).length c3) (strs (M.put xs x)) by rw [← e3]; simpa using hown3)
          have hL3 : (strs (M.put xs x)).length = (M.put xs x).length := by simp
          rw [hL3] at hc3 HO3 ⊢
          clear hown3 hg3 hat3 e3
          generalize M.put xs x = rs at *
          go_wp2
          go_ret
          exact ⟨A3, c3, rfl, HO3.out.rd, HB3.out, ownv_new HO3.out⟩
    · have HP2 := Lib.hid (show M.put xs x = xs.take k ++ x :: xs.drop k by
        rw [HPUT.out k HU.out (by rw [HN.out]; omega) (fun h => absurd h (by rw [HN.out]; omega)), dif_neg (by rw [HN.out]; omega), List.take_of_length_le (by rw [HN.out]; omega), List.drop_eq_nil_of_le (by rw [HN.out]; omega)])
      by_cases hck : c = k
      · subst hck
        have HS1 := Lib.hid (HR.out.upto (k := c) (by omega))
        have HS3 := Lib.hid (HR.out.from_ (k := c) (by omega))
        rw [if_pos rfl, show n - c = 0 by omega, Nat.sub_self] at HS3
        have HLT := Lib.hid (show (strs xs).length = n by rw [List.length_map, HN.out])
        go_wp2_with (at_builtin; go_must (refine wpList_appV _ rfl (.tmp 34) (.tmp 37) _ rfl w.heap.size B 9 i0 _ 16 Tryd.underlying48 HI.out HZ0.out HZ1.out HZ2.out rfl (.slice none 0 0) [] (OwnV.nil _ _ _) rfl A c c ((strs xs).take c) HS1.out rfl (fun u hu => strs_one xs u (List.mem_of_mem_take hu)) (by simp; omega) (by simp; omega) (Nat.le_refl _) ?_))
        intro v1 w1 hown1 hg1 hat1
        obtain ⟨A1, c1, rfl, hc1, hcm1⟩ := hown1.form
        have hb1 : Below w.heap.size w w1 := (OwnV.nil w w.heap.size 9).grown (Nat.le_refl _) hg1
        have HB1 := Lib.hid hb1
        have hL1 : ((strs xs).take c).length = c := by simp; have := HN.out; omega
        have HO1 := Lib.hid hown1
        have hsz1 := hb1.size
        rw [hL1] at hc1 HO1 ⊢
        clear hown1 hg1 hat1 hb1
        go_wp2_with (at_builtin; go_must (refine wpList_appV _ rfl (.tmp 39) (.tmp 41) _ rfl w.heap.size (w1.heap.size + 1) 9 i0 _ 16 Tryd.underlying48 HI.out HZ0.out HZ1.out HZ2.out rfl (.slice A1 c c1) ((strs xs).take c) (HO1.out.alloc _) rfl (some ⟨w1.heap.size, 0, none⟩) 1 1 [.string ⟨x.toArray⟩] (RdV.fresh w1 _ _) rfl (by simp [Value.oneCell']) (by rw [hL1]; simp; omega) (by rw [hL1]; simp; omega) (by simp; omega) ?_))
        intro v2 w2 hown2 hg2 hat2
        obtain ⟨A2, c2, rfl, hc2, hcm2⟩ := hown2.form
        have hb2 : Below w.heap.size w w2 := (HB1.out.alloc hsz1 _).grown hg2 (by simp; omega) (fun k' hk' => (HO1.out.lt k' hk').1)
        have hL2 : ((strs xs).take c ++ [Value.string ⟨x.toArray⟩]).length = c + 1 := by rw [List.length_append, hL1]; rfl
        have HO2 := Lib.hid hown2
        have HB2 := Lib.hid hb2
        have hsz2 := hb2.size
        have HS3B := Lib.hid (HS3.out.below (hb2.mono hB))
        rw [hL2] at hc2 HO2 ⊢
        clear hown2 hg2 hat2 hb2
        go_wp2_with (at_builtin; go_must (refine wpList_appV _ rfl (.tmp 43) (.tmp 46) _ rfl w.heap.size B 9 i0 _ 16 Tryd.underlying48 HI.out HZ0.out HZ1.out HZ2.out rfl (.slice A2 (c + 1) c2) ((strs xs).take c ++ [Value.string ⟨x.toArray⟩]) HO2.out rfl A 0 0 ((strs xs).drop c) HS3B.out rfl (fun u hu => strs_one xs u (List.mem_of_mem_drop hu)) (by rw [hL2]; simp; have := HN.out; omega) (by rw [hL2]; simp; have := HN.out; omega) hsz2 ?_))
        intro v3 w3 hown3 hg3 hat3
        obtain ⟨A3, c3, rfl, hc3, hcm3⟩ := hown3.form
        have HB3 := Lib.hid (HB2.out.grown hg3 hsz2 (fun k' hk' => (HO2.out.lt k' hk').1))
        have e3 : (strs xs).take c ++ Value.string ⟨x.toArray⟩ :: (strs xs).drop c = strs (M.put xs x) := by rw [HP2.out]; simp [List.map_take, List.map_drop]
        rw [e3] at hc3 ⊢
        have HO3 := Lib.hid (show OwnV w3 w.heap.size 9 (.slice A3 (strs (M.put xs x)).length c3) (strs (M.put xs x)) by rw [← e3]; simpa using hown3)
        have hL3 : (strs (M.put xs x)).length = (M.put xs x).length := by simp
        rw [hL3] at hc3 HO3 ⊢
        clear hown3 hg3 hat3 e3
        generalize M.put xs x = rs at *
        go_wp2
        go_ret
        exact ⟨A3, c3, rfl, HO3.out.rd, HB3.out, ownv_new HO3.out⟩
      · have HS1 := Lib.hid (HR.out.upto (k := k) (by omega))
        have HS3 := Lib.hid (HR.out.from_ (k := k) (by omega))
        rw [if_neg hck] at HS3
        have HLT := Lib.hid (show (strs xs).length = n by rw [List.length_map, HN.out])
        go_wp2_with (at_builtin; go_must (refine wpList_appV _ rfl (.tmp 34) (.tmp 37) _ rfl w.heap.size B 9 i0 _ 16 Tryd.underlying48 HI.out HZ0.out HZ1.out HZ2.out rfl (.slice none 0 0) [] (OwnV.nil _ _ _) rfl A k c ((strs xs).take k) HS1.out rfl (fun u hu => strs_one xs u (List.mem_of_mem_take hu)) (by simp; omega) (by simp; omega) (Nat.le_refl _) ?_))
        intro v1 w1 hown1 hg1 hat1
        obtain ⟨A1, c1, rfl, hc1, hcm1⟩ := hown1.form
        have hb1 : Below w.heap.size w w1 := (OwnV.nil w w.heap.size 9).grown (Nat.le_refl _) hg1
        have HB1 := Lib.hid hb1
        have hL1 : ((strs xs).take k).length = k := by simp; have := HN.out; omega
        have HO1 := Lib.hid hown1
        have hsz1 := hb1.size
        rw [hL1] at hc1 HO1 ⊢
        clear hown1 hg1 hat1 hb1
        go_wp2_with (at_builtin; go_must (refine wpList_appV _ rfl (.tmp 39) (.tmp 41) _ rfl w.heap.size (w1.heap.size + 1) 9 i0 _ 16 Tryd.underlying48 HI.out HZ0.out HZ1.out HZ2.out rfl (.slice A1 k c1) ((strs xs).take k) (HO1.out.alloc _) rfl (some ⟨w1.heap.size, 0, none⟩) 1 1 [.string ⟨x.toArray⟩] (RdV.fresh w1 _ _) rfl (by simp [Value.oneCell']) (by rw [hL1]; simp; omega) (by rw [hL1]; simp; omega) (by simp; omega) ?_))
        intro v2 w2 hown2 hg2 hat2
        obtain ⟨A2, c2, rfl, hc2, hcm2⟩ := hown2.form
        have hb2 : Below w.heap.size w w2 := (HB1.out.alloc hsz1 _).grown hg2 (by simp; omega) (fun k' hk' => (HO1.out.lt k' hk').1)
        have hL2 : ((strs xs).take k ++ [Value.string ⟨x.toArray⟩]).length = k + 1 := by rw [List.length_append, hL1]; rfl
        have HO2 := Lib.hid hown2
        have HB2 := Lib.hid hb2
        have hsz2 := hb2.size
        have HS3B := Lib.hid (HS3.out.below (hb2.mono hB))
        rw [hL2] at hc2 HO2 ⊢
        clear hown2 hg2 hat2 hb2
        go_wp2_with (at_builtin; go_must (refine wpList_appV _ rfl (.tmp 43) (.tmp 46) _ rfl w.heap.size B 9 i0 _ 16 Tryd.underlying48 HI.out HZ0.out HZ1.out HZ2.out rfl (.slice A2 (k + 1) c2) ((strs xs).take k ++ [Value.string ⟨x.toArray⟩]) HO2.out rfl (A.map (·.add k)) (n - k) (c - k) ((strs xs).drop k) HS3B.out rfl (fun u hu => strs_one xs u (List.mem_of_mem_drop hu)) (by rw [hL2]; simp; have := HN.out; omega) (by rw [hL2]; simp; have := HN.out; omega) hsz2 ?_))
        intro v3 w3 hown3 hg3 hat3
        obtain ⟨A3, c3, rfl, hc3, hcm3⟩ := hown3.form
        have HB3 := Lib.hid (HB2.out.grown hg3 hsz2 (fun k' hk' => (HO2.out.lt k' hk').1))
        have e3 : (strs xs).take k ++ Value.string ⟨x.toArray⟩ :: (strs xs).drop k = strs (M.put xs x) := by rw [HP2.out]; simp [List.map_take, List.map_drop]
        rw [e3] at hc3 ⊢
        have HO3 := Lib.hid (show OwnV w3 w.heap.size 9 (.slice A3 (strs (M.put xs x)).length c3) (strs (M.put xs x)) by rw [← e3]; simpa using hown3)
        have hL3 : (strs (M.put xs x)).length = (M.put xs x).length := by simp
        rw [hL3] at hc3 HO3 ⊢
        clear hown3 hg3 hat3 e3
        generalize M.put xs x = rs at *
        go_wp2
        go_ret
        exact ⟨A3, c3, rfl, HO3.out.rd, HB3.out, ownv_new HO3.out⟩

set_option maxHeartbeats 4000000 in
theorem ref_terms_new (s : ByteArray) (w : World) (hs : s.size ≤ 1073741824) (hs2 : s.size ≤ 268435456) (hT : Tabs w) : Calls Tryd.prog 50 #[.string s] w (SaysN (M.terms (bl s)) w) := by
  have HW := Lib.hid (ref_words_any s w hs hT)
  have HTM := Lib.hid (show M.terms (bl s) = M.gather (M.raw (bl s) none (M.words (bl s))) from rfl)
  have HALL := Lib.hid (M.words_all (bl s) 0)
  change Hid (∀ x ∈ M.words (bl s), _) at HALL
  have HORD := Lib.hid (show Ordered (M.words (bl s)) from M.words_order (bl s) 0)
  have hml0 := M.words_len (bl s) 0
  change (M.words (bl s)).length ≤ _ at hml0
  have hln : (bl s).length = s.size := bl_len s
  rw [hln] at hml0 HALL
  clear hT
  generalize M.words (bl s) = ws at *
  go_enter Tryd.func50, Tryd.ntmps50
  go_wp2_with fail
  refine HW.out.mono ?_
  rintro e w1 ⟨v, rfl, hrow, hb⟩
  obtain ⟨A, c, rfl, hc, hcm⟩ := hrow.form
  have HROW := Lib.hid hrow; have HB := Lib.hid hb
  have hw1 : w.heap.size ≤ w1.heap.size := hb.size
  clear hrow hb
  obtain ⟨m, hm⟩ : ∃ m, ws.length = m := ⟨_, rfl⟩
  have HM := Lib.hid hm
  rw [hm] at hc hml0 HROW ⊢
  clear hm
  go_wp2
  go_loopw [3, 5] (fun o p wr => ∃ (i n k : Nat) (A2 : Option Addr) (xs : List (List UInt8)), p = .int .i64 (i : Int) ∧ o = .slice A2 n k ∧ i ≤ m ∧ n ≤ 2 * i ∧ Hid ((M.gather xs).length = n) ∧ Hid (RawInv (bl s) ws i xs) ∧ Hid (RdV wr wr.heap.size A2 n k (strs (M.gather xs))) ∧ Hid (Below w1.heap.size w1 wr) ∧ Hid (NewA w A2)) (fun _ p _ => m - (intOf p).toNat)
  case atStart => exact ⟨0, 0, 0, none, [], rfl, rfl, by omega, by omega, Lib.hid rfl, Lib.hid (RawInv.start _ _), Lib.hid RdV.none_, Lib.hid (Below.refl _ _), Lib.hid (.inl rfl)⟩
  case round =>
    obtain ⟨i, n, k, A2, xs, rfl, rfl, him, hni, HN, HR, HO, HB2, HNW⟩ := hrel
    rename World => wr
    by_cases hlt : i < m
    · have hiw : i < ws.length := by rw [HM.out]; exact hlt
      obtain ⟨g, rfl, hg, c0, c1, c2⟩ := (HROW.out.below HB2.out).at_ hiw
      have hil : (i : Int) < (m : Int) := by omega
      have hi0 : (0 : Int) ≤ (i : Int) := by omega
      have hwr : w1.heap.size ≤ wr.heap.size := HB2.out.size
      have HPUT := Lib.hid (put5_new A2 n k _ (M.gather xs) ws[i].text wr HO.out (Nat.le_refl _) (by omega))
      rw [← gather_snoc] at HPUT
      have HN1 := Lib.hid (show (M.gather (xs ++ [ws[i].text])).length ≤ 2 * i + 1 by
        have := put_len (M.gather xs) ws[i].text
        rw [← gather_snoc, HN.out] at this
        omega)
      have HCELL := Lib.hid (fun (W : World) (h : Below w1.heap.size w1 W) (j : Nat) (hj : j < ws.length) => (HROW.out.below h).at_ hj)
      by_cases h0 : i = 0
      · subst h0
        have HR1 := Lib.hid (HR.out.first hiw)
        generalize ws[0] = x at *
        simp only [Nat.zero_mul, Nat.zero_add] at c0 c1 c2
        go_wp2_with fail
        refine HPUT.out.mono ?_
        rintro e w2 ⟨A3, c3, rfl, hr3, hb3, hn3⟩
        have HNW3 := Lib.hid (HNW.out.next (by omega) hn3)
        have HR3 := Lib.hid hr3
        have HB3 := Lib.hid (HB2.out.trans (hb3.mono hwr))
        clear hr3 hb3 hn3
        go_wp2_with fail
        go_quiet (fail)
        go_wp2
        exact ⟨⟨1, _, c3, A3, _, by go_num, rfl, by omega, by have := HN1.out; omega, Lib.hid rfl, HR1, Lib.hid HR3.out, Lib.hid (bel_drewN HB3.out _), HNW3⟩, by simp [intOf]; omega⟩
      · obtain ⟨j, rfl⟩ : ∃ j, i = j + 1 := ⟨i - 1, by omega⟩
        have hjw : j < ws.length := by omega
        have hjm : (j : Int) < (m : Int) := by omega
        have hj0 : (0 : Int) ≤ (j : Int) := by omega
        have hwj3 : IntKind.i64.wrap (j : Int) = (j : Int) := by rw [IntKind.wrap_i64]; omega
        have HLO := Lib.hid (HR.out.lone hiw (by omega))
        have HBO := Lib.hid (HR.out.both hiw (by omega))
        simp only [Nat.add_sub_cancel] at HLO HBO
        have hord := HORD.out j hiw
        have hin : ws[j + 1].a ≤ s.size := by have := (HALL.out ws[j + 1] (List.getElem_mem hiw)).2.2; omega
        have hy32 := (HALL.out ws[j] (List.getElem_mem hjw)).1.le
        have hx32 := (HALL.out ws[j + 1] (List.getElem_mem hiw)).1.le
        have HPI := Lib.hid (paired_iff (l := bl s) hord (by rw [hln]; exact hin))
        generalize hxx : ws[j + 1] = x at *
        generalize hyy : ws[j] = y at *
        go_wp2_with fail
        refine HPUT.out.mono ?_
        rintro e w2 ⟨A3, c3, rfl, hr3, hb3, hn3⟩
        have HNW3 := Lib.hid (HNW.out.next (by omega) hn3)
        have HR3 := Lib.hid hr3
        have HB3 := Lib.hid (HB2.out.trans (hb3.mono hwr))
        have hcc3 := hr3.2.1
        have hcc4 := hr3.max
        clear hr3 hb3 hn3
        obtain ⟨g1, e1, hg1, d0, d1, d2⟩ := HCELL.out w2 HB3.out j hjw
        injection e1 with e1
        injection e1 with e1 _ _
        subst e1
        obtain ⟨g2, e2, hg2, f0, f1, f2⟩ := HCELL.out w2 HB3.out (j + 1) hiw
        injection e2 with e2
        injection e2 with e2 _ _
        subst e2
        rw [hyy] at d0 d1 d2
        rw [hxx] at f0 f1 f2
        clear hxx hyy c0 c1 c2
        by_cases ha : x.a = y.z + 1
        · have hyl : y.z < s.size := by omega
          have hgy : (bl s)[y.z]?.getD 0 = s[y.z] := by rw [List.getElem?_eq_getElem (by rw [hln]; exact hyl)]; rfl
          by_cases hch : s[y.z] = 61
          · have HPT := Lib.hid (HBO.out (HPI.out.2 ⟨ha, by rw [hgy]; exact hch⟩))
            have hxc : (((s[y.z]).toNat : Int) == 61) = true := by rw [hch]; rfl
            rw [ha] at f1
            clear hgy hch ha
            have hyi : (y.z : Int) < (s.size : Int) := by omega
            have HPUT2 := Lib.hid (fun (W : World) (h : Below w2.heap.size w2 W) => put5_new A3 _ c3 _ (M.gather (xs ++ [x.text])) (y.text ++ 61 :: x.text) W (HR3.out.below h) h.size (by have := HN1.out; omega))
            rw [← gather_snoc] at HPUT2
            have HN2 := Lib.hid (show (M.gather (xs ++ [x.text] ++ [y.text ++ 61 :: x.text])).length ≤ 2 * (j + 1 + 1) by
              have := put_len (M.gather (xs ++ [x.text])) (y.text ++ 61 :: x.text)
              rw [← gather_snoc] at this
              have h1 := HN1.out
              omega)
            have a1 := bytes_app y.text [61]
            have a2 := bytes_app (y.text ++ [61]) x.text
            have z1 : ¬ 9223372036854775807 < y.text.length + 1 := by omega
            have z2 : ¬ 9223372036854775807 < y.text.length + 1 + x.text.length := by omega
            have z3 : ¬ 9223372036854775807 < y.text.length + (x.text.length + 1) := by omega
            have hj1 : (j : Int) + 1 < (m : Int) := by omega
            have hj2 : (0 : Int) ≤ (j : Int) + 1 := by omega
            generalize xs ++ [x.text] ++ [y.text ++ 61 :: x.text] = zs at HPT HN2 HPUT2
            generalize M.gather (xs ++ [x.text]) = gx at *
            go_wp2_with fail
            go_quiet (fail)
            have HPUT3 := Lib.hid (HPUT2.out (w2.drewN nq).drew (by exact ⟨rfl, rfl, rfl, Nat.le_refl _, fun _ _ => rfl⟩))
            go_wp2_with fail
            go_region_held3 (fun W => W.cell? ⟨g, j * 3, none⟩ = some (.string ⟨y.text.toArray⟩) ∧ W.cell? ⟨g, (j + 1) * 3, none⟩ = some (.string ⟨x.text.toArray⟩)) (go_keep)
              ((go_at_call 70; refine HPUT3.out.mono ?_; rintro e w4 ⟨A4, c4, rfl, hr4, hb4, hn4⟩; have hnw4 := HNW3.out.next (Nat.le_trans hw1 (Nat.le_trans HB3.out.size (Nat.le_refl _))) hn4
                have r0 := (hb4.cell (p := ⟨g, j * 3, none⟩) hg1).trans d0; have r1 := (hb4.cell (p := ⟨g, (j + 1) * 3, none⟩) hg1).trans f0))
            have HR4 := Lib.hid hr4
            have HB4 := Lib.hid (show Below w1.heap.size w1 w4 from HB3.out.trans (Below.mono (show Below w2.heap.size w2 w4 from ⟨hb4.os, hb4.tape, hb4.output, hb4.size, hb4.block⟩) HB3.out.size))
            clear hr4 hb4 hn4
            go_wp2
            exact ⟨⟨j + 1 + 1, _, c4, A4, _, by go_num, rfl, by omega, HN2.out, Lib.hid rfl, HPT, Lib.hid HR4.out, HB4, Lib.hid hnw4⟩, by simp [intOf]; omega⟩
          · have HPT := Lib.hid (HLO.out (by
              cases hq : M.paired (bl s) y x
              · rfl
              · exact absurd (by rw [← hgy]; exact (HPI.out.1 hq).2) hch))
            have hxc : (((s[y.z]).toNat : Int) == 61) = false := by
              rw [Bool.eq_false_iff]
              intro h
              apply hch
              have h2 : (s[y.z]).toNat = 61 := by have := beq_iff_eq.1 h; omega
              exact UInt8.toNat_inj.1 h2
            rw [ha] at f1
            clear hgy hch ha
            have hyi : (y.z : Int) < (s.size : Int) := by omega
            go_wp2_with fail
            go_quiet (fail)
            go_wp2
            exact ⟨⟨j + 1 + 1, _, c3, A3, _, by go_num, rfl, by omega, by have := HN1.out; omega, Lib.hid rfl, HPT, Lib.hid HR3.out, Lib.hid (bel_drewN HB3.out _), HNW3⟩, by simp [intOf]; omega⟩
        · have HPT := Lib.hid (HLO.out (by
            cases hq : M.paired (bl s) y x
            · rfl
            · exact absurd (HPI.out.1 hq).1 ha))
          have hne : ((x.a : Int) == (y.z : Int) + 1) = false := by simp; omega
          clear ha
          go_wp2_with fail
          go_quiet (fail)
          go_wp2
          exact ⟨⟨j + 1 + 1, _, c3, A3, _, by go_num, rfl, by omega, by have := HN1.out; omega, Lib.hid rfl, HPT, Lib.hid HR3.out, Lib.hid (bel_drewN HB3.out _), HNW3⟩, by simp [intOf]; omega⟩
    · have HRAW := Lib.hid (HR.out.done (by rw [HM.out]; omega))
      have HG := Lib.hid (show M.terms (bl s) = M.gather xs by rw [HTM.out, ← HRAW.out])
      go_wp2
      go_ret
      refine ⟨A2, k, by rw [HG.out, HN.out]; rfl, by rw [HG.out, HN.out]; exact HO.out, HB.out.trans (HB2.out.mono HB.out.size), HNW.out.last (by rw [HG.out, HN.out]; exact HO.out)⟩

set_option maxHeartbeats 2000000 in
theorem put9_any (A : Option Addr) (n c B : Nat) (xs : List (List UInt8)) (x : List UInt8) (w : World) (h : RdV w B A n c (strs xs)) (hB : B ≤ w.heap.size) (hl : n ≤ 1073741824) :
    Calls Tryd.prog 58 #[.slice A n c, .string ⟨x.toArray⟩] w (SaysA A (M.put xs x) w) := by
  obtain ⟨i0, hi, hz0, hz1, hz2⟩ := info_of Tryd.infoS
  have HI := Lib.hid hi; have HZ0 := Lib.hid hz0; have HZ1 := Lib.hid hz1; have HZ2 := Lib.hid hz2
  clear hi hz0 hz1 hz2
  have hn : xs.length = n := by have := h.1; simpa using this.symm
  have HN := Lib.hid hn
  have HR := Lib.hid h
  have hc := h.2.1
  have hcm := h.max
  have H0 := Lib.hid (show Under xs x 0 from fun j _ hj => by omega)
  have HPUT := Lib.hid (fun k => put_at xs x k)
  clear h hn
  go_enter Tryd.func58, Tryd.ntmps58
  go_wp2
  go_loop [5] (fun p => ∃ i : Nat, p = .int .i64 (i : Int) ∧ i ≤ n ∧ Hid (Under xs x i)) (fun p => n - (intOf p).toNat)
  case atStart => exact ⟨0, rfl, by omega, H0⟩
  case round =>
    obtain ⟨k, rfl, hk, HU⟩ := hrel
    by_cases hlt : k < n
    · have hix : k < xs.length := by rw [HN.out]; exact hlt
      obtain ⟨b, off, rfl, hb, q⟩ := HR.out.at_ hlt
      rw [strs_at hix] at q
      have hil : (k : Int) < (n : Int) := by omega
      by_cases hle : xs[k] < x
      · have HU2 := Lib.hid (show Under xs x (k + 1) from fun j hj hjk => by
          by_cases e : j = k
          · subst e; exact hle
          · exact HU.out j hj (by omega))
        have hq : Op.bytesLess xs[k] x = true := by rw [bytesLess_eq]; simpa using hle
        clear hle
        generalize xs[k] = y at *
        go_wp2
        go_round
        case rel => exact ⟨k + 1, by go_num, by omega, HU2⟩
        case measure => simp [intOf]; omega
      · have hq : Op.bytesLess xs[k] x = false := by rw [bytesLess_eq]; simpa using hle
        have HP := Lib.hid (HPUT.out k HU.out (by rw [HN.out]; omega) (fun _ => hle))
        rw [dif_pos hix] at HP
        by_cases he : xs[k] = x
        · have HP2 := Lib.hid (show M.put xs x = xs by rw [HP.out, if_pos he])
          have hq2 : (xs[k] == x) = true := by rw [beq_str]; simpa using he
          clear he hle
          generalize xs[k] = y at *
          go_wp2
          go_ret
          refine ⟨_, c, by rw [HP2.out, HN.out]; rfl, by rw [HP2.out, HN.out]; exact HR.out.more hB, Below.refl _ _, .inl rfl⟩
        · have HP2 := Lib.hid (show M.put xs x = xs.take k ++ x :: xs.drop k by rw [HP.out, if_neg he])
          have hq2 : (xs[k] == x) = false := by rw [beq_str]; simpa using he
          clear he hle
          generalize xs[k] = y at *
          have HS1 := Lib.hid (HR.out.upto (k := k) (by omega))
          have HS3 := Lib.hid (HR.out.from_ (k := k) (by omega))
          rw [if_neg (by omega)] at HS3
          simp only [Option.map_some, add_none] at HS3
          have HLT := Lib.hid (show (strs xs).length = n by rw [List.length_map, HN.out])
          go_wp2_with (at_builtin; go_must (refine wpList_appV _ rfl (.tmp 34) (.tmp 37) _ rfl w.heap.size B 9 i0 _ 16 Tryd.underlying48 HI.out HZ0.out HZ1.out HZ2.out rfl (.slice none 0 0) [] (OwnV.nil _ _ _) rfl (some ⟨b, off, none⟩) k c ((strs xs).take k) HS1.out rfl (fun u hu => strs_one xs u (List.mem_of_mem_take hu)) (by simp; omega) (by simp; omega) (Nat.le_refl _) ?_))
          intro v1 w1 hown1 hg1 hat1
          obtain ⟨A1, c1, rfl, hc1, hcm1⟩ := hown1.form
          have hb1 : Below w.heap.size w w1 := (OwnV.nil w w.heap.size 9).grown (Nat.le_refl _) hg1
          have HB1 := Lib.hid hb1
          have hL1 : ((strs xs).take k).length = k := by simp; have := HN.out; omega
          have HO1 := Lib.hid hown1
          have hsz1 := hb1.size
          rw [hL1] at hc1 HO1 ⊢
          clear hown1 hg1 hat1 hb1
          go_wp2_with (at_builtin; go_must (refine wpList_appV _ rfl (.tmp 39) (.tmp 41) _ rfl w.heap.size (w1.heap.size + 1) 9 i0 _ 16 Tryd.underlying48 HI.out HZ0.out HZ1.out HZ2.out rfl (.slice A1 k c1) ((strs xs).take k) (HO1.out.alloc _) rfl (some ⟨w1.heap.size, 0, none⟩) 1 1 [.string ⟨x.toArray⟩] (RdV.fresh w1 _ _) rfl (by simp [Value.oneCell']) (by rw [hL1]; simp; omega) (by rw [hL1]; simp; omega) (by simp; omega) ?_))
          intro v2 w2 hown2 hg2 hat2
          obtain ⟨A2, c2, rfl, hc2, hcm2⟩ := hown2.form
          have hb2 : Below w.heap.size w w2 := (HB1.out.alloc hsz1 _).grown hg2 (by simp; omega) (fun k' hk' => (HO1.out.lt k' hk').1)
          have hL2 : ((strs xs).take k ++ [Value.string ⟨x.toArray⟩]).length = k + 1 := by rw [List.length_append, hL1]; rfl
          have HO2 := Lib.hid hown2
          have HB2 := Lib.hid hb2
          have hsz2 := hb2.size
          have HS3B := Lib.hid (HS3.out.below (hb2.mono hB))
          rw [hL2] at hc2 HO2 ⊢
          clear hown2 hg2 hat2 hb2
          go_wp2_with (at_builtin; go_must (refine wpList_appV _ rfl (.tmp 43) (.tmp 46) _ rfl w.heap.size B 9 i0 _ 16 Tryd.underlying48 HI.out HZ0.out HZ1.out HZ2.out rfl (.slice A2 (k + 1) c2) ((strs xs).take k ++ [Value.string ⟨x.toArray⟩]) HO2.out rfl (some ⟨b, off + k, none⟩) (n - k) (c - k) ((strs xs).drop k) HS3B.out rfl (fun u hu => strs_one xs u (List.mem_of_mem_drop hu)) (by rw [hL2]; simp; have := HN.out; omega) (by rw [hL2]; simp; have := HN.out; omega) hsz2 ?_))
          intro v3 w3 hown3 hg3 hat3
          obtain ⟨A3, c3, rfl, hc3, hcm3⟩ := hown3.form
          have HB3 := Lib.hid (HB2.out.grown hg3 hsz2 (fun k' hk' => (HO2.out.lt k' hk').1))
          have e3 : (strs xs).take k ++ Value.string ⟨x.toArray⟩ :: (strs xs).drop k = strs (M.put xs x) := by rw [HP2.out]; simp [List.map_take, List.map_drop]
          rw [e3] at hc3 ⊢
          have HO3 := Lib.hid (show OwnV w3 w.heap.size 9 (.slice A3 (strs (M.put xs x)).length c3) (strs (M.put xs x)) by rw [← e3]; simpa using hown3)
          have hL3 : (strs (M.put xs x)).length = (M.put xs x).length := by simp
          rw [hL3] at hc3 HO3 ⊢
          clear hown3 hg3 hat3 e3
          generalize M.put xs x = rs at *
          go_wp2
          go_ret
          exact ⟨A3, c3, rfl, HO3.out.rd, HB3.out, ownv_new HO3.out⟩
    · have HP2 := Lib.hid (show M.put xs x = xs.take k ++ x :: xs.drop k by
        rw [HPUT.out k HU.out (by rw [HN.out]; omega) (fun h => absurd h (by rw [HN.out]; omega)), dif_neg (by rw [HN.out]; omega), List.take_of_length_le (by rw [HN.out]; omega), List.drop_eq_nil_of_le (by rw [HN.out]; omega)])
      by_cases hck : c = k
      · subst hck
        have HS1 := Lib.hid (HR.out.upto (k := c) (by omega))
        have HS3 := Lib.hid (HR.out.from_ (k := c) (by omega))
        rw [if_pos rfl, show n - c = 0 by omega, Nat.sub_self] at HS3
        have HLT := Lib.hid (show (strs xs).length = n by rw [List.length_map, HN.out])
        go_wp2_with (at_builtin; go_must (refine wpList_appV _ rfl (.tmp 34) (.tmp 37) _ rfl w.heap.size B 9 i0 _ 16 Tryd.underlying48 HI.out HZ0.out HZ1.out HZ2.out rfl (.slice none 0 0) [] (OwnV.nil _ _ _) rfl A c c ((strs xs).take c) HS1.out rfl (fun u hu => strs_one xs u (List.mem_of_mem_take hu)) (by simp; omega) (by simp; omega) (Nat.le_refl _) ?_))
        intro v1 w1 hown1 hg1 hat1
        obtain ⟨A1, c1, rfl, hc1, hcm1⟩ := hown1.form
        have hb1 : Below w.heap.size w w1 := (OwnV.nil w w.heap.size 9).grown (Nat.le_refl _) hg1
        have HB1 := Lib.hid hb1
        have hL1 : ((strs xs).take c).length = c := by simp; have := HN.out; omega
        have HO1 := Lib.hid hown1
        have hsz1 := hb1.size
        rw [hL1] at hc1 HO1 ⊢
        clear hown1 hg1 hat1 hb1
        go_wp2_with (at_builtin; go_must (refine wpList_appV _ rfl (.tmp 39) (.tmp 41) _ rfl w.heap.size (w1.heap.size + 1) 9 i0 _ 16 Tryd.underlying48 HI.out HZ0.out HZ1.out HZ2.out rfl (.slice A1 c c1) ((strs xs).take c) (HO1.out.alloc _) rfl (some ⟨w1.heap.size, 0, none⟩) 1 1 [.string ⟨x.toArray⟩] (RdV.fresh w1 _ _) rfl (by simp [Value.oneCell']) (by rw [hL1]; simp; omega) (by rw [hL1]; simp; omega) (by simp; omega) ?_))
        intro v2 w2 hown2 hg2 hat2
        obtain ⟨A2, c2, rfl, hc2, hcm2⟩ := hown2.form
        have hb2 : Below w.heap.size w w2 := (HB1.out.alloc hsz1 _).grown hg2 (by simp; omega) (fun k' hk' => (HO1.out.lt k' hk').1)
        have hL2 : ((strs xs).take c ++ [Value.string ⟨x.toArray⟩]).length = c + 1 := by rw [List.length_append, hL1]; rfl
        have HO2 := Lib.hid hown2
        have HB2 := Lib.hid hb2
        have hsz2 := hb2.size
        have HS3B := Lib.hid (HS3.out.below (hb2.mono hB))
        rw [hL2] at hc2 HO2 ⊢
        clear hown2 hg2 hat2 hb2
        go_wp2_with (at_builtin; go_must (refine wpList_appV _ rfl (.tmp 43) (.tmp 46) _ rfl w.heap.size B 9 i0 _ 16 Tryd.underlying48 HI.out HZ0.out HZ1.out HZ2.out rfl (.slice A2 (c + 1) c2) ((strs xs).take c ++ [Value.string ⟨x.toArray⟩]) HO2.out rfl A 0 0 ((strs xs).drop c) HS3B.out rfl (fun u hu => strs_one xs u (List.mem_of_mem_drop hu)) (by rw [hL2]; simp; have := HN.out; omega) (by rw [hL2]; simp; have := HN.out; omega) hsz2 ?_))
        intro v3 w3 hown3 hg3 hat3
        obtain ⟨A3, c3, rfl, hc3, hcm3⟩ := hown3.form
        have HB3 := Lib.hid (HB2.out.grown hg3 hsz2 (fun k' hk' => (HO2.out.lt k' hk').1))
        have e3 : (strs xs).take c ++ Value.string ⟨x.toArray⟩ :: (strs xs).drop c = strs (M.put xs x) := by rw [HP2.out]; simp [List.map_take, List.map_drop]
        rw [e3] at hc3 ⊢
        have HO3 := Lib.hid (show OwnV w3 w.heap.size 9 (.slice A3 (strs (M.put xs x)).length c3) (strs (M.put xs x)) by rw [← e3]; simpa using hown3)
        have hL3 : (strs (M.put xs x)).length = (M.put xs x).length := by simp
        rw [hL3] at hc3 HO3 ⊢
        clear hown3 hg3 hat3 e3
        generalize M.put xs x = rs at *
        go_wp2
        go_ret
        exact ⟨A3, c3, rfl, HO3.out.rd, HB3.out, ownv_new HO3.out⟩
      · have HS1 := Lib.hid (HR.out.upto (k := k) (by omega))
        have HS3 := Lib.hid (HR.out.from_ (k := k) (by omega))
        rw [if_neg hck] at HS3
        have HLT := Lib.hid (show (strs xs).length = n by rw [List.length_map, HN.out])
        go_wp2_with (at_builtin; go_must (refine wpList_appV _ rfl (.tmp 34) (.tmp 37) _ rfl w.heap.size B 9 i0 _ 16 Tryd.underlying48 HI.out HZ0.out HZ1.out HZ2.out rfl (.slice none 0 0) [] (OwnV.nil _ _ _) rfl A k c ((strs xs).take k) HS1.out rfl (fun u hu => strs_one xs u (List.mem_of_mem_take hu)) (by simp; omega) (by simp; omega) (Nat.le_refl _) ?_))
        intro v1 w1 hown1 hg1 hat1
        obtain ⟨A1, c1, rfl, hc1, hcm1⟩ := hown1.form
        have hb1 : Below w.heap.size w w1 := (OwnV.nil w w.heap.size 9).grown (Nat.le_refl _) hg1
        have HB1 := Lib.hid hb1
        have hL1 : ((strs xs).take k).length = k := by simp; have := HN.out; omega
        have HO1 := Lib.hid hown1
        have hsz1 := hb1.size
        rw [hL1] at hc1 HO1 ⊢
        clear hown1 hg1 hat1 hb1
        go_wp2_with (at_builtin; go_must (refine wpList_appV _ rfl (.tmp 39) (.tmp 41) _ rfl w.heap.size (w1.heap.size + 1) 9 i0 _ 16 Tryd.underlying48 HI.out HZ0.out HZ1.out HZ2.out rfl (.slice A1 k c1) ((strs xs).take k) (HO1.out.alloc _) rfl (some ⟨w1.heap.size, 0, none⟩) 1 1 [.string ⟨x.toArray⟩] (RdV.fresh w1 _ _) rfl (by simp [Value.oneCell']) (by rw [hL1]; simp; omega) (by rw [hL1]; simp; omega) (by simp; omega) ?_))
        intro v2 w2 hown2 hg2 hat2
        obtain ⟨A2, c2, rfl, hc2, hcm2⟩ := hown2.form
        have hb2 : Below w.heap.size w w2 := (HB1.out.alloc hsz1 _).grown hg2 (by simp; omega) (fun k' hk' => (HO1.out.lt k' hk').1)
        have hL2 : ((strs xs).take k ++ [Value.string ⟨x.toArray⟩]).length = k + 1 := by rw [List.length_append, hL1]; rfl
        have HO2 := Lib.hid hown2
        have HB2 := Lib.hid hb2
        have hsz2 := hb2.size
        have HS3B := Lib.hid (HS3.out.below (hb2.mono hB))
        rw [hL2] at hc2 HO2 ⊢
        clear hown2 hg2 hat2 hb2
        go_wp2_with (at_builtin; go_must (refine wpList_appV _ rfl (.tmp 43) (.tmp 46) _ rfl w.heap.size B 9 i0 _ 16 Tryd.underlying48 HI.out HZ0.out HZ1.out HZ2.out rfl (.slice A2 (k + 1) c2) ((strs xs).take k ++ [Value.string ⟨x.toArray⟩]) HO2.out rfl (A.map (·.add k)) (n - k) (c - k) ((strs xs).drop k) HS3B.out rfl (fun u hu => strs_one xs u (List.mem_of_mem_drop hu)) (by rw [hL2]; simp; have := HN.out; omega) (by rw [hL2]; simp; have := HN.out; omega) hsz2 ?_))
        intro v3 w3 hown3 hg3 hat3
        obtain ⟨A3, c3, rfl, hc3, hcm3⟩ := hown3.form
        have HB3 := Lib.hid (HB2.out.grown hg3 hsz2 (fun k' hk' => (HO2.out.lt k' hk').1))
        have e3 : (strs xs).take k ++ Value.string ⟨x.toArray⟩ :: (strs xs).drop k = strs (M.put xs x) := by rw [HP2.out]; simp [List.map_take, List.map_drop]
        rw [e3] at hc3 ⊢
        have HO3 := Lib.hid (show OwnV w3 w.heap.size 9 (.slice A3 (strs (M.put xs x)).length c3) (strs (M.put xs x)) by rw [← e3]; simpa using hown3)
        have hL3 : (strs (M.put xs x)).length = (M.put xs x).length := by simp
        rw [hL3] at hc3 HO3 ⊢
        clear hown3 hg3 hat3 e3
        generalize M.put xs x = rs at *
        go_wp2
        go_ret
        exact ⟨A3, c3, rfl, HO3.out.rd, HB3.out, ownv_new HO3.out⟩
end Go.Proofs.YthhgelaifapmmaaDoor
