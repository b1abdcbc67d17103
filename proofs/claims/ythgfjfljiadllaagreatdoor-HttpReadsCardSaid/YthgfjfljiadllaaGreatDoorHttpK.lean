/-
  What the document's first does, by a contract.
-/
import Derived.Test.YthgfjfljiadllaaGreatDoorHttpJ
namespace Go.Proofs.YthgfjfljiadllaaGreatDoor
open Go.RowKit Mem
set_option linter.unusedVariables false
set_option maxRecDepth 100000

def rqv (m pa body : List UInt8) (c : Bool) : Value := .agg #[.string ⟨m.toArray⟩, .string ⟨pa.toArray⟩, .string ⟨body.toArray⟩, .bool c]
def firstT : Option (List UInt8 × List UInt8) → Value
  | none => .tuple #[rqv [] [] [] false, .bool false]
  | some (m, pa) => .tuple #[rqv m pa [] false, .bool true]
theorem find_at {s : ByteArray} {i : Nat} (h : M.fi 32 (bl s) = i) (hl : i < s.size) (hs : s.size ≤ 9223372036854775806) (w : World) : Calls Tryz.prog 16 #[.string s, .int .u8 32] w (SaysZ i w) := by
  have := ref_find_any s 32 32 (by decide) w hs
  rwa [fz_some (by rw [h, bl_len]; exact hl), h] at this
theorem find_no {s : ByteArray} (h : ¬ M.fi 32 (bl s) < s.size) (hs : s.size ≤ 9223372036854775806) (w : World) : Calls Tryz.prog 16 #[.string s, .int .u8 32] w (SaysZ (-1) w) := by
  have := ref_find_any s 32 32 (by decide) w hs
  rwa [fz_none (by rw [bl_len]; exact h)] at this

section
variable {P : Program}
theorem results_row2 {fn : Func} {p u : Tmp} {ty : TypeId} (h : fn.results = #[.cell p ty, .tmp u]) (tmps : Array Value) (w : World) (g : Nat) (t : TypeId) (cs : Array Value) (fr : Nat × Nat) (d : TypeDesc)
    (hp : tmps.getD p undef = .pointer (some ⟨g, 0, none⟩)) (hg : w.heap[g]? = some (.cells cs t fr))
    (hu : P.underlying ty = some d) (hd : (match d with | .struct _ | .array _ _ => true | _ => false) = true) (hi : (P.info? ty).map (·.size) = some cs.size) :
    (results fn tmps).run P w = .ok (.tuple #[.agg cs, tmps.getD u undef]) w := by
  have hp' : tmps[p]?.getD undef = .pointer (some ⟨g, 0, none⟩) := by simpa using hp
  simp [results, h, hp', asAddr, run_loadVar_row w g t ty cs fr d hg hu hd hi]
theorem results_row3 {fn : Func} {p u v : Tmp} {ty : TypeId} (h : fn.results = #[.cell p ty, .tmp u, .tmp v]) (tmps : Array Value) (w : World) (g : Nat) (t : TypeId) (cs : Array Value) (fr : Nat × Nat) (d : TypeDesc)
    (hp : tmps.getD p undef = .pointer (some ⟨g, 0, none⟩)) (hg : w.heap[g]? = some (.cells cs t fr))
    (hu : P.underlying ty = some d) (hd : (match d with | .struct _ | .array _ _ => true | _ => false) = true) (hi : (P.info? ty).map (·.size) = some cs.size) :
    (results fn tmps).run P w = .ok (.tuple #[.agg cs, tmps.getD u undef, tmps.getD v undef]) w := by
  have hp' : tmps[p]?.getD undef = .pointer (some ⟨g, 0, none⟩) := by simpa using hp
  simp [results, h, hp', asAddr, run_loadVar_row w g t ty cs fr d hg hu hd hi]
end
theorem Tryz.rqSize : (Tryz.prog.info? 24).map (·.size) = some 4 := by kernel_rfl
def rqc (m pa body : List UInt8) (c : Bool) : Array Value := #[.string ⟨m.toArray⟩, .string ⟨pa.toArray⟩, .string ⟨body.toArray⟩, .bool c]
/-- the block g is a request -/
def RqIn (w : World) (g : Nat) (m pa body : List UInt8) (c : Bool) : Prop := w.heap[g]? = some (.cells (rqc m pa body c) 24 (0, 0))
theorem RqIn.new (w : World) (m pa body : List UInt8) (c : Bool) : RqIn (w.alloc (.cells (rqc m pa body c) 24)) w.heap.size m pa body c := heap_alloc_new _ _
theorem bel_alloc (w : World) (o : Obj) : Below w.heap.size w (w.alloc o) := (Below.refl _ w).alloc (Nat.le_refl _) _

set_option maxHeartbeats 2000000 in
theorem ref_first_any (s : ByteArray) (w : World) (hs : s.size ≤ 1048576) : Calls Tryz.prog 17 #[.string s] w fun e w' => e = .returned (firstT (M.first (bl s))) ∧ Below w.heap.size w w' := by
  have hln : (bl s).length = s.size := bl_len s
  by_cases h1 : M.fi 32 (bl s) < s.size
  · obtain ⟨i, hi⟩ : ∃ i, M.fi 32 (bl s) = i := ⟨_, rfl⟩
    rw [hi] at h1
    have HF1 := Lib.hid (find_at hi h1 (by omega))
    obtain ⟨s2, hs2⟩ : ∃ s2, s.extract (i + 1) s.size = s2 := ⟨_, rfl⟩
    have hz2 : s2.size = s.size - (i + 1) := by rw [← hs2, size_cut]; omega
    have hb2 : bl s2 = (bl s).drop (i + 1) := by rw [← hs2, bl_from]
    obtain ⟨sa, hsa⟩ : ∃ sa, s.extract 0 i = sa := ⟨_, rfl⟩
    have hba : bl sa = (bl s).take i := by rw [← hsa, bl_cut]; simp
    have hza : sa.size = i := by rw [← hsa, size_cut]; omega
    have HM : M.first (bl s) = if (bl s2).length ≤ M.fi 32 (bl s2) then none
        else if M.isName (bl sa) = true ∧ M.isPath ((bl s2).take (M.fi 32 (bl s2))) = true ∧ (bl s2).drop (M.fi 32 (bl s2) + 1) = M.httpV then some (bl sa, (bl s2).take (M.fi 32 (bl s2))) else none := by
      unfold M.first
      rw [hi, ← hb2, ← hba, if_neg (by omega)]
    have hzs2 : s2.size ≤ 1048576 := by omega
    by_cases h2 : M.fi 32 (bl s2) < s2.size
    · obtain ⟨j, hj⟩ : ∃ j, M.fi 32 (bl s2) = j := ⟨_, rfl⟩
      rw [hj] at h2
      have HF2 := Lib.hid (find_at hj h2 (by omega))
      obtain ⟨s3, hs3⟩ : ∃ s3, s2.extract (j + 1) s2.size = s3 := ⟨_, rfl⟩
      have hb3 : bl s3 = (bl s2).drop (j + 1) := by rw [← hs3, bl_from]
      obtain ⟨s4, hs4⟩ : ∃ s4, s2.extract 0 j = s4 := ⟨_, rfl⟩
      have hb4 : bl s4 = (bl s2).take j := by rw [← hs4, bl_cut]; simp
      have hz4 : s4.size = j := by rw [← hs4, size_cut]; omega
      rw [hj, ← hb3, ← hb4, if_neg (by rw [bl_len]; omega)] at HM
      have HM' := Lib.hid HM
      have HNM := Lib.hid (fun w1 => ref_name_any sa w1 (by omega))
      generalize M.first (bl s) = R at *
      clear hb2 hba hb3 hb4 hi hj HM hln hz2
      by_cases h3 : bl s3 = M.httpV
      · have hq : (s3.toList == [72, 84, 84, 80, 47, 49, 46, 49]) = true := by rw [Lib.toList_data, beq_iff_eq]; exact h3
        obtain ⟨bn, hbn⟩ : ∃ bn, M.isName (bl sa) = bn := ⟨_, rfl⟩
        rw [hbn] at HNM
        have HBN := Lib.hid hbn
        have H3 := Lib.hid h3
        clear h3 hbn hza
        cases bn with
        | false =>
          have HR := Lib.hid (show R = none by rw [HM'.out, if_neg (fun h => by rw [HBN.out] at h; cases h.1)])
          go_enter Tryz.func17, Tryz.ntmps17
          go_wp2_with fail
          refine (HF1.out _).mono ?_
          rintro e w1 ⟨rfl, rfl⟩
          go_wp2_with fail
          refine (HF2.out _).mono ?_
          rintro e w1 ⟨rfl, rfl⟩
          go_wp2_with fail
          refine (HNM.out _).mono ?_
          rintro e w1 ⟨rfl, rfl⟩
          go_wp2
          (try simp only [Exit.inBlock, Exit.then])
          refine bodyPost_ret (results_row2 rfl _ _ w.heap.size 24 (rqc [] [] [] false) (0, 0) _ rfl (RqIn.new w [] [] [] false) Tryz.underlying24 rfl Tryz.rqSize) rfl ?_
          exact ⟨by rw [HR.out]; rfl, bel_alloc _ _⟩
        | true =>
          by_cases hj0 : j = 0
          · subst hj0
            rw [Nat.zero_add] at hs3
            have HR := Lib.hid (show R = none by
              rw [HM'.out, if_neg]
              rintro ⟨_, h, _⟩
              have e : bl s4 = [] := List.eq_nil_of_length_eq_zero (by rw [bl_len]; omega)
              rw [e] at h
              cases h)
            have he : (s4.toList == []) = true := by rw [Lib.toList_data, beq_iff_eq]; exact List.eq_nil_of_length_eq_zero (by rw [bl_len]; omega)
            go_enter Tryz.func17, Tryz.ntmps17
            go_wp2_with fail
            refine (HF1.out _).mono ?_
            rintro e w1 ⟨rfl, rfl⟩
            go_wp2_with fail
            refine (HF2.out _).mono ?_
            rintro e w1 ⟨rfl, rfl⟩
            go_wp2_with fail
            refine (HNM.out _).mono ?_
            rintro e w1 ⟨rfl, rfl⟩
            go_wp2
            (try simp only [Exit.inBlock, Exit.then])
            refine bodyPost_ret (results_row2 rfl _ _ w.heap.size 24 (rqc [] [] [] false) (0, 0) _ rfl (RqIn.new w [] [] [] false) Tryz.underlying24 rfl Tryz.rqSize) rfl ?_
            exact ⟨by rw [HR.out]; rfl, bel_alloc _ _⟩
          · have hp4 : 0 < s4.size := by omega
            have he : (s4.toList == []) = false := by rw [Lib.toList_data, beq_eq_false_iff_ne]; intro e; have h9 := bl_len s4; rw [show bl s4 = [] from e] at h9; simp at h9; omega
            obtain ⟨y, hy⟩ : ∃ y, (s4[0]).toNat = y := ⟨_, rfl⟩
            by_cases hy47 : y = 47
            · subst hy47
              have HH := Lib.hid (show (bl s4).head? = some 47 by
                rw [List.head?_eq_getElem?, List.getElem?_eq_getElem (by rw [bl_len]; omega)]
                exact congrArg some (UInt8.toNat_inj.1 hy))
              go_enter Tryz.func17, Tryz.ntmps17
              go_wp2_with fail
              refine (HF1.out _).mono ?_
              rintro e w1 ⟨rfl, rfl⟩
              go_wp2_with fail
              refine (HF2.out _).mono ?_
              rintro e w1 ⟨rfl, rfl⟩
              go_wp2_with fail
              refine (HNM.out _).mono ?_
              rintro e w1 ⟨rfl, rfl⟩
              go_wp2
              go_loopw [8] (fun p w2 => ∃ k : Nat, p = .int .i64 (k : Int) ∧ k ≤ s4.size ∧ Hid (PreAll M.pathB (bl s4) k) ∧ w2 = w.alloc (.cells #[.string ⟨#[]⟩, .string ⟨#[]⟩, .string ⟨#[]⟩, .bool false] 24)) (fun p _ => s4.size - (intOf p).toNat)
              case atStart => exact ⟨0, rfl, by omega, Lib.hid (PreAll.zero _ _), rfl⟩
              case round =>
                obtain ⟨k, rfl, hk, HI, rfl⟩ := hrel
                by_cases hlt : k < s4.size
                · have hil : k < (bl s4).length := by rw [bl_len]; exact hlt
                  obtain ⟨z, hz⟩ : ∃ z, (s4[k]).toNat = z := ⟨_, rfl⟩
                  by_cases hd : 33 ≤ z ∧ z ≤ 126
                  · obtain ⟨hd1, hd2⟩ := hd
                    have HN := Lib.hid (HI.out.next hil ((pathB_iff _).2 (by rw [bl_get _ _ hlt, hz]; exact ⟨hd1, hd2⟩)))
                    go_wp2
                    go_roundw
                    case rel => exact ⟨k + 1, by go_num, by omega, HN, trivial⟩
                    case measure => simp [intOf]; omega
                  · have HR := Lib.hid (show R = none by
                      rw [HM'.out, if_neg]
                      rintro ⟨_, h, _⟩
                      unfold M.isPath at h
                      rw [all_false hil (by rw [Bool.eq_false_iff]; intro h2; have := (pathB_iff _).1 h2; rw [bl_get _ _ hlt, hz] at this; exact hd this)] at h
                      cases h)
                    by_cases hd1 : z < 33
                    · go_wp2
                      (try simp only [Exit.inBlock, Exit.then])
                      refine bodyPost_ret (results_row2 rfl _ _ w.heap.size 24 (rqc [] [] [] false) (0, 0) _ rfl (RqIn.new w [] [] [] false) Tryz.underlying24 rfl Tryz.rqSize) rfl ?_
                      exact ⟨by rw [HR.out]; rfl, bel_alloc _ _⟩
                    · have hd2 : 126 < z := by omega
                      have hd3 : 33 ≤ z := by omega
                      go_wp2
                      (try simp only [Exit.inBlock, Exit.then])
                      refine bodyPost_ret (results_row2 rfl _ _ w.heap.size 24 (rqc [] [] [] false) (0, 0) _ rfl (RqIn.new w [] [] [] false) Tryz.underlying24 rfl Tryz.rqSize) rfl ?_
                      exact ⟨by rw [HR.out]; rfl, bel_alloc _ _⟩
                · have HR := Lib.hid (show R = some (bl sa, bl s4) by
                    rw [HM'.out, if_pos]
                    refine ⟨HBN.out, ?_, H3.out⟩
                    unfold M.isPath
                    rw [HI.out.whole (by rw [bl_len]; omega), Bool.true_and]
                    exact decide_eq_true HH.out)
                  go_wp2
                  (try simp only [Exit.inBlock, Exit.then])
                  refine bodyPost_ret (results_row2 rfl _ _ w.heap.size 24 #[.string sa, .string s4, .string ⟨#[]⟩, .bool false] (0, 0) _ rfl (heap_alloc_new _ _) Tryz.underlying24 rfl Tryz.rqSize) rfl ?_
                  exact ⟨by rw [HR.out]; simp [firstT, rqv], bel_alloc _ _⟩
            · have HR := Lib.hid (show R = none by
                rw [HM'.out, if_neg]
                rintro ⟨_, h, _⟩
                unfold M.isPath at h
                rw [Bool.and_eq_true, decide_eq_true_eq, List.head?_eq_getElem?, List.getElem?_eq_getElem (by rw [bl_len]; omega)] at h
                have h := h.2
                injection h with h
                apply hy47
                rw [← hy, show s4[0] = (47 : UInt8) from h]; rfl)
              have hyb : ((y : Int) == 47) = false := by rw [beq_eq_false_iff_ne]; omega
              clear hj0
              go_enter Tryz.func17, Tryz.ntmps17
              go_wp2_with fail
              refine (HF1.out _).mono ?_
              rintro e w1 ⟨rfl, rfl⟩
              go_wp2_with fail
              refine (HF2.out _).mono ?_
              rintro e w1 ⟨rfl, rfl⟩
              go_wp2_with fail
              refine (HNM.out _).mono ?_
              rintro e w1 ⟨rfl, rfl⟩
              go_wp2
              (try simp only [Exit.inBlock, Exit.then])
              refine bodyPost_ret (results_row2 rfl _ _ w.heap.size 24 (rqc [] [] [] false) (0, 0) _ rfl (RqIn.new w [] [] [] false) Tryz.underlying24 rfl Tryz.rqSize) rfl ?_
              exact ⟨by rw [HR.out]; rfl, bel_alloc _ _⟩
      · have HR := Lib.hid (show R = none by rw [HM'.out, if_neg (fun h => h3 h.2.2)])
        have hq : (s3.toList == [72, 84, 84, 80, 47, 49, 46, 49]) = false := by rw [Lib.toList_data, beq_eq_false_iff_ne]; exact h3
        clear h3 HM' hza
        go_enter Tryz.func17, Tryz.ntmps17
        go_wp2_with fail
        refine (HF1.out _).mono ?_
        rintro e w1 ⟨rfl, rfl⟩
        go_wp2_with fail
        refine (HF2.out _).mono ?_
        rintro e w1 ⟨rfl, rfl⟩
        go_wp2
        (try simp only [Exit.inBlock, Exit.then])
        refine bodyPost_ret (results_row2 rfl _ _ w.heap.size 24 (rqc [] [] [] false) (0, 0) _ rfl (RqIn.new w [] [] [] false) Tryz.underlying24 rfl Tryz.rqSize) rfl ?_
        exact ⟨by rw [HR.out]; rfl, bel_alloc _ _⟩
    · have HF2 := Lib.hid (find_no h2 (by omega))
      have HR := Lib.hid (show M.first (bl s) = none by rw [HM, if_pos (by rw [bl_len]; omega)])
      generalize M.first (bl s) = R at *
      clear hb2 hba hi HM hln hz2 h2 hza
      go_enter Tryz.func17, Tryz.ntmps17
      go_wp2_with fail
      refine (HF1.out _).mono ?_
      rintro e w1 ⟨rfl, rfl⟩
      go_wp2_with fail
      refine (HF2.out _).mono ?_
      rintro e w1 ⟨rfl, rfl⟩
      go_wp2
      (try simp only [Exit.inBlock, Exit.then])
      refine bodyPost_ret (results_row2 rfl _ _ w.heap.size 24 (rqc [] [] [] false) (0, 0) _ rfl (RqIn.new w [] [] [] false) Tryz.underlying24 rfl Tryz.rqSize) rfl ?_
      exact ⟨by rw [HR.out]; rfl, bel_alloc _ _⟩
  · have HF1 := Lib.hid (find_no h1 (by omega))
    have HR := Lib.hid (show M.first (bl s) = none by unfold M.first; rw [if_pos (by omega)])
    generalize M.first (bl s) = R at *
    clear h1
    go_enter Tryz.func17, Tryz.ntmps17
    go_wp2_with fail
    refine (HF1.out _).mono ?_
    rintro e w1 ⟨rfl, rfl⟩
    go_wp2
    (try simp only [Exit.inBlock, Exit.then])
    refine bodyPost_ret (results_row2 rfl _ _ w.heap.size 24 (rqc [] [] [] false) (0, 0) _ rfl (RqIn.new w [] [] [] false) Tryz.underlying24 rfl Tryz.rqSize) rfl ?_
    exact ⟨by rw [HR.out]; rfl, bel_alloc _ _⟩
end Go.Proofs.YthgfjfljiadllaaGreatDoor
