/-
  Plan, by a contract.
-/
import Derived.Test.YtghnelfgnfhclaaMetaX
namespace Go.Proofs.Ytghnelfgnfhclaa
namespace M
theorem maxOf_top (l : List Int) : ∀ k, k < l.length → Lib.maxOf (l.take (k + 1)) = l.getD (top l k) 0 := by
  intro k
  induction k with
  | zero => intro h; exact Lib.maxOf_one l
  | succ k ih =>
    intro h
    rw [Lib.maxOf_step l (k + 1) (by omega) h, ih (by omega), show top l (k + 1) = if l.getD (top l k) 0 < l.getD (k + 1) 0 then k + 1 else top l k from rfl]
    generalize top l k = p
    by_cases hx : l.getD p 0 < l.getD (k + 1) 0
    · rw [if_pos hx, Int.max_def]; split <;> omega
    · rw [if_neg hx, Int.max_def]; split <;> omega
theorem minOf_low (l : List Int) : ∀ k, k < l.length → Lib.minOf (l.take (k + 1)) = l.getD (low l k) 0 := by
  intro k
  induction k with
  | zero => intro h; exact Lib.minOf_one l
  | succ k ih =>
    intro h
    rw [Lib.minOf_step l (k + 1) (by omega) h, ih (by omega), show low l (k + 1) = if l.getD (k + 1) 0 < l.getD (low l k) 0 then k + 1 else low l k from rfl]
    generalize low l k = p
    by_cases hx : l.getD (k + 1) 0 < l.getD p 0
    · rw [if_pos hx, Int.min_def]; split <;> omega
    · rw [if_neg hx, Int.min_def]; split <;> omega
/-- the move that is told, and whether it is one -/
def pS (t : T) : Nat := if moves t = true then which t else 0
def pF (t : T) : Nat := if moves t = true then from_ t else 0
def pG (t : T) : Nat := if moves t = true then to_ t else 0
theorem which_before {t : T} {i : Nat} (h : i < which t) (hl : i < t.rows.length) : mayMove (from_ t) (to_ t) t.rows[i] = false := by
  have := List.not_of_lt_findIdx (p := mayMove (from_ t) (to_ t)) h
  simpa using this
theorem plan_math {t : T} (hf : form t = true) (nn : Nat) (hnn : t.nodes = (nn : Int)) :
    Lib.maxOf ((loads t).take nn) = (loads t).getD (from_ t) 0 ∧ Lib.minOf ((loads t).take nn) = (loads t).getD (to_ t) 0 ∧
    Lib.idxOf ((loads t).take nn) ((loads t).getD (from_ t) 0) = (from_ t : Int) ∧ Lib.idxOf ((loads t).take nn) ((loads t).getD (to_ t) 0) = (to_ t : Int) ∧
    (0 ≤ (loads t).getD (from_ t) 0 ∧ (loads t).getD (from_ t) 0 ≤ 8) ∧ (0 ≤ (loads t).getD (to_ t) 0 ∧ (loads t).getD (to_ t) 0 ≤ 8) ∧ from_ t < nn ∧ to_ t < nn := by
  obtain ⟨h1, h5, hr1, hr8⟩ := form_nodes hf
  have hn : t.nodes.toNat = nn := by omega
  have hl : (loads t).length = nn := by rw [loads_len, hn]
  have e : nn = (nn - 1) + 1 := by omega
  have hft := from_lt h1
  have htt := to_lt h1
  rw [hn] at hft htt
  refine ⟨?_, ?_, ?_, ?_, ?_, ?_, hft, htt⟩
  · unfold from_; rw [hn]; conv => lhs; rw [e]
    exact maxOf_top _ _ (by omega)
  · unfold to_; rw [hn]; conv => lhs; rw [e]
    exact minOf_low _ _ (by omega)
  · refine Lib.idxOf_hit _ nn (from_ t) _ hft (by omega) rfl (fun j hj => ?_)
    have := top_first (loads t) (t.nodes.toNat - 1) j hj
    unfold from_; omega
  · refine Lib.idxOf_hit _ nn (to_ t) _ htt (by omega) rfl (fun j hj => ?_)
    have := low_first (loads t) (t.nodes.toNat - 1) j hj
    unfold to_; omega
  · rw [loads_at t (by omega)]; have := cnt_le t.rows (from_ t : Int); omega
  · rw [loads_at t (by omega)]; have := cnt_le t.rows (to_ t : Int); omega
end M
open Go.RowKit Mem Go.ChangeShapes
set_option linter.unusedVariables false
set_option maxRecDepth 100000

def PlanOf (t : M.T) (w : World) (e : Ending) (w' : World) : Prop :=
  e = .returned (.tuple #[.int .i64 (M.pS t : Int), .int .i64 (M.pF t : Int), .int .i64 (M.pG t : Int), .bool (M.moves t)]) ∧ Below w.heap.size w w'

theorem plan_no {t : M.T} (h : M.moves t = false) : Ending.returned (.tuple #[.int .i64 0, .int .i64 0, .int .i64 0, .bool false]) = .returned (.tuple #[.int .i64 (M.pS t : Int), .int .i64 (M.pF t : Int), .int .i64 (M.pG t : Int), .bool (M.moves t)]) := by
  unfold M.pS M.pF M.pG
  rw [h]
  rfl
theorem plan_yes {t : M.T} (h : M.moves t = true) : Ending.returned (.tuple #[.int .i64 (M.which t : Int), .int .i64 (M.from_ t : Int), .int .i64 (M.to_ t : Int), .bool true]) = .returned (.tuple #[.int .i64 (M.pS t : Int), .int .i64 (M.pF t : Int), .int .i64 (M.pG t : Int), .bool (M.moves t)]) := by
  unfold M.pS M.pF M.pG
  rw [h]
  rfl

set_option maxHeartbeats 4000000 in
theorem plan_any (A : Option Addr) (n cp : Nat) (t : M.T) (w : World) (ht : TabIs w w.heap.size A n cp t) (hi : I64 t.nodes) : Calls Try.prog 22 #[.agg #[.int .i64 t.nodes, .slice A n cp]] w (PlanOf t w) := by
  have HT := Lib.hid ht
  have HFM := Lib.hid (fun (W : World) (h : Below w.heap.size w W) => form_any _ t W ((ht.on h).rdt hi))
  have HLD := Lib.hid (fun (W : World) (h : Below w.heap.size w W) hf => loads_any A n cp t W (ht.on h) hf)
  have HLN := Lib.hid ht.len
  obtain ⟨hcap, hmax, _⟩ := ht.bounds
  clear ht
  obtain ⟨fm, hfm⟩ : ∃ fm, fm = M.form t := ⟨_, rfl⟩
  have HF := Lib.hid hfm
  rw [← hfm] at HFM HLD
  clear hfm
  obtain ⟨nz, hnz⟩ : ∃ nz, nz = t.nodes := ⟨_, rfl⟩
  have HNZ := Lib.hid hnz
  rw [← hnz] at HFM HLD ⊢
  clear hnz hi
  obtain ⟨w1, hw1⟩ : ∃ w1, w1 = w.alloc (.cells #[.int .i64 nz, .slice A n cp] 24) := ⟨_, rfl⟩
  have hbx : w1.heap[w.heap.size]? = some (.cells #[.int .i64 nz, .slice A n cp] 24 (0, 0)) := by rw [hw1]; exact heapNew (w := w) _
  have HB := Lib.hid (show Below w.heap.size w w1 by rw [hw1]; exact bel_alloc' w _)
  have HBX := Lib.hid hbx
  have HW1 := Lib.hid hw1.symm
  clear hw1 hbx
  have c0 : w1.cell? ⟨w.heap.size, 0, none⟩ = some (.int .i64 nz) := cellAt 0 HBX.out
  have c1 : w1.cell? ⟨w.heap.size, 1, none⟩ = some (.slice A n cp) := cellAt 1 HBX.out
  go_enter Try.func22, Try.ntmps22
  go_upto_region 1 with (fail)
  rw [HW1.out]
  go_wp2_with fail
  refine (HFM.out w1 HB.out).mono ?_
  rintro e w2 ⟨rfl, hb2⟩
  have HB2 := Lib.hid (HB.out.trans (hb2.mono HB.out.size))
  have HBX2 := Lib.hid ((hb2.block w.heap.size (heapLt HBX.out)).trans HBX.out)
  clear hb2 c0 c1
  have c0 : w2.cell? ⟨w.heap.size, 0, none⟩ = some (.int .i64 nz) := cellAt 0 HBX2.out
  have c1 : w2.cell? ⟨w.heap.size, 1, none⟩ = some (.slice A n cp) := cellAt 1 HBX2.out
  cases fm
  · have hm : M.moves t = false := by unfold M.moves; rw [← HF.out]; rfl
    have HM := Lib.hid hm
    clear hm
    go_wp2
    refine bodyPost_ret (v := .tuple #[.int .i64 0, .int .i64 0, .int .i64 0, .bool false]) (by simp [results, Try.results22, go_sem]) rfl ?_
    exact ⟨plan_no HM.out, HB2.out⟩
  · obtain ⟨hq1, hq5, hqr1, hqr8⟩ := M.form_nodes HF.out.symm
    obtain ⟨nn, hnn⟩ : ∃ nn : Nat, nz = (nn : Int) := ⟨nz.toNat, by have := HNZ.out; omega⟩
    obtain ⟨m1, m2, m3, m4, ⟨m5, m6⟩, ⟨m7, m8⟩, m9, m10⟩ := M.plan_math HF.out.symm nn (by rw [← HNZ.out, hnn])
    have HNT := Lib.hid (show t.nodes.toNat = nn by rw [← HNZ.out, hnn, Int.toNat_natCast])
    have HLL := Lib.hid (show (M.loads t).length = nn by rw [M.loads_len, HNT.out])
    have hnn0 : 0 < nn := by have := HNZ.out; omega
    have hnn5 : nn ≤ 5 := by have := HNZ.out; omega
    have hn8 : n ≤ 8 := by have := HLN.out; omega
    have HMV := Lib.hid (show M.moves t = decide (2 ≤ (M.loads t).getD (M.from_ t) 0 - (M.loads t).getD (M.to_ t) 0) by unfold M.moves; rw [← HF.out]; rfl)
    have HM1 := Lib.hid m1; have HM2 := Lib.hid m2; have HM3 := Lib.hid m3; have HM4 := Lib.hid m4
    clear m1 m2 m3 m4 hq1 hq5 hqr1 hqr8 hnn
    unfold LoadsOf at HLD
    rw [HNT.out] at HLD
    have HLZ : Hid (∃ zs, zs = M.loads t) := Lib.hid ⟨_, rfl⟩
    obtain ⟨zs, hzs⟩ := HLZ.out
    clear HLZ
    have HZS := Lib.hid hzs
    rw [← hzs] at HLD HLL HMV HM1 HM2 HM3 HM4 m5 m6 m7 m8
    clear hzs
    obtain ⟨ff, hff⟩ : ∃ ff, ff = M.from_ t := ⟨_, rfl⟩
    obtain ⟨gg, hgg⟩ : ∃ gg, gg = M.to_ t := ⟨_, rfl⟩
    have HFF := Lib.hid hff; have HGG := Lib.hid hgg
    rw [← hff] at HMV HM1 HM3 m5 m6 m9
    rw [← hgg] at HMV HM2 HM4 m7 m8 m10
    clear hff hgg
    obtain ⟨hi, hhi⟩ : ∃ hi, hi = zs.getD ff 0 := ⟨_, rfl⟩
    obtain ⟨lo, hlo⟩ : ∃ lo, lo = zs.getD gg 0 := ⟨_, rfl⟩
    rw [← hhi] at HMV HM1 HM3 m5 m6
    rw [← hlo] at HMV HM2 HM4 m7 m8
    clear hhi hlo
    have hwr : IntKind.i64.wrap (hi - lo) = hi - lo := by rw [IntKind.wrap_i64]; omega
    go_wp2_with fail
    refine (HLD.out w2 HB2.out (by first | rfl | trivial)).mono ?_
    rintro e w3 ⟨g, rfl, hown, hb3⟩
    have HB3 := Lib.hid (HB2.out.trans (hb3.mono HB2.out.size))
    have HBX3 := Lib.hid ((hb3.block w.heap.size (heapLt HBX2.out)).trans HBX2.out)
    have HRZ := Lib.hid (fun j (hj : j < zs.length) => (hown.atI hj).1)
    clear hb3 hown c0 c1
    have HMX := Lib.hid (Try.slices_Max_int g 0 nn nn zs w3 hnn0 (by rw [HLL.out]; exact Nat.le_refl _) (by omega) (fun j hj => by rw [Nat.zero_add]; exact HRZ.out j hj))
    have HMN := Lib.hid (Try.slices_Min_int g 0 nn nn zs w3 hnn0 (by rw [HLL.out]; exact Nat.le_refl _) (by omega) (fun j hj => by rw [Nat.zero_add]; exact HRZ.out j hj))
    have HIX := Lib.hid (fun x => Try.slices_Index_int g 0 nn nn zs x w3 (by rw [HLL.out]; exact Nat.le_refl _) (by omega) (fun j hj => by rw [Nat.zero_add]; exact HRZ.out j hj))
    rw [HM1.out] at HMX
    rw [HM2.out] at HMN
    have c0 : w3.cell? ⟨w.heap.size, 0, none⟩ = some (.int .i64 nz) := cellAt 0 HBX3.out
    have c1 : w3.cell? ⟨w.heap.size, 1, none⟩ = some (.slice A n cp) := cellAt 1 HBX3.out
    go_wp2_with fail
    refine HMX.out.mono ?_
    rintro e w4 ⟨rfl, rfl⟩
    go_wp2_with fail
    refine HMN.out.mono ?_
    rintro e w5 ⟨rfl, rfl⟩
    rcases (Decidable.em (2 ≤ hi - lo)).symm with hd | hd
    · have HM := Lib.hid (show M.moves t = false by rw [HMV.out, decide_eq_false hd])
      go_wp2
      refine bodyPost_ret (v := .tuple #[.int .i64 0, .int .i64 0, .int .i64 0, .bool false]) (by simp [results, Try.results22, go_sem]) rfl ?_
      exact ⟨plan_no HM.out, HB3.out⟩
    · have HM := Lib.hid (show M.moves t = true by rw [HMV.out, decide_eq_true hd])
      have HIX1 := Lib.hid (HIX.out hi)
      have HIX2 := Lib.hid (HIX.out lo)
      rw [HM3.out] at HIX1
      rw [HM4.out] at HIX2
      go_wp2_with fail
      refine HIX1.out.mono ?_
      rintro e w6 ⟨rfl, rfl⟩
      go_wp2_with fail
      refine HIX2.out.mono ?_
      rintro e w7 ⟨rfl, rfl⟩
      clear HIX1 HIX2 HIX HMX HMN hwr
      have HWL := Lib.hid (M.which_lt HM.out)
      have HWR := Lib.hid (M.which_row HWL.out)
      have HWB := Lib.hid (fun i h hl => M.which_before (t := t) (i := i) h hl)
      rw [← HFF.out, ← HGG.out] at HWR HWB
      go_wp2
      clear c0 c1
      go_loopw [35] (fun p wr => ∃ i : Nat, p = .int .i64 (i : Int) ∧ i ≤ n ∧ Hid (i ≤ M.which t) ∧ Hid (Below w7.heap.size w7 wr)) (fun p _ => n - (intOf p).toNat)
      case atStart => exact ⟨0, rfl, Nat.zero_le _, Lib.hid (Nat.zero_le _), Lib.hid (Below.refl _ _)⟩
      case round =>
        obtain ⟨i, rfl, hin, HIW, HBR⟩ := hrel
        rename World => wr
        by_cases hlt : i < n
        · have hrb : i < t.rows.length := by have := HLN.out; omega
          have HBW := Lib.hid (HB3.out.trans (HBR.out.mono HB3.out.size))
          obtain ⟨b, off, x, rfl, hbb, hat, hrx, hrow⟩ := HT.out.row hlt
          have hat := hat.keep (w' := wr) hbb (fun p hp => HBW.out.cell hp)
          have hxr : x.r = t.rows[i] := by rw [List.getElem?_eq_getElem hrb] at hrow; exact (Option.some.inj hrow).symm
          have HXR := Lib.hid hxr
          obtain ⟨⟨rv, term, prim, sync⟩, ax, m, cx⟩ := x
          obtain ⟨k0, k1, k2, k3⟩ := hat
          simp only at k0 k1 k2 k3
          have HB5 := Lib.hid (HBR.out.alloc HBR.out.size (.cells #[.int .u64 (rv : Int), .int .u64 (term : Int), .int .i64 prim, .slice ax m cx] 42))
          have HB6 := Lib.hid (HBW.out.alloc HBW.out.size (.cells #[.int .u64 (rv : Int), .int .u64 (term : Int), .int .i64 prim, .slice ax m cx] 42))
          have HC1 := Lib.hid (contains_any _ m cx ax sync (ff : Int) (wr.alloc (.cells #[.int .u64 (rv : Int), .int .u64 (term : Int), .int .i64 prim, .slice ax m cx] 42)) (hrx.sl.below HB6.out))
          have HC2 := Lib.hid (contains_any _ m cx ax sync (gg : Int) (wr.alloc (.cells #[.int .u64 (rv : Int), .int .u64 (term : Int), .int .i64 prim, .slice ax m cx] 42)) (hrx.sl.below HB6.out))
          have HMW := Lib.hid (show M.mayMove ff gg t.rows[i] = (sync.contains (ff : Int) && !sync.contains (gg : Int)) by rw [← hxr]; rfl)
          have HWI := Lib.hid (show i = M.which t → M.mayMove ff gg t.rows[i] = true from fun e => by have := HWR.out; subst e; exact this)
          have HWJ := Lib.hid (show i < M.which t → M.mayMove ff gg t.rows[i] = false from fun e => HWB.out i e hrb)
          rw [HMW.out] at HWI HWJ
          clear hrx hrow hxr HMW
          generalize sync.contains (ff : Int) = q1 at *
          generalize sync.contains (gg : Int) = q2 at *
          rcases Decidable.em (i = M.which t) with he | he
          · have hq := HWI.out he
            have HE := Lib.hid he
            rw [Bool.and_eq_true, Bool.not_eq_true'] at hq
            obtain ⟨rfl, rfl⟩ := hq
            clear he HWI HWJ
            go_wp2_with fail
            refine HC1.out.mono ?_
            rintro e w8 ⟨rfl, rfl⟩
            go_wp2_with fail
            refine HC2.out.mono ?_
            rintro e w9 ⟨rfl, rfl⟩
            go_wp2
            refine bodyPost_ret (v := .tuple #[.int .i64 (i : Int), .int .i64 (ff : Int), .int .i64 (gg : Int), .bool true]) (by simp [results, Try.results22, go_sem]) rfl ?_
            refine ⟨?_, HB6.out⟩
            rw [← plan_yes HM.out, ← HE.out, ← HFF.out, ← HGG.out]
          · have hq := HWJ.out (by have := HIW.out; omega)
            have HN := Lib.hid (show i + 1 ≤ M.which t by have := HIW.out; omega)
            clear he HWI HWJ HIW
            cases q1
            · go_wp2_with fail
              refine HC1.out.mono ?_
              rintro e w8 ⟨rfl, rfl⟩
              go_wp2
              exact ⟨⟨i + 1, by go_num, by omega, HN, HB5⟩, by simp [intOf]; omega⟩
            · rw [Bool.true_and, Bool.not_eq_false'] at hq
              subst hq
              go_wp2_with fail
              refine HC1.out.mono ?_
              rintro e w8 ⟨rfl, rfl⟩
              go_wp2_with fail
              refine HC2.out.mono ?_
              rintro e w9 ⟨rfl, rfl⟩
              go_wp2
              exact ⟨⟨i + 1, by go_num, by omega, HN, HB5⟩, by simp [intOf]; omega⟩
        · exfalso
          have h1 := HIW.out
          have h2 := HWL.out
          have h3 := HLN.out
          omega
end Go.Proofs.Ytghnelfgnfhclaa
