/-
  What (*http.head).read does, by a contract.
-/
import Derived.Test.YtdbinhbmhkbfeaaGreatDoorHttpF
namespace Go.Proofs.YtdbinhbmhkbfeaaGreatDoor.M
open Go
/-- what the lines tell: the state with which they are refused, or the method, the path and the rest of the head -/
def hread : List (List UInt8) → Except Nat (List UInt8 × List UInt8 × Hd)
  | [] => .error 400
  | l0 :: r => match first l0 with
    | none => .error 400
    | some (m, pa) => match linesF ⟨false, 0, 0, 0⟩ r with
      | none => .error 400
      | some h => if h.hosts ≠ 1 ∨ 1 < h.lengths then .error 400 else if 8192 < h.length then .error 413 else .ok (m, pa, h)
theorem hread_first {l0 : List UInt8} {r : List (List UInt8)} (h : first l0 = none) : hread (l0 :: r) = .error 400 := by simp only [hread, h]
theorem hread_lines {l0 m pa : List UInt8} {r : List (List UInt8)} (h : first l0 = some (m, pa)) (h2 : linesF ⟨false, 0, 0, 0⟩ r = none) : hread (l0 :: r) = .error 400 := by simp only [hread, h, h2]
theorem hread_ok {l0 m pa : List UInt8} {r : List (List UInt8)} {hd : Hd} (h : first l0 = some (m, pa)) (h2 : linesF ⟨false, 0, 0, 0⟩ r = some hd) : hread (l0 :: r) = if hd.hosts ≠ 1 ∨ 1 < hd.lengths then .error 400 else if 8192 < hd.length then .error 413 else .ok (m, pa, hd) := by simp only [hread, h, h2]
theorem readLines_eq (p : List UInt8) (k : Nat) {ls : List (List UInt8)} (hne : ls ≠ []) : readLines p k ls = match hread ls with
    | .error s => (noRq, 0, s)
    | .ok (m, pa, h) => if p.length < k + h.length then (noRq, 0, 0) else (⟨m, pa, (p.drop k).take h.length, h.close⟩, k + h.length, 0) := by
  obtain ⟨l0, r, rfl⟩ := List.exists_cons_of_ne_nil hne
  simp only [readLines, hread]
  cases h1 : first l0 with
  | none => rfl
  | some mp =>
    obtain ⟨m, pa⟩ := mp
    simp only
    cases h2 : linesF ⟨false, 0, 0, 0⟩ r with
    | none => rfl
    | some h =>
      simp only [judge]
      by_cases h3 : h.hosts ≠ 1 ∨ 1 < h.lengths
      · simp only [if_pos h3]
      · simp only [if_neg h3]
        by_cases h4 : 8192 < h.length
        · simp only [if_pos h4]
        · simp only [if_neg h4]
theorem len9_bound {l : List UInt8} {n : Nat} (h : len9 l = some n) : n < 1000000000 := by
  unfold len9 at h
  split at h
  · rename_i h9
    rw [num_canon (by omega)] at h
    split at h
    · rename_i hc
      injection h with h
      have h1 := dval_lt _ ((canon_iff l).1 hc).2.1
      have h2 : (10 : Nat) ^ l.length ≤ 10 ^ 9 := Nat.pow_le_pow_right (by omega) h9
      omega
    · cases h
  · cases h
theorem field_few {h h' : Hd} {n v : List UInt8} (e : field h n v = some h') : h'.hosts ≤ h.hosts + 1 ∧ h'.lengths ≤ h.lengths + 1 ∧ (h.length < 1000000000 → h'.length < 1000000000) := by
  unfold field at e
  split at e
  · injection e with e; subst e; exact ⟨Nat.le_refl _, by simp, fun h => h⟩
  · split at e
    · split at e
      · rename_i x hx
        injection e with e; subst e; exact ⟨by simp, Nat.le_refl _, fun _ => len9_bound hx⟩
      · cases e
    · split at e
      · cases e
      · split at e <;> (injection e with e; subst e; exact ⟨by simp, by simp, fun h => h⟩)
theorem lineStep_few {h h' : Hd} {l : List UInt8} (e : lineStep h l = some h') : h'.hosts ≤ h.hosts + 1 ∧ h'.lengths ≤ h.lengths + 1 ∧ (h.length < 1000000000 → h'.length < 1000000000) := by
  unfold lineStep at e
  split at e
  · cases e
  · split at e
    · exact field_few e
    · cases e
end Go.Proofs.YtdbinhbmhkbfeaaGreatDoor.M
namespace Go.Proofs.YtdbinhbmhkbfeaaGreatDoor
open Go.RowKit Mem Go.Sort
set_option linter.unusedVariables false
set_option maxRecDepth 100000

def hst : Except Nat (List UInt8 × List UInt8 × M.Hd) → Nat | .error s => s | .ok _ => 0
/-- behind the reading of lines: the state; where there is none, the head knows them -/
def ReadDid (g : Nat) (o : Except Nat (List UInt8 × List UInt8 × M.Hd)) (w : World) (e : Ending) (w' : World) : Prop :=
  e = .returned (.int .i64 (hst o : Int)) ∧ Below g w w' ∧ ∀ m pa h, o = .ok (m, pa, h) → HdIn w' g m pa h ∧ h.length < 1000000000

set_option maxHeartbeats 4000000 in
theorem read_any (A : Option Addr) (n c g : Nat) (l0 : List UInt8) (r : List (List UInt8)) (w : World) (hR : RdV w g A n c (strs (l0 :: r))) (hH : HdIn w g [] [] ⟨false, 0, 0, 0⟩) (hs : ∀ l ∈ l0 :: r, l.length ≤ 2048) (hn : n ≤ 34) (HV : Hid (∀ w', Below g w w' → Vars w')) :
    Calls Tryz.prog 24 #[.pointer (some ⟨g, 0, none⟩), .slice A n c] w (ReadDid g (M.hread (l0 :: r)) w) := by
  have hlen : n = r.length + 1 := by have := hR.1; simpa using this
  obtain ⟨b, off, rfl, hb, q0⟩ := hR.at_ (k := 0) (by omega)
  rw [Nat.add_zero, strs_at (by simp)] at q0
  simp only [List.getElem_cons_zero] at q0
  have hg : g < w.heap.size := hH.lt
  have hg0 : g ≤ w.heap.size := Nat.le_of_lt hg
  have HF := Lib.hid (first_any ⟨l0.toArray⟩ g ⟨false, 0, 0, 0⟩ w (by rw [size_mk]; have := hs l0 (by simp); omega) hH (HV.out w (Below.refl _ _)))
  rw [bl_mk] at HF
  have HSH := Lib.hid (show ∀ l ∈ r, l.length ≤ 2048 from fun l hl => hs l (by simp [hl]))
  have HFR := Lib.hid (hR.from_ (k := 1) (by omega))
  have hcap := hR.2.1
  have hcm := hR.max
  clear hR hH hs
  cases hf : M.first l0 with
  | none =>
    have HX := Lib.hid (M.hread_first (r := r) hf)
    rw [hf] at HF
    clear hf
    go_enter Tryz.func24, Tryz.ntmps24
    go_wp2_with fail
    refine HF.out.mono ?_
    rintro e w1 ⟨rfl, hb1, -⟩
    go_wp2
    go_ret
    exact ⟨by rw [HX.out]; rfl, hb1, fun m pa h e => by rw [HX.out] at e; cases e⟩
  | some mp =>
    obtain ⟨m, pa⟩ := mp
    rw [hf] at HF
    have HF1 := Lib.hid hf
    clear hf
    go_enter Tryz.func24, Tryz.ntmps24
    go_wp2_with fail
    refine HF.out.mono ?_
    rintro e w1 ⟨rfl, hb1, hh1⟩
    have HH1 := Lib.hid (hh1 m pa rfl)
    have HB1 := Lib.hid hb1
    clear hb1 hh1 q0
    obtain ⟨k, rfl⟩ : ∃ k, n = k + 1 := ⟨n - 1, by omega⟩
    have HK := Lib.hid (show r.length = k by omega)
    clear hlen
    by_cases hc1 : c = 1
    · rw [if_pos hc1] at HFR
      have HRr := Lib.hid (show RdV w g (some ⟨b, off, none⟩) k (c - 1) (strs r) by have := HFR.out; rwa [Nat.add_sub_cancel] at this)
      clear HFR
      go_wp2
      go_loopw [16] (fun p wr => ∃ (i : Nat) (hd : M.Hd), p = .int .i64 (i : Int) ∧ i ≤ k ∧ Hid (M.linesF hd (r.drop i) = M.linesF ⟨false, 0, 0, 0⟩ r) ∧ hd.hosts ≤ i ∧ hd.lengths ≤ i ∧ hd.length < 1000000000 ∧ Hid (HdIn wr g m pa hd) ∧ Hid (Below g w wr)) (fun p _ => k - (intOf p).toNat)
      case atStart => exact ⟨0, ⟨false, 0, 0, 0⟩, rfl, by omega, Lib.hid rfl, by simp, by simp, by simp, HH1, HB1⟩
      case round =>
        obtain ⟨i, hd, rfl, hi, HLF, hh, hl, hL, HHr, HBr⟩ := hrel
        rename World => wr
        by_cases hlt : i < k
        · have hir : i < r.length := by have := HK.out; omega
          obtain ⟨b2, off2, e2, hb2, q⟩ := (HRr.out.below HBr.out).at_ hlt
          injection e2 with e2
          injection e2 with e2 e3 e4
          subst e2 e3
          rw [strs_at hir] at q
          have hsl := HSH.out r[i] (List.getElem_mem hir)
          have hdrop : r.drop i = r[i] :: r.drop (i + 1) := List.drop_eq_getElem_cons hir
          have hlf := HLF.out
          rw [hdrop] at hlf
          clear hdrop
          generalize r[i] = l at *
          have HL := Lib.hid (line_any ⟨l.toArray⟩ g m pa hd wr (by rw [size_mk]; omega) HHr.out (by omega) (by omega) (HV.out wr HBr.out) (fun w' hb' => HV.out w' (HBr.out.trans hb')))
          rw [bl_mk] at HL
          cases hls : M.lineStep hd l with
          | none =>
            rw [hls] at HL
            have HX := Lib.hid (M.hread_lines HF1.out (show M.linesF ⟨false, 0, 0, 0⟩ r = none by rw [← hlf]; unfold M.linesF; rw [hls]))
            clear hlf hls hsl
            go_wp2_with fail
            refine HL.out.mono ?_
            rintro e w2 ⟨rfl, hb9, -⟩
            go_wp2
            go_ret
            exact ⟨by rw [HX.out]; rfl, HBr.out.trans hb9, fun m pa h e => by rw [HX.out] at e; cases e⟩
          | some hd' =>
            rw [hls] at HL
            obtain ⟨f1, f2, f3⟩ := M.lineStep_few hls
            have HN := Lib.hid (show M.linesF hd' (r.drop (i + 1)) = M.linesF ⟨false, 0, 0, 0⟩ r by rw [← hlf]; conv => rhs; unfold M.linesF
                                                                                                    rw [hls])
            clear hlf hls hsl
            go_wp2_with fail
            refine HL.out.mono ?_
            rintro e w2 ⟨rfl, hb9, hh9⟩
            have HH9 := Lib.hid (hh9 hd' rfl)
            have HB9 := Lib.hid (HBr.out.trans hb9)
            clear hb9 hh9
            go_wp2
            go_roundw
            case rel => exact ⟨i + 1, hd', by go_num, by omega, HN, by omega, by omega, f3 hL, HH9, HB9⟩
            case measure => simp [intOf]; omega
        · have HLN := Lib.hid (show M.linesF ⟨false, 0, 0, 0⟩ r = some hd by
            rw [← HLF.out, List.drop_eq_nil_of_le (by have := HK.out; omega)]; rfl)
          have HX := Lib.hid (M.hread_ok HF1.out HLN.out)
          have k4 := HHr.out.c4
          have k5 := HHr.out.c5
          have k6 := HHr.out.c6
          obtain ⟨cl, a1, a2, a3⟩ := hd
          simp only at hh hl hL k4 k5 k6
          by_cases h1 : a1 = 1
          · exfalso; omega
          · have h1' : ((a1 : Int) != 1) = true := by rw [bne_iff_ne]; omega
            have HY := Lib.hid (show M.hread (l0 :: r) = .error 400 by rw [HX.out, if_pos (.inl h1)])
            go_wp2
            go_ret
            exact ⟨by rw [HY.out]; rfl, HBr.out, fun m pa h e => by rw [HY.out] at e; cases e⟩
    · rw [if_neg hc1] at HFR
      simp only [Option.map_some, add_none] at HFR
      have HRr := Lib.hid (show RdV w g (some ⟨b, off + 1, none⟩) k (c - 1) (strs r) by have := HFR.out; rwa [Nat.add_sub_cancel] at this)
      clear HFR
      go_wp2
      go_loopw [16] (fun p wr => ∃ (i : Nat) (hd : M.Hd), p = .int .i64 (i : Int) ∧ i ≤ k ∧ Hid (M.linesF hd (r.drop i) = M.linesF ⟨false, 0, 0, 0⟩ r) ∧ hd.hosts ≤ i ∧ hd.lengths ≤ i ∧ hd.length < 1000000000 ∧ Hid (HdIn wr g m pa hd) ∧ Hid (Below g w wr)) (fun p _ => k - (intOf p).toNat)
      case atStart => exact ⟨0, ⟨false, 0, 0, 0⟩, rfl, by omega, Lib.hid rfl, by simp, by simp, by simp, HH1, HB1⟩
      case round =>
        obtain ⟨i, hd, rfl, hi, HLF, hh, hl, hL, HHr, HBr⟩ := hrel
        rename World => wr
        by_cases hlt : i < k
        · have hir : i < r.length := by have := HK.out; omega
          obtain ⟨b2, off2, e2, hb2, q⟩ := (HRr.out.below HBr.out).at_ hlt
          injection e2 with e2
          injection e2 with e2 e3 e4
          subst e2 e3
          rw [strs_at hir] at q
          have hsl := HSH.out r[i] (List.getElem_mem hir)
          have hdrop : r.drop i = r[i] :: r.drop (i + 1) := List.drop_eq_getElem_cons hir
          have hlf := HLF.out
          rw [hdrop] at hlf
          clear hdrop
          generalize r[i] = l at *
          have HL := Lib.hid (line_any ⟨l.toArray⟩ g m pa hd wr (by rw [size_mk]; omega) HHr.out (by omega) (by omega) (HV.out wr HBr.out) (fun w' hb' => HV.out w' (HBr.out.trans hb')))
          rw [bl_mk] at HL
          cases hls : M.lineStep hd l with
          | none =>
            rw [hls] at HL
            have HX := Lib.hid (M.hread_lines HF1.out (show M.linesF ⟨false, 0, 0, 0⟩ r = none by rw [← hlf]; unfold M.linesF; rw [hls]))
            clear hlf hls hsl
            go_wp2_with fail
            refine HL.out.mono ?_
            rintro e w2 ⟨rfl, hb9, -⟩
            go_wp2
            go_ret
            exact ⟨by rw [HX.out]; rfl, HBr.out.trans hb9, fun m pa h e => by rw [HX.out] at e; cases e⟩
          | some hd' =>
            rw [hls] at HL
            obtain ⟨f1, f2, f3⟩ := M.lineStep_few hls
            have HN := Lib.hid (show M.linesF hd' (r.drop (i + 1)) = M.linesF ⟨false, 0, 0, 0⟩ r by rw [← hlf]; conv => rhs; unfold M.linesF
                                                                                                    rw [hls])
            clear hlf hls hsl
            go_wp2_with fail
            refine HL.out.mono ?_
            rintro e w2 ⟨rfl, hb9, hh9⟩
            have HH9 := Lib.hid (hh9 hd' rfl)
            have HB9 := Lib.hid (HBr.out.trans hb9)
            clear hb9 hh9
            go_wp2
            go_roundw
            case rel => exact ⟨i + 1, hd', by go_num, by omega, HN, by omega, by omega, f3 hL, HH9, HB9⟩
            case measure => simp [intOf]; omega
        · have HLN := Lib.hid (show M.linesF ⟨false, 0, 0, 0⟩ r = some hd by
            rw [← HLF.out, List.drop_eq_nil_of_le (by have := HK.out; omega)]; rfl)
          have HX := Lib.hid (M.hread_ok HF1.out HLN.out)
          have k4 := HHr.out.c4
          have k5 := HHr.out.c5
          have k6 := HHr.out.c6
          obtain ⟨cl, a1, a2, a3⟩ := hd
          simp only at hh hl hL k4 k5 k6
          by_cases h1 : a1 = 1
          · subst h1
            replace k4 : wr.cell? ⟨g, 4, none⟩ = some (.int .i64 1) := k4
            by_cases h2 : 1 < a2
            · have HY := Lib.hid (show M.hread (l0 :: r) = .error 400 by rw [HX.out, if_pos (.inr h2)])
              go_wp2
              go_ret
              exact ⟨by rw [HY.out]; rfl, HBr.out, fun m pa h e => by rw [HY.out] at e; cases e⟩
            · have h2' : a2 ≤ 1 := by omega
              by_cases h3 : 8192 < a3
              · have HY := Lib.hid (show M.hread (l0 :: r) = .error 413 by rw [HX.out, if_neg (by simp; omega), if_pos h3])
                go_wp2
                go_ret
                exact ⟨by rw [HY.out]; rfl, HBr.out, fun m pa h e => by rw [HY.out] at e; cases e⟩
              · have h3' : a3 ≤ 8192 := by omega
                have HY := Lib.hid (show M.hread (l0 :: r) = .ok (m, pa, ⟨cl, 1, a2, a3⟩) by rw [HX.out, if_neg (by simp; omega), if_neg h3])
                go_wp2
                go_ret
                exact ⟨by rw [HY.out]; rfl, HBr.out, fun m pa h e => by
                  rw [HY.out] at e
                  injection e with e
                  injection e with e1 e
                  injection e with e2 e3
                  subst e1 e2 e3
                  exact ⟨HHr.out, by simp only; omega⟩⟩
          · have h1' : ((a1 : Int) != 1) = true := by rw [bne_iff_ne]; omega
            have HY := Lib.hid (show M.hread (l0 :: r) = .error 400 by rw [HX.out, if_pos (.inl h1)])
            go_wp2
            go_ret
            exact ⟨by rw [HY.out]; rfl, HBr.out, fun m pa h e => by rw [HY.out] at e; cases e⟩
end Go.Proofs.YtdbinhbmhkbfeaaGreatDoor
