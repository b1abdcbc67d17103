/-
  The law WireOrder.
-/
import Derived.Test.YtmhkpdfmjapdnaaWireG
namespace Go.Proofs.Ytmhkpdfmjapdnaa
open Go.RowKit Mem
set_option linter.unusedVariables false

abbrev Xs := List (Pk × Option Addr × Nat × Nat)
def pks (xs : Xs) : List Pk := xs.map (·.1)
theorem pks_len (xs : Xs) : (pks xs).length = xs.length := by simp [pks]
theorem pks_at {xs : Xs} {i : Nat} (h : i < xs.length) : (pks xs)[i]'(by rw [pks_len]; exact h) = xs[i].1 := by simp [pks]

def Law.ex (w : World) (D : Nat) (ps : List Pk) (wr : World) : Prop := ∃ F, Law w F D ps wr
theorem Law.sent {w wr w' : World} {F : Nat → Prop} {D : Nat} {ps : List Pk} {r : Value} {e : Ending} (h : NetDid F D ps r wr e w') (hF : ∀ k, F k → w.heap.size ≤ k) (hb : Below w.heap.size w wr) : e = .returned r ∧ Law.ex w D ps w' := by
  obtain ⟨h1, F', h2, h3, h4⟩ := h.step hF hb
  exact ⟨h1, F', h2, h3, h4⟩

theorem take_snoc {xs : Xs} {i : Nat} (h : i < xs.length) : (pks xs).take i ++ [xs[i].1] = (pks xs).take (i + 1) := by
  rw [List.take_succ_eq_append_getElem (by rw [pks_len]; exact h), pks_at h]

theorem drop_front {xs : Xs} {i : Nat} (h : i < xs.length) : ((pks xs).drop i)[0]'(by rw [List.length_drop, pks_len]; omega) = xs[i].1 ∧ ((pks xs).drop i).eraseIdx 0 = (pks xs).drop (i + 1) := by
  constructor
  · simp [pks]
  · rw [List.eraseIdx_zero, List.tail_drop]
theorem take_back {xs : Xs} {m : Nat} (h : m < xs.length) : ((pks xs).take (m + 1))[m]'(by rw [List.length_take, pks_len]; omega) = xs[m].1 ∧ ((pks xs).take (m + 1)).eraseIdx m = (pks xs).take m := by
  constructor
  · simp [pks]
  · have hm : min m (pks xs).length = m := by rw [pks_len]; omega
    rw [List.take_succ_eq_append_getElem (by rw [pks_len]; exact h), List.eraseIdx_append_of_length_le (by simp; omega), List.length_take, hm]
    simp

set_option maxRecDepth 100000 in
set_option maxHeartbeats 2000000 in
theorem wireOrder_front (A : Option Addr) (n c : Nat) (xs : Xs) (w : World) (h : RdPs w w.heap.size A n c xs) :
    Calls Try.prog 6 #[.slice A n c, .bool true] w (Yes w) := by
  have hn := h.1; have hc := h.2.1; have hcm := h.2.2.1
  have HX := Lib.hid h
  have HN := Lib.hid hn
  clear h hn
  by_cases hbig : 100 < n
  · go_enter Try.func6, Try.ntmps6
    go_wp2_with fail
    refine (awake_any _).mono ?_
    rintro e w1 ⟨rfl, hb1⟩
    go_wp2_with fail
    refine (awake_any _).mono ?_
    rintro e w2 ⟨rfl, hb2⟩
    go_wp2
    go_ret
    exact ⟨rfl, hb1.trans (hb2.mono hb1.size)⟩
  · go_enter Try.func6, Try.ntmps6
    go_wp2_with fail
    refine (awake_any _).mono ?_
    rintro e w1 ⟨rfl, hb1⟩
    go_wp2_with fail
    refine (new_any w1).mono ?_
    rintro e w2 ⟨D, F, rfl, hd, hF, hb2⟩
    have HL0 := Lib.hid (show Law.ex w D ((pks xs).take 0) w2 from ⟨F, hd, fun k hk => Nat.le_trans hb1.size (hF k hk), hb1.trans (hb2.mono hb1.size)⟩)
    clear hd hF hb1 hb2
    go_wp2_with fail
    go_loopw [6] (fun p wr => ∃ i : Nat, p = .int .i64 i ∧ i ≤ n ∧ Hid (Law.ex w D ((pks xs).take i) wr)) (fun p _ => n - (intOf p).toNat)
    case atStart => exact ⟨0, rfl, Nat.zero_le _, HL0⟩
    case round =>
      obtain ⟨i, rfl, hi, HL⟩ := hrel
      rename World => wr
      by_cases hlt : i < n
      · obtain ⟨F1, hnet, hF1, hb1⟩ := HL.out
        have hxi : i < xs.length := by have := HN.out; omega
        obtain ⟨b, off, rfl, hbl, hcell⟩ := (HX.out.below hb1).2.2.2.2 (by omega)
        obtain ⟨k0, k1, k2⟩ := hcell i hxi
        obtain ⟨hq, hrd, hrc⟩ := (HX.out.below hb1).2.2.2.1 xs[i] (List.getElem_mem hxi)
        have HS := Lib.hid (send_any D w.heap.size F1 ((pks xs).take i) xs[i].1 xs[i].2.1 xs[i].2.2.1 xs[i].2.2.2 wr hnet hrd hb1.size (by have := hrd.cap; omega) (by have := pks_len xs; have := HN.out; simp; omega))
        have HT := Lib.hid (take_snoc hxi)
        have HF1 := Lib.hid hF1; have HB1 := Lib.hid hb1
        clear hnet hF1 hb1 hcell hq hrd hrc
        generalize xs[i] = x at *
        obtain ⟨q, A', n', c'⟩ := x
        simp only at k0 k1 k2
        go_wp2_with fail
        refine HS.out.mono ?_
        rintro e w3 hdid
        rw [HT.out] at hdid
        obtain ⟨rfl, hl⟩ := Law.sent hdid HF1.out HB1.out
        have HL2 := Lib.hid hl
        clear hl hdid
        go_wp2
        go_roundw
        case rel => exact ⟨i + 1, by go_num, by omega, HL2⟩
        case measure => simp [intOf]; omega
      · obtain rfl : n = i := by omega
        have HLd := Lib.hid (show Law.ex w D ((pks xs).drop 0) wr by
          have := HL.out
          rwa [List.take_of_length_le (by rw [pks_len]; have := HN.out; omega)] at this)
        clear HL HL0
        go_wp2_with fail
        go_loopw [7] (fun p wr => ∃ i : Nat, p = .int .i64 i ∧ i ≤ n ∧ Hid (Law.ex w D ((pks xs).drop i) wr)) (fun p _ => n - (intOf p).toNat)
        case atStart => exact ⟨0, rfl, Nat.zero_le _, HLd⟩
        case round =>
          obtain ⟨i, rfl, hi2, HL⟩ := hrel
          rename World => wa
          by_cases hlt2 : i < n
          · obtain ⟨F1, hnet, hF1, hb1⟩ := HL.out
            have hxi : i < xs.length := by have := HN.out; omega
            obtain ⟨b, off, rfl, hbl, hcell⟩ := (HX.out.below hb1).2.2.2.2 (by omega)
            obtain ⟨k0, k1, k2⟩ := hcell i hxi
            have HRD := Lib.hid (fun wz (hz : Below w.heap.size w wz) => ((HX.out.below hz).2.2.2.1 xs[i] (List.getElem_mem hxi)).2.1)
            obtain ⟨hd0, hd1⟩ := drop_front hxi
            have hdl : 0 < ((pks xs).drop i).length := by rw [List.length_drop, pks_len]; omega
            have htk := take_any D 0 F1 ((pks xs).drop i) (wa.alloc (.cells #[.int .i64 xs[i].1.src, .int .i64 xs[i].1.dst, .slice xs[i].2.1 xs[i].2.2.1 xs[i].2.2.2] 29)) (hnet.alloc _) hdl (by have := pks_len xs; have := HN.out; simp; omega)
            rw [hd0, hd1] at htk
            have HTK := Lib.hid htk
            have HF1 := Lib.hid hF1; have HB1 := Lib.hid hb1; have HNF := Lib.hid (show ¬ F1 wa.heap.size from fun hk => by have := hnet.foot hk; omega)
            have hwa : w.heap.size ≤ wa.heap.size := hb1.size
            clear hnet hF1 hb1 hcell htk hd0 hd1 hdl
            generalize xs[i] = x at *
            obtain ⟨q, A', n', c'⟩ := x
            simp only at k0 k1 k2 HTK HRD
            go_wp2_with fail
            refine HTK.out.mono ?_
            rintro e w3 ⟨A2, c2, rfl, hown2, F2, hnet2, hsub, hnb, ht⟩
            have hw3 : wa.heap.size + 1 ≤ w3.heap.size := by have := ht.size; simpa using this
            have hw3' : wa.heap.size < w3.heap.size := by omega
            have hT : Below w.heap.size w w3 := ((HB1.out.alloc hwa _).trans (ht.below (by simp; omega) HF1.out))
            have v0 := (ht.cell (p := ⟨wa.heap.size, 0, none⟩) (by simp) HNF.out).trans ((cellAt 0 (heapNew (w := wa) _)).trans (rfl : _ = some (Value.int .i64 q.src)))
            have v1 := (ht.cell (p := ⟨wa.heap.size, 1, none⟩) (by simp) HNF.out).trans ((cellAt 1 (heapNew (w := wa) _)).trans (rfl : _ = some (Value.int .i64 q.dst)))
            have v2 := (ht.cell (p := ⟨wa.heap.size, 2, none⟩) (by simp) HNF.out).trans ((cellAt 2 (heapNew (w := wa) _)).trans (rfl : _ = some (Value.slice A' n' c')))
            obtain ⟨A3, c3, hv3, hrd3⟩ := hown2.open_
            injection hv3 with e1 e2 e3
            subst e1 e3
            have HSM := Lib.hid (same_eq q A2 A' q.data.length c2 n' c' w3.heap.size (w3.alloc (.cells #[.int .i64 q.src, .int .i64 q.dst, .slice A2 q.data.length c2] 29)) (hrd3.alloc (Nat.le_refl _) _) (((HRD.out w3 hT).more hT.size).alloc (Nat.le_refl _) _) (by simp))
            have HN2 := Lib.hid hnet2; have HT := Lib.hid hT
            have HF2 := Lib.hid (show ∀ k, F2 k → w.heap.size ≤ k from fun k hk => HF1.out k (hsub k hk))
            clear hown2 hnet2 hsub hnb ht hT hrd3 e2
            go_wp2_with fail
            refine HSM.out.mono ?_
            rintro e w4 ⟨rfl, hb4⟩
            have HL2 := Lib.hid (show Law.ex w D ((pks xs).drop (i + 1)) w4 from ⟨F2, (HN2.out.alloc _).below hb4, HF2.out, (HT.out.alloc HT.out.size _).trans (hb4.mono (by have := HT.out.size; simp; omega))⟩)
            clear hb4
            go_wp2
            go_roundw
            case rel => exact ⟨i + 1, by go_num, by omega, HL2⟩
            case measure => simp [intOf]; omega
          · obtain ⟨F1, hnet, hF1, hb1⟩ := HL.out
            have hnil : (pks xs).drop i = [] := List.drop_eq_nil_of_le (by rw [pks_len]; have := HN.out; omega)
            rw [hnil] at hnet
            have HLN := Lib.hid (len_any D F1 [] wa hnet)
            have HB1 := Lib.hid hb1
            clear hnet hF1 hb1 hnil
            go_wp2_with fail
            refine HLN.out.mono ?_
            rintro e w3 ⟨rfl, rfl⟩
            rw [show (([] : List Pk).length : Int) = 0 from rfl]
            go_wp2
            go_ret
            exact ⟨rfl, HB1.out⟩
set_option maxRecDepth 100000 in
set_option maxHeartbeats 2000000 in
theorem wireOrder_back (A : Option Addr) (n c : Nat) (xs : Xs) (w : World) (h : RdPs w w.heap.size A n c xs) :
    Calls Try.prog 6 #[.slice A n c, .bool false] w (Yes w) := by
  have hn := h.1; have hc := h.2.1; have hcm := h.2.2.1
  have HX := Lib.hid h
  have HN := Lib.hid hn
  clear h hn
  by_cases hbig : 100 < n
  · go_enter Try.func6, Try.ntmps6
    go_wp2_with fail
    refine (awake_any _).mono ?_
    rintro e w1 ⟨rfl, hb1⟩
    go_wp2_with fail
    refine (awake_any _).mono ?_
    rintro e w2 ⟨rfl, hb2⟩
    go_wp2
    go_ret
    exact ⟨rfl, hb1.trans (hb2.mono hb1.size)⟩
  · go_enter Try.func6, Try.ntmps6
    go_wp2_with fail
    refine (awake_any _).mono ?_
    rintro e w1 ⟨rfl, hb1⟩
    go_wp2_with fail
    refine (new_any w1).mono ?_
    rintro e w2 ⟨D, F, rfl, hd, hF, hb2⟩
    have HL0 := Lib.hid (show Law.ex w D ((pks xs).take 0) w2 from ⟨F, hd, fun k hk => Nat.le_trans hb1.size (hF k hk), hb1.trans (hb2.mono hb1.size)⟩)
    clear hd hF hb1 hb2
    go_wp2_with fail
    go_loopw [6] (fun p wr => ∃ i : Nat, p = .int .i64 i ∧ i ≤ n ∧ Hid (Law.ex w D ((pks xs).take i) wr)) (fun p _ => n - (intOf p).toNat)
    case atStart => exact ⟨0, rfl, Nat.zero_le _, HL0⟩
    case round =>
      obtain ⟨i, rfl, hi, HL⟩ := hrel
      rename World => wr
      by_cases hlt : i < n
      · obtain ⟨F1, hnet, hF1, hb1⟩ := HL.out
        have hxi : i < xs.length := by have := HN.out; omega
        obtain ⟨b, off, rfl, hbl, hcell⟩ := (HX.out.below hb1).2.2.2.2 (by omega)
        obtain ⟨k0, k1, k2⟩ := hcell i hxi
        obtain ⟨hq, hrd, hrc⟩ := (HX.out.below hb1).2.2.2.1 xs[i] (List.getElem_mem hxi)
        have HS := Lib.hid (send_any D w.heap.size F1 ((pks xs).take i) xs[i].1 xs[i].2.1 xs[i].2.2.1 xs[i].2.2.2 wr hnet hrd hb1.size (by have := hrd.cap; omega) (by have := pks_len xs; have := HN.out; simp; omega))
        have HT := Lib.hid (take_snoc hxi)
        have HF1 := Lib.hid hF1; have HB1 := Lib.hid hb1
        clear hnet hF1 hb1 hcell hq hrd hrc
        generalize xs[i] = x at *
        obtain ⟨q, A', n', c'⟩ := x
        simp only at k0 k1 k2
        go_wp2_with fail
        refine HS.out.mono ?_
        rintro e w3 hdid
        rw [HT.out] at hdid
        obtain ⟨rfl, hl⟩ := Law.sent hdid HF1.out HB1.out
        have HL2 := Lib.hid hl
        clear hl hdid
        go_wp2
        go_roundw
        case rel => exact ⟨i + 1, by go_num, by omega, HL2⟩
        case measure => simp [intOf]; omega
      · obtain rfl : n = i := by omega
        have HLd := Lib.hid (show Law.ex w D ((pks xs).take n) wr from HL.out)
        clear HL HL0
        go_wp2_with fail
        go_loopw [7] (fun p wr => ∃ i m : Nat, p = .int .i64 i ∧ i ≤ n ∧ n ≤ m + i ∧ m + i ≤ n ∧ Hid (Law.ex w D ((pks xs).take m) wr)) (fun p _ => n - (intOf p).toNat)
        case atStart => exact ⟨0, n, rfl, Nat.zero_le _, by omega, by omega, HLd⟩
        case round =>
          obtain ⟨i, m, rfl, hi2, hm1, hm2, HL⟩ := hrel
          rename World => wa
          by_cases hlt2 : i < n
          · obtain ⟨F1, hnet, hF1, hb1⟩ := HL.out
            obtain ⟨m', rfl⟩ : ∃ m', m = m' + 1 := ⟨m - 1, by omega⟩
            have hxi : i < xs.length := by have := HN.out; omega
            have hxm : m' < xs.length := by have := HN.out; omega
            obtain ⟨b, off, rfl, hbl, hcell⟩ := (HX.out.below hb1).2.2.2.2 (by omega)
            obtain ⟨j0, j1, j2⟩ := hcell i hxi
            obtain ⟨k0, k1, k2⟩ := hcell m' hxm
            have HRD := Lib.hid (fun wz (hz : Below w.heap.size w wz) => ((HX.out.below hz).2.2.2.1 xs[m'] (List.getElem_mem hxm)).2.1)
            obtain ⟨hd0, hd1⟩ := take_back hxm
            have hdl : m' < ((pks xs).take (m' + 1)).length := by rw [List.length_take, pks_len]; omega
            have hlen : ((pks xs).take (m' + 1)).length = m' + 1 := by rw [List.length_take, pks_len]; omega
            have hln := len_any D F1 ((pks xs).take (m' + 1)) (wa.alloc (.cells #[.int .i64 xs[i].1.src, .int .i64 xs[i].1.dst, .slice xs[i].2.1 xs[i].2.2.1 xs[i].2.2.2] 29)) (hnet.alloc _)
            rw [hlen, show ((m' + 1 : Nat) : Int) = (m' : Int) + 1 by omega] at hln
            have HLN := Lib.hid hln
            have htk := take_any D m' F1 ((pks xs).take (m' + 1)) (wa.alloc (.cells #[.int .i64 xs[m'].1.src, .int .i64 xs[m'].1.dst, .slice xs[m'].2.1 xs[m'].2.2.1 xs[m'].2.2.2] 29)) (hnet.alloc _) hdl (by rw [hlen]; omega)
            rw [hd0, hd1] at htk
            have HTK := Lib.hid htk
            have HF1 := Lib.hid hF1; have HB1 := Lib.hid hb1; have HNF := Lib.hid (show ¬ F1 wa.heap.size from fun hk => by have := hnet.foot hk; omega)
            have hwa : w.heap.size ≤ wa.heap.size := hb1.size
            clear hnet hF1 hb1 hcell htk hd0 hd1 hdl hln hlen
            generalize xs[m'] = x at *
            generalize xs[i] = xi at *
            obtain ⟨q, A', n', c'⟩ := x
            obtain ⟨qi, Ai, ni, ci⟩ := xi
            simp only at k0 k1 k2 j0 j1 j2 HTK HRD HLN
            have hbl2 : b < wa.heap.size := by omega
            have hj1 : (0 : Int) ≤ (n : Int) - 1 - (i : Int) := by omega
            have hj2 : (n : Int) - 1 - (i : Int) < (n : Int) := by omega
            have hj5 : ((n : Int) - 1 - (i : Int)).toNat = m' := by omega
            have hj6 : (m' : Int) + 1 - 1 = (m' : Int) := by omega
            go_wp2_with fail
            refine HLN.out.mono ?_
            rintro e w3 ⟨rfl, rfl⟩
            go_wp2_with fail
            refine HTK.out.mono ?_
            rintro e w3 ⟨A2, c2, rfl, hown2, F2, hnet2, hsub, hnb, ht⟩
            clear hj1 hj2 hj5 hj6
            have hw3 : wa.heap.size + 1 ≤ w3.heap.size := by have := ht.size; simpa using this
            have hw3' : wa.heap.size < w3.heap.size := by omega
            have hT : Below w.heap.size w w3 := ((HB1.out.alloc hwa _).trans (ht.below (by simp; omega) HF1.out))
            have v0 := (ht.cell (p := ⟨wa.heap.size, 0, none⟩) (by simp) HNF.out).trans ((cellAt 0 (heapNew (w := wa) _)).trans (rfl : _ = some (Value.int .i64 q.src)))
            have v1 := (ht.cell (p := ⟨wa.heap.size, 1, none⟩) (by simp) HNF.out).trans ((cellAt 1 (heapNew (w := wa) _)).trans (rfl : _ = some (Value.int .i64 q.dst)))
            have v2 := (ht.cell (p := ⟨wa.heap.size, 2, none⟩) (by simp) HNF.out).trans ((cellAt 2 (heapNew (w := wa) _)).trans (rfl : _ = some (Value.slice A' n' c')))
            obtain ⟨A3, c3, hv3, hrd3⟩ := hown2.open_
            injection hv3 with e1 e2 e3
            subst e1 e3
            have HSM := Lib.hid (same_eq q A2 A' q.data.length c2 n' c' w3.heap.size (w3.alloc (.cells #[.int .i64 q.src, .int .i64 q.dst, .slice A2 q.data.length c2] 29)) (hrd3.alloc (Nat.le_refl _) _) (((HRD.out w3 hT).more hT.size).alloc (Nat.le_refl _) _) (by simp))
            have HN2 := Lib.hid hnet2; have HT := Lib.hid hT
            have HF2 := Lib.hid (show ∀ k, F2 k → w.heap.size ≤ k from fun k hk => HF1.out k (hsub k hk))
            clear hown2 hnet2 hsub hnb ht hT hrd3 e2
            go_wp2_with fail
            refine HSM.out.mono ?_
            rintro e w4 ⟨rfl, hb4⟩
            have HL2 := Lib.hid (show Law.ex w D ((pks xs).take m') w4 from ⟨F2, (HN2.out.alloc _).below hb4, HF2.out, (HT.out.alloc HT.out.size _).trans (hb4.mono (by have := HT.out.size; simp; omega))⟩)
            clear hb4
            go_wp2
            go_roundw
            case rel => exact ⟨i + 1, m', by go_num, by omega, by omega, by omega, HL2⟩
            case measure => simp [intOf]; omega
          · obtain ⟨F1, hnet, hF1, hb1⟩ := HL.out
            have hnil : (pks xs).take m = [] := by rw [show m = 0 by omega]; rfl
            rw [hnil] at hnet
            have HLN := Lib.hid (len_any D F1 [] wa hnet)
            have HB1 := Lib.hid hb1
            clear hnet hF1 hb1 hnil
            go_wp2_with fail
            refine HLN.out.mono ?_
            rintro e w3 ⟨rfl, rfl⟩
            rw [show (([] : List Pk).length : Int) = 0 from rfl]
            go_wp2
            go_ret
            exact ⟨rfl, HB1.out⟩

theorem wireOrder_any (A : Option Addr) (n c : Nat) (xs : Xs) (front : Bool) (w : World) (h : RdPs w w.heap.size A n c xs) :
    Calls Try.prog 6 #[.slice A n c, .bool front] w (Yes w) := by
  cases front
  · exact wireOrder_back A n c xs w h
  · exact wireOrder_front A n c xs w h
end Go.Proofs.Ytmhkpdfmjapdnaa
