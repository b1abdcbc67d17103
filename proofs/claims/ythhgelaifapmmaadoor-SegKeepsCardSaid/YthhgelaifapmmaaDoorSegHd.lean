/-
  What the document's Open of segments does, by a contract; the law SegOpens.
-/
import Derived.Test.YthhgelaifapmmaaDoorSegHc
namespace Go.Proofs.YthhgelaifapmmaaDoor.M
theorem segOpen_err {l : List UInt8} (h : (segOpen l).1 = 0) : Go.Proofs.YthhgelaifapmmaaDoor.segErr (segOpen l).2 = 0 := by
  unfold segOpen at h ⊢
  split
  · rename_i h1; rw [if_pos h1] at h; simp at h
  · rename_i h1; rw [if_neg h1] at h
    split
    · rename_i h2; rw [if_pos h2] at h; simp at h
    · rename_i h2; rw [if_neg h2] at h
      split
      · rename_i h3; rw [if_pos h3] at h; simp at h
      · rename_i h3; rw [if_neg h3] at h
        cases hd : rdDocs (l.take (l.length - 4)) 4 with
        | none => rw [hd] at h; simp at h
        | some ds =>
          rw [hd] at h
          simp only at h ⊢
          by_cases h4 : Go.Proofs.YthhgelaifapmmaaDoor.segErr ds ≠ 0
          · rw [if_pos h4] at h; simp at h
          · rw [if_neg h4] at h ⊢
            split
            · rename_i h5; rw [if_pos h5] at h; simp at h
            · simpa using h4
theorem formB_text {id text : T} (h : formB id text = true) : text.length ≤ 512 := by
  unfold formB at h
  simp only [Bool.and_eq_true, decide_eq_true_eq] at h
  exact h.1.2
end Go.Proofs.YthhgelaifapmmaaDoor.M
namespace Go.Proofs.YthhgelaifapmmaaDoor
open Go.RowKit Mem Go.ChangeShapes Go.Sort
set_option linter.unusedVariables false
set_option maxRecDepth 100000

/-- an error's number, or the entries in memory of their own -/
def RefOpens (r : Nat × List M.D) (w : World) (e : Ending) (w' : World) : Prop :=
  ∃ v, e = .returned (.tuple #[v, .int .i64 (r.1 : Int)]) ∧ Below w.heap.size w w' ∧ (r.1 = 0 → DRow w' w.heap.size v r.2)
theorem RefOpens.bad {k : Nat} {w w' : World} (hk : k ≠ 0) (hb : Below w.heap.size w w') : RefOpens (k, []) w (.returned (.tuple #[.slice none 0 0, .int .i64 (k : Int)])) w' := ⟨_, rfl, hb, fun h => absurd h hk⟩
theorem seg_same {ds : List M.D} {l : List UInt8} {z : Nat} (hz : l.length = z + 4) (hs : l.drop z = M.four (M.sum (l.take z))) : M.segBytes ds = l ↔ l.take z = M.segPre ds := by
  constructor
  · intro h
    have h1 : M.segBytes ds = M.segPre ds ++ M.four (M.sum (M.segPre ds)) := rfl
    have h2 : (M.segBytes ds).length = (M.segPre ds).length + 4 := by rw [h1, List.length_append, M.four_len]
    rw [h, hz] at h2
    rw [← h, h1, List.take_append_of_le_length (by omega), List.take_of_length_le (by omega)]
  · intro h
    show M.segPre ds ++ M.four (M.sum (M.segPre ds)) = l
    rw [← h, ← hs, List.take_append_drop]

set_option maxHeartbeats 16000000 in
theorem refOpen_any (A : Option Addr) (n c : Nat) (l : List UInt8) (w : World) (h : Rd w w.heap.size A n c l) (hn : n ≤ 20000) (hT : Tabs w) :
    Calls Tryd.prog 16 #[.slice A n c] w (RefOpens (M.segOpen l) w) := by
  obtain ⟨i0, hi, hz0, hz1, hz2⟩ := info_of Tryd.infoDoc
  have HI := Lib.hid hi; have HZ0 := Lib.hid hz0; have HZ1 := Lib.hid hz1; have HZ2 := Lib.hid hz2
  clear hi hz0 hz1 hz2
  have HL := Lib.hid h.len
  have hc := h.cap; have hcm := h.max
  have HBB := Lib.hid (Below.refl w.heap.size w)
  by_cases h8 : n < 8
  · have HX := Lib.hid (show M.segOpen l = (3, []) by unfold M.segOpen; rw [if_pos (by have := HL.out; omega)])
    clear h
    go_enter Tryd.func16, Tryd.ntmps16
    go_wp2
    go_ret2
    rw [HX.out]
    exact RefOpens.bad (by omega) (HBB.out)
  · obtain ⟨b, off, rfl, hb, hcell⟩ := h.2.2.2 (by omega)
    have H := Lib.hid h; have HT := Lib.hid hT
    have k4 := run_str (P := Tryd.prog) w _ 24 9 5 Tryd.underlying24 Tryd.underlying5 Tryd.underlying9 (some ⟨b, off, none⟩) 4 c (l.take 4) (h.upto (k := 4) (by omega))
    clear h hcell hT
    have hc4 : (4 : Int) ≤ (c : Int) := by omega
    by_cases hm : l.take 4 = [83, 69, 71, 49]
    · have HOP := Lib.hid (show M.segOpen l = if l.drop (l.length - 4) ≠ M.four (M.sum (l.take (l.length - 4))) then (5, []) else match M.rdDocs (l.take (l.length - 4)) 4 with | none => (3, []) | some ds => if segErr ds ≠ 0 then (3, []) else if l.take (l.length - 4) ≠ M.segPre ds then (3, []) else (0, ds) by unfold M.segOpen; rw [if_neg (by have := HL.out; omega), if_neg (by simpa using hm)]; rfl)
      rw [hm] at k4
      obtain ⟨z, rfl⟩ : ∃ z, n = z + 4 := ⟨n - 4, by omega⟩
      have hz : l.length - 4 = z := by have := HL.out; omega
      rw [hz] at HOP
      have HPR := Lib.hid (H.out.upto (k := z) (by omega))
      have HSF := Lib.hid (show Rd w w.heap.size (some ⟨b, off + z, none⟩) 4 (c - z) (l.drop z) by
        have := H.out.from_ (k := z) (by omega)
        rw [if_neg (by omega), Nat.add_sub_cancel_left, Option.map_some, add_none] at this
        exact this)
      have HSAME := Lib.hid (fun (ds : List M.D) (hs : l.drop z = M.four (M.sum (l.take z))) => seg_same (ds := ds) (by have := HL.out; omega) hs)
      have HSU := Lib.hid (fun (W : World) (hb : Below w.heap.size w W) => ref_sum_any (some ⟨b, off, none⟩) z c w.heap.size (l.take z) W (HPR.out.below hb))
      have hsl := M.sum_lt (l.take z)
      obtain ⟨sm, hsm⟩ : ∃ sm, M.sum (l.take z) = sm := ⟨_, rfl⟩
      rw [hsm] at HSU hsl HOP HSAME
      have HFO := Lib.hid (fun (W : World) => ref_four_any sm W hsl)
      have HFL := Lib.hid (M.four_len sm)
      obtain ⟨fo, hfo⟩ : ∃ fo, M.four sm = fo := ⟨_, rfl⟩
      rw [hfo] at HFO HFL HOP HSAME
      have hwz : IntKind.i64.wrap (((z + 4 : Nat) : Int) - 4) = (z : Int) := by rw [show ((z + 4 : Nat) : Int) - 4 = (z : Int) by omega]; exact IntWalk.i64_in _ (by omega)
      have b1 : (z : Int) ≤ (c : Int) := by omega
      have b2 : (z : Int) ≤ (z : Int) + 4 := by omega
      have b3 : ¬ c = z := by omega
      have b4 : (0 : Int) ≤ (z : Int) := by omega
      have HBD := Lib.hid (show Below w.heap.size w w.drew from ⟨HBB.out.os, HBB.out.tape, HBB.out.output, HBB.out.size, HBB.out.block⟩)
      have HC1 := Lib.hid (fun (W : World) (hW : Below w.heap.size w W) => show CvS w (.slice (some ⟨b, off + z, none⟩) 4 (c - z)) ⟨(l.drop z).toArray⟩ W from ⟨run_str (P := Tryd.prog) W _ 24 9 5 Tryd.underlying24 Tryd.underlying5 Tryd.underlying9 _ _ _ _ (HSF.out.below hW), hW⟩)
      have HRU := Lib.hid (fun (W : World) (hW : Below w.heap.size w W) => ref_readUvarint_any (some ⟨b, off, none⟩) z c w.heap.size (l.take z) 4 W (HPR.out.below hW) hW.size (by omega) (by omega))
      have HR32 := Lib.hid (fun (W : World) (hW : Below w.heap.size w W) (p : Nat) (hp : p ≤ 2147483648) => ref_readText_any (some ⟨b, off, none⟩) z c w.heap.size (l.take z) (p : Int) 32 W (HPR.out.below hW) hW.size (by omega) (by omega) (by omega) (by omega))
      have HR512 := Lib.hid (fun (W : World) (hW : Below w.heap.size w W) (p : Nat) (hp : p ≤ 2147483648) => ref_readText_any (some ⟨b, off, none⟩) z c w.heap.size (l.take z) (p : Int) 512 W (HPR.out.below hW) hW.size (by omega) (by omega) (by omega) (by omega))
      have HCL := Lib.hid (fun (W : World) (hW : Below w.heap.size w W) => show CvS w (.slice (some ⟨b, off, none⟩) (z + 4) c) ⟨l.toArray⟩ W from ⟨run_str (P := Tryd.prog) W _ 24 9 5 Tryd.underlying24 Tryd.underlying5 Tryd.underlying9 _ _ _ _ (H.out.below hW), hW⟩)
      have HRV := Lib.hid (fun (W : World) (hW : Below w.heap.size w W) (p : Nat) (hp : p ≤ 2147483648) => ref_readUvarint_any (some ⟨b, off, none⟩) z c w.heap.size (l.take z) (p : Int) W (HPR.out.below hW) hW.size (by omega) (by omega))
      have HZA := Lib.hid (fun (v : Nat) (hv : v < 18446744073709551616) (W : World) => ref_zag_any (v : Int) W (by omega) (by omega))
      have HRN := Lib.hid (show (l.take z).length ≤ 1073741824 by rw [List.length_take]; omega)
      clear hsm hfo hm
      by_cases hs : l.drop z = fo
      · have hq : (l.drop z == fo) = true := by rw [hs]; simp
        have HOPS := Lib.hid (show M.segOpen l = match M.rdDocs (l.take z) 4 with | none => (3, []) | some ds => if segErr ds ≠ 0 then (3, []) else if l.take z ≠ M.segPre ds then (3, []) else (0, ds) by rw [HOP.out, if_neg (by simpa using hs)])
        have HSM2 := Lib.hid (fun ds => HSAME.out ds hs)
        clear hs HOP HSAME
        go_enter Tryd.func16, Tryd.ntmps16
        go_wp2_with fail
        go_region_held (fun W => (convert 24 9 (.slice (some ⟨b, off + z, none⟩) 4 (c - z))).run Tryd.prog W = .ok (.string ⟨(l.drop z).toArray⟩) W ∧ Below w.heap.size w W)
          (first | exact hHeld | exact HC1.out _ HBD.out | exact hV2)
          (first
            | (go_at_call 39; refine (HSU.out _ HBD.out).mono ?_; rintro e w1 ⟨rfl, rfl⟩)
            | (go_at_call 38; refine (HFO.out _).mono ?_; rintro e w2 ⟨v2, rfl, hO2, hb2⟩; obtain ⟨A2, c2, hv2, hr2⟩ := hO2.open_; rw [HFL.out] at hv2 hr2; subst hv2; have hcv2 := run_str (P := Tryd.prog) w2 _ 24 9 5 Tryd.underlying24 Tryd.underlying5 Tryd.underlying9 A2 4 c2 fo hr2; have hbb2 := HBD.out.trans (hb2.mono HBD.out.size); have hV2 := HC1.out _ hbb2))
        have HB2 := Lib.hid hbb2
        clear hV2 hbb2 hcv2 hb2 hO2 hr2
        have HC := Lib.hid (HRU.out _ HB2.out)
        obtain ⟨ra, hra⟩ : ∃ ra, M.rdAt (l.take z) 4 = ra := ⟨_, rfl⟩
        have ha2 : ra.2.1 ≤ 2147483648 := by rw [← hra]; exact rdAtTop _ _ HRN.out
        have hb1 : ra.1 < 18446744073709551616 := by rw [← hra]; exact rdAtSmall _ _
        have HE := Lib.hid (show M.rdDocs (l.take z) 4 = if ra.2.2 ≠ 0 ∨ 4096 < ra.1 then none else M.rdDocsFrom (l.take z) ra.1 ra.2.1 by unfold M.rdDocs; rw [hra])
        rw [hra] at HC
        clear hra HRU
        obtain ⟨a1, a2, a3⟩ := ra
        unfold TellsB at HC
        simp only at HC HE ha2 hb1
        go_wp2_with fail
        refine HC.out.mono ?_
        rintro e w3 ⟨rfl, hb3⟩
        have HB3 := Lib.hid (HB2.out.trans (hb3.mono HB2.out.size))
        clear hb3 HC
        by_cases he : a3 ≠ 0 ∨ 4096 < a1
        · have HX := Lib.hid (show M.segOpen l = (3, []) by rw [HOPS.out, HE.out, if_pos he])
          by_cases he1 : a3 = 0
          · subst he1
            have he2 : (4096 : Int) < (a1 : Int) := by omega
            go_wp2
            go_ret2
            rw [HX.out]
            exact RefOpens.bad (by omega) HB3.out
          · have hq3 : ((a3 : Int) != 0) = true := by rw [bne_iff_ne]; omega
            have hq4 : ((a3 : Int) == 0) = false := by simp; omega
            go_wp2
            go_ret2
            rw [HX.out]
            exact RefOpens.bad (by omega) HB3.out
        · obtain rfl : a3 = 0 := by omega
          have he2 : ¬ (4096 : Int) < (a1 : Int) := by omega
          have hwa : IntKind.i64.wrap (a1 : Int) = (a1 : Int) := IntWalk.i64_in _ (by omega)
          have HG0 := Lib.hid (show M.rdDocs (l.take z) 4 = (M.rdDocsFrom (l.take z) (a1 - 0) a2).map ([] ++ ·) by rw [HE.out, if_neg he]; simp)
          have H0 := Lib.hid (show DInv w (.slice none 0 0) [] w3 from ⟨World.ownsRow_nil _ _ _ _, HB3.out⟩)
          clear HE he
          obtain ⟨L, hLL⟩ : ∃ L, l.take z = L := ⟨_, rfl⟩
          rw [hLL] at HR32 HR512 HRV HRN HG0
          go_wp2
          go_loopw [6, 8, 9] (fun q o p wr => ∃ (i m c9 pl : Nat) (A9 : Option Addr) (ds : List M.D), p = .int .i64 (i : Int) ∧ o = .slice A9 m c9 ∧ q = .int .i64 (pl : Int) ∧ i ≤ a1 ∧ m = i ∧ pl ≤ 2147483648 ∧ Hid (ds.length = m) ∧ Hid (M.rdDocs L 4 = (M.rdDocsFrom L (a1 - i) pl).map (ds ++ ·)) ∧ Hid (DInv w (.slice A9 m c9) ds wr)) (fun _ _ p _ => a1 - (intOf p).toNat)
          case atStart => exact ⟨0, 0, 0, a2, none, [], rfl, rfl, rfl, Nat.zero_le _, rfl, ha2, Lib.hid rfl, HG0, H0⟩
          case round =>
            obtain ⟨i, m, c9, pl, A9, ds, rfl, rfl, rfl, hi, hmi, hpl, HM, HG, HV⟩ := hrel
            rename World => wr
            obtain ⟨hrow, hb⟩ := HV.out
            have HROW := Lib.hid hrow; have HB := Lib.hid hb
            clear hrow hb
            subst hmi
            by_cases hlt : m < a1
            · have hil : (m : Int) < (a1 : Int) := by omega
              have hk : a1 - m = (a1 - (m + 1)) + 1 := by omega
              have HST := Lib.hid (show M.rdDocs L 4 = if (M.rdDoc L (pl : Int)).2.2 ≠ 0 then none else (M.rdDocsFrom L (a1 - (m + 1)) (M.rdDoc L (pl : Int)).2.1).map ((ds ++ [(M.rdDoc L (pl : Int)).1]) ++ ·) by
                rw [HG.out, hk, M.rdDocsFrom_succ]
                split
                · rfl
                · rw [Option.map_map]; congr 1; funext x; simp)
              clear hk
              have HT1 := Lib.hid (fun (W : World) (hW : Below w.heap.size w W) => HR32.out W hW pl hpl)
              obtain ⟨sa, hsa⟩ : ∃ sa, M.rdText L (pl : Int) 32 = sa := ⟨_, rfl⟩
              have hs2 : sa.2.1 ≤ 2147483648 := by rw [← hsa]; exact rdTextTop _ _ _ HRN.out
              have HT2 := Lib.hid (fun (W : World) (hW : Below w.heap.size w W) => HRV.out W hW sa.2.1 hs2)
              obtain ⟨sb, hsb⟩ : ∃ sb, M.rdAt L (sa.2.1 : Int) = sb := ⟨_, rfl⟩
              have hsb2 : sb.2.1 ≤ 2147483648 := by rw [← hsb]; exact rdAtTop _ _ HRN.out
              have hsb1 : sb.1 < 18446744073709551616 := by rw [← hsb]; exact rdAtSmall _ _
              have HT3 := Lib.hid (fun (W : World) (hW : Below w.heap.size w W) => HR512.out W hW sb.2.1 hsb2)
              obtain ⟨sc, hsc⟩ : ∃ sc, M.rdText L (sb.2.1 : Int) 512 = sc := ⟨_, rfl⟩
              have hsc2 : sc.2.1 ≤ 2147483648 := by rw [← hsc]; exact rdTextTop _ _ _ HRN.out
              have HED := Lib.hid (show M.rdDoc L (pl : Int) = if sa.2.2 ≠ 0 then (⟨[], 0, []⟩, 0, sa.2.2) else if sb.2.2 ≠ 0 then (⟨[], 0, []⟩, 0, sb.2.2) else if sc.2.2 ≠ 0 then (⟨[], 0, []⟩, 0, sc.2.2) else (⟨sa.1, M.zag sb.1, sc.1⟩, sc.2.1, 0) by unfold M.rdDoc; rw [hsa, hsb, hsc])
              have HZ := Lib.hid (HZA.out sb.1 hsb1)
              rw [hsa] at HT1
              rw [hsb] at HT2
              rw [hsc] at HT3
              clear hsa hsb hsc
              obtain ⟨t1, p1, e1⟩ := sa
              obtain ⟨u1, p2, e2⟩ := sb
              obtain ⟨t3, p3, e3⟩ := sc
              unfold TellsT at HT1 HT3
              unfold TellsB at HT2
              simp only at HT1 HT2 HT3 HED HZ hs2 hsb2 hsc2
              go_wp2_with fail
              refine (HT1.out _ HB.out).mono ?_
              rintro e w4 ⟨rfl, hb4⟩
              have HB4 := Lib.hid (HB.out.trans (hb4.mono HB.out.size))
              have HRW4 := Lib.hid (HROW.out.below hb4)
              clear hb4
              by_cases he1 : e1 = 0
              · subst he1
                go_wp2_with fail
                refine (HT2.out _ HB4.out).mono ?_
                rintro e w5 ⟨rfl, hb5⟩
                have HB5 := Lib.hid (HB4.out.trans (hb5.mono HB4.out.size))
                have HRW5 := Lib.hid (HRW4.out.below hb5)
                clear hb5
                by_cases he2' : e2 = 0
                · subst he2'
                  go_wp2_with fail
                  refine (HT3.out _ HB5.out).mono ?_
                  rintro e w6 ⟨rfl, hb6⟩
                  have HB6 := Lib.hid (HB5.out.trans (hb6.mono HB5.out.size))
                  have HRW6 := Lib.hid (HRW5.out.below hb6)
                  clear hb6
                  by_cases he3 : e3 = 0
                  · subst he3
                    have HS2 := Lib.hid (show M.rdDocs L 4 = (M.rdDocsFrom L (a1 - (m + 1)) p3).map ((ds ++ [⟨t1, M.zag (u1 : Int), t3⟩]) ++ ·) by rw [HST.out, HED.out]; simp)
                    clear HST HED
                    go_wp2_with fail
                    refine (HZ.out _).mono ?_
                    rintro e w6' ⟨rfl, hw6⟩
                    subst hw6
                    obtain ⟨zz, hzz⟩ : ∃ zz, M.zag (u1 : Int) = zz := ⟨_, rfl⟩
                    rw [hzz] at HS2 ⊢
                    have HV6 := Lib.hid (show DInv w (.slice A9 m c9) ds w6 from ⟨HRW6.out, HB6.out⟩)
                    have HRM := Lib.hid (show World.ownsRow w6 w.heap.size 52 3 (.slice A9 m c9) m (dcells ds) by have := HV6.out.1; unfold DRow at this; rwa [HM.out] at this)
                    have hw6s := HB6.out.size
                    clear hzz
                    go_wp2_with (at_builtin; go_must (refine wpList_append_lies _ rfl (.tmp 95) (.tmp 101) _ rfl w.heap.size 52 i0 _ 3 40 Tryd.underlying22 HI.out HZ0.out HZ1.out HZ2.out rfl (by omega) (.slice A9 m c9) m (dcells ds) rfl (HRM.out.alloc _) ⟨w6.heap.size, 0, none⟩ 1 1 [.string ⟨t1.toArray⟩, .int .i64 zz, .string ⟨t3.toArray⟩] rfl rfl (World.news_of_block (cs := #[.string ⟨t1.toArray⟩, .int .i64 zz, .string ⟨t3.toArray⟩]) (t := 52) (fr := (0, 0)) (heap_alloc_new w6 _)) (by simp [Value.oneCell']) (by omega) (by simp only [maxLen]; omega) (by omega) (by simp; omega) (w6.heap.size + 1) (by simp) ?_))
                    intro g9 cap9 w9 hown9 hgrow9 hat9 hlt9
                    have HV9 := Lib.hid (HV6.out.next (x := ⟨t1, zz, t3⟩) HM.out hown9 hgrow9)
                    have HM9 := Lib.hid (show (ds ++ [(⟨t1, zz, t3⟩ : M.D)]).length = m + 1 by rw [List.length_append, HM.out]; rfl)
                    clear hown9 hgrow9 hat9
                    go_wp2
                    go_roundw
                    case rel => exact ⟨m + 1, m + 1, cap9, p3, _, _, by go_num, rfl, rfl, by omega, rfl, hsc2, HM9, HS2, HV9⟩
                    case measure => simp [intOf]; omega
                  · have hq4 : ((e3 : Int) == 0) = false := by simp; omega
                    have hq3 : ((e3 : Int) != 0) = true := by rw [bne_iff_ne]; omega
                    have HX := Lib.hid (show M.segOpen l = (3, []) by rw [HOPS.out, hLL, HST.out, HED.out]; simp [he3])
                    go_wp2
                    go_ret2
                    rw [HX.out]
                    exact RefOpens.bad (by omega) HB6.out
                · have hq4 : ((e2 : Int) == 0) = false := by simp; omega
                  have hq3 : ((e2 : Int) != 0) = true := by rw [bne_iff_ne]; omega
                  have HX := Lib.hid (show M.segOpen l = (3, []) by rw [HOPS.out, hLL, HST.out, HED.out]; simp [he2'])
                  go_wp2
                  go_ret2
                  rw [HX.out]
                  exact RefOpens.bad (by omega) HB5.out
              · have hq4 : ((e1 : Int) == 0) = false := by simp; omega
                have hq3 : ((e1 : Int) != 0) = true := by rw [bne_iff_ne]; omega
                have HX := Lib.hid (show M.segOpen l = (3, []) by rw [HOPS.out, hLL, HST.out, HED.out]; simp [he1])
                go_wp2
                go_ret2
                rw [HX.out]
                exact RefOpens.bad (by omega) HB4.out
            · obtain rfl : m = a1 := by omega
              have HS2 := Lib.hid (show M.rdDocs L 4 = some ds by rw [HG.out, Nat.sub_self]; simp [M.rdDocsFrom])
              have HOQ := Lib.hid (show M.segOpen l = if segErr ds ≠ 0 then (3, []) else if L ≠ M.segPre ds then (3, []) else (0, ds) by rw [HOPS.out, hLL, HS2.out])
              have HTM := Lib.hid (M.rdDocs_time HS2.out)
              obtain ⟨A9', c9', hv9, hr9⟩ := HROW.out.open_
              injection hv9 with x1 x2 x3
              subst x1 x3
              clear x2
              have hr9' : RdDocs wr wr.heap.size A9 m c9 ds := by rw [HM.out] at hr9; exact hr9
              have hc9 := hr9'.2.1; have hcm9 := hr9'.2.2.1
              have HR9 := Lib.hid hr9'
              have HFM := Lib.hid (fun (W : World) (hW : Below wr.heap.size wr W) => ref_forms_any A9 m c9 ds W (HR9.out.on hW))
              have HBDr := Lib.hid (show Below wr.heap.size wr wr.drew from ⟨rfl, rfl, rfl, Nat.le_refl _, fun _ _ => rfl⟩)
              have HBT := Lib.hid (fun (W : World) (hW : Below wr.heap.size wr W) => HB.out.trans (hW.mono HB.out.size))
              have HCV := Lib.hid (fun (W : World) (hW : Below wr.heap.size wr W) => show CvS wr (.slice (some ⟨b, off, none⟩) (z + 4) c) ⟨l.toArray⟩ W from ⟨(HCL.out W (HBT.out W hW)).1, hW⟩)
              clear hr9 hr9'
              cases hfo : (ds.all fun d => M.formB d.id d.text) with
              | false =>
                have HX := Lib.hid (show M.segOpen l = (3, []) by
                  have hse : segErr ds = 3 := by unfold segErr; rw [if_neg (by have := HM.out; omega), hfo]; rfl
                  rw [HOQ.out, hse]; simp)
                rw [hfo] at HFM
                clear hfo
                go_wp2_with fail
                refine wp_region_held_drew (S := fun W => Below wr.heap.size wr W) (by kernel_rfl) HBDr.out (fun hHeld => ?_)
                refine wpAnyH_take (i := 0) (oi := ⟨some 104, _, _, _, _, _⟩) (v := ?_) rfl (by kernel_rfl) (by kernel_rfl) (by kernel_rfl) (fun _ _ _ h => h) (Or.inl ⟨by rfl, ?yy1⟩) hHeld ?rr1
                case yy1 => ((intro w hSw; (try dsimp only at hSw); go_simp) <;> (try with_reducible rfl))
                try simp only [Act.put, List.setIfInBounds_toArray, List.set_cons_zero, List.set_cons_succ]
                refine wpAnyH_ready (rs := [1]) (by kernel_rfl) (by simp) ?_
                refine AllReadyH.cons (o := ⟨some 105, _, _, _, _, _⟩) rfl (fun K hK => ?_) ?_
                · go_simp
                  go_at_call 12
                  refine (HFM.out _ hHeld).mono ?_
                  rintro e w7 ⟨rfl, hb7⟩
                  have hS7 := hHeld.trans (hb7.mono hHeld.size)
                  refine hK.out _ _ hS7 (fun hHeld => ?_)
                  clear hK K
                  try simp only [Act.put, List.setIfInBounds_toArray, List.set_cons_zero, List.set_cons_succ]
                  refine wpAnyH_take (i := 2) (oi := ⟨some 106, _, _, _, _, _⟩) (v := ?_) rfl (by kernel_rfl) (by kernel_rfl) (by kernel_rfl) (fun _ _ _ h => h) (Or.inl ⟨by rfl, ?yy2⟩) hHeld ?rr2
                  case yy2 => ((intro w hSw; (try dsimp only at hSw); go_simp) <;> (try with_reducible rfl))
                  try simp only [Act.put, List.setIfInBounds_toArray, List.set_cons_zero, List.set_cons_succ]
                  refine wpAnyH_take (i := 3) (oi := ⟨some 107, _, _, _, _, _⟩) (v := ?_) rfl (by kernel_rfl) (by kernel_rfl) (by kernel_rfl) (fun _ _ _ h => h) (Or.inl ⟨by rfl, ?yy3⟩) hHeld ?rr3
                  case yy3 => ((intro w hSw; (try dsimp only at hSw); go_simp) <;> (try with_reducible rfl))
                  try simp only [Act.put, List.setIfInBounds_toArray, List.set_cons_zero, List.set_cons_succ]
                  refine wpAnyH_take (i := 4) (oi := ⟨some 108, _, _, _, _, _⟩) (v := undef) rfl (by kernel_rfl) (by kernel_rfl) (by kernel_rfl) (fun _ _ _ h => h) (Or.inr ⟨by rfl, rfl⟩) hHeld ?_
                  try simp only [Act.put, List.setIfInBounds_toArray, List.set_cons_zero, List.set_cons_succ]
                  refine wpAnyH_take (i := 5) (oi := ⟨some 109, _, _, _, _, _⟩) (v := undef) rfl (by kernel_rfl) (by kernel_rfl) (by kernel_rfl) (fun _ _ _ h => h) (Or.inr ⟨by rfl, rfl⟩) hHeld ?_
                  try simp only [Act.put, List.setIfInBounds_toArray, List.set_cons_zero, List.set_cons_succ]
                  refine wpAnyH_take (i := 6) (oi := ⟨some 110, _, _, _, _, _⟩) (v := undef) rfl (by kernel_rfl) (by kernel_rfl) (by kernel_rfl) (fun _ _ _ h => h) (Or.inr ⟨by rfl, rfl⟩) hHeld ?_
                  try simp only [Act.put, List.setIfInBounds_toArray, List.set_cons_zero, List.set_cons_succ]
                  refine wpAnyH_take (i := 7) (oi := ⟨some 111, _, _, _, _, _⟩) (v := undef) rfl (by kernel_rfl) (by kernel_rfl) (by kernel_rfl) (fun _ _ _ h => h) (Or.inr ⟨by rfl, rfl⟩) hHeld ?_
                  try simp only [Act.put, List.setIfInBounds_toArray, List.set_cons_zero, List.set_cons_succ]
                  refine wpAnyH_take (i := 8) (oi := ⟨some 112, _, _, _, _, _⟩) (v := undef) rfl (by kernel_rfl) (by kernel_rfl) (by kernel_rfl) (fun _ _ _ h => h) (Or.inr ⟨by rfl, rfl⟩) hHeld ?_
                  try simp only [Act.put, List.setIfInBounds_toArray, List.set_cons_zero, List.set_cons_succ]
                  refine wpAnyH_take (i := 9) (oi := ⟨some 113, _, _, _, _, _⟩) (v := undef) rfl (by kernel_rfl) (by kernel_rfl) (by kernel_rfl) (fun _ _ _ h => h) (Or.inr ⟨by rfl, rfl⟩) hHeld ?_
                  try simp only [Act.put, List.setIfInBounds_toArray, List.set_cons_zero, List.set_cons_succ]
                  refine wpAnyH_take (i := 10) (oi := ⟨some 114, _, _, _, _, _⟩) (v := ?_) rfl (by kernel_rfl) (by kernel_rfl) (by kernel_rfl) (fun _ _ _ h => h) (Or.inl ⟨by rfl, ?yy4⟩) hHeld ?rr4
                  case yy4 => ((intro w hSw; (try dsimp only at hSw); go_simp) <;> (try with_reducible rfl))
                  try simp only [Act.put, List.setIfInBounds_toArray, List.set_cons_zero, List.set_cons_succ]
                  refine wpAnyH_done (by kernel_rfl) ?_ _
                  have HB7 := Lib.hid (HBT.out _ hHeld)
                  clear hHeld hS7 hb7
                  go_wp2
                  go_ret2
                  rw [HX.out]
                  exact RefOpens.bad (by omega) HB7.out
                exact AllReadyH.nil
              | true =>
                have hse : segErr ds = 0 := by unfold segErr; rw [if_neg (by have := HM.out; omega), hfo]; rfl
                have HFT := Lib.hid (show ∀ d ∈ ds, Fits d from fun d hd => fits_of ((segErr_ok hse).2 d hd) (HTM.out d hd))
                have HOR := Lib.hid (show M.segOpen l = if L ≠ M.segPre ds then (3, []) else (0, ds) by rw [HOQ.out, hse]; simp)
                have HSQ := Lib.hid (show M.segBytes ds = l ↔ L = M.segPre ds by rw [← hLL]; exact HSM2.out ds)
                have HRB := Lib.hid (fun (W : World) (hW : Below wr.heap.size wr W) => refBuild_any A9 m c9 ds W (HR9.out.on hW) (by omega) HFT.out (HT.out.below (HBT.out W hW)))
                rw [hfo] at HFM
                clear hfo hse HOQ
                obtain ⟨pb, hpb⟩ : ∃ pb, M.segBytes ds = pb := ⟨_, rfl⟩
                rw [hpb] at HSQ HRB
                clear hpb
                by_cases hsb : pb = l
                · have hq : (pb == l) = true := by rw [hsb]; simp
                  have HX := Lib.hid (show M.segOpen l = (0, ds) by rw [HOR.out, if_neg (by simpa using HSQ.out.1 hsb)])
                  clear hsb HOR
                  go_wp2_with fail
                  go_region_held (fun W => (convert 24 9 (.slice (some ⟨b, off, none⟩) (z + 4) c)).run Tryd.prog W = .ok (.string ⟨l.toArray⟩) W ∧ Below wr.heap.size wr W)
                    (first | exact hHeld | exact HCV.out _ HBDr.out | exact hV7 | exact hV8)
                    (first
                      | (go_at_call 12; refine (HFM.out _ HBDr.out).mono ?_; rintro e w7 ⟨rfl, hb7⟩; have hbb7 := HBDr.out.trans (hb7.mono HBDr.out.size); have hV7 := HCV.out _ hbb7)
                      | (go_at_call 13; refine (HRB.out _ hbb7).mono ?_; rintro e w8 ⟨v8, rfl, hO8, hb8⟩; obtain ⟨A8, c8, hv8, hr8⟩ := hO8.open_; subst hv8; have hcv8 := run_str (P := Tryd.prog) w8 _ 24 9 5 Tryd.underlying24 Tryd.underlying5 Tryd.underlying9 A8 pb.length c8 pb hr8; have hbb8 := hbb7.trans (hb8.mono hbb7.size); have hV8 := HCV.out _ hbb8))
                  all_goals
                    have HB8 := Lib.hid (HBT.out _ hbb8)
                    have HRW8 := Lib.hid (HROW.out.below hbb8)
                    clear hV7 hb7 hbb7 hV8 hb8 hbb8 hO8 hr8 hcv8
                    go_wp2
                    go_ret2
                    rw [HX.out]
                    exact ⟨_, rfl, HB8.out, fun _ => HRW8.out⟩
                · have hq : (pb == l) = false := beq_eq_false_iff_ne.2 hsb
                  have HX := Lib.hid (show M.segOpen l = (3, []) by rw [HOR.out, if_pos (fun h => hsb (HSQ.out.2 h))])
                  clear hsb HOR
                  go_wp2_with fail
                  go_region_held (fun W => (convert 24 9 (.slice (some ⟨b, off, none⟩) (z + 4) c)).run Tryd.prog W = .ok (.string ⟨l.toArray⟩) W ∧ Below wr.heap.size wr W)
                    (first | exact hHeld | exact HCV.out _ HBDr.out | exact hV7 | exact hV8)
                    (first
                      | (go_at_call 12; refine (HFM.out _ HBDr.out).mono ?_; rintro e w7 ⟨rfl, hb7⟩; have hbb7 := HBDr.out.trans (hb7.mono HBDr.out.size); have hV7 := HCV.out _ hbb7)
                      | (go_at_call 13; refine (HRB.out _ hbb7).mono ?_; rintro e w8 ⟨v8, rfl, hO8, hb8⟩; obtain ⟨A8, c8, hv8, hr8⟩ := hO8.open_; subst hv8; have hcv8 := run_str (P := Tryd.prog) w8 _ 24 9 5 Tryd.underlying24 Tryd.underlying5 Tryd.underlying9 A8 pb.length c8 pb hr8; have hbb8 := hbb7.trans (hb8.mono hbb7.size); have hV8 := HCV.out _ hbb8))
                  all_goals
                    have HB8 := Lib.hid (HBT.out _ hbb8)
                    clear hV7 hb7 hbb7 hV8 hb8 hbb8 hO8 hr8 hcv8
                    go_wp2
                    go_ret2
                    rw [HX.out]
                    exact RefOpens.bad (by omega) HB8.out
      · have hq : (l.drop z == fo) = false := beq_eq_false_iff_ne.2 hs
        have HX := Lib.hid (show M.segOpen l = (5, []) by rw [HOP.out, if_pos hs])
        go_enter Tryd.func16, Tryd.ntmps16
        go_wp2_with fail
        go_region_held (fun W => (convert 24 9 (.slice (some ⟨b, off + z, none⟩) 4 (c - z))).run Tryd.prog W = .ok (.string ⟨(l.drop z).toArray⟩) W ∧ Below w.heap.size w W)
          (first | exact hHeld | exact HC1.out _ HBD.out | exact hV2)
          (first
            | (go_at_call 39; refine (HSU.out _ HBD.out).mono ?_; rintro e w1 ⟨rfl, rfl⟩)
            | (go_at_call 38; refine (HFO.out _).mono ?_; rintro e w2 ⟨v2, rfl, hO2, hb2⟩; obtain ⟨A2, c2, hv2, hr2⟩ := hO2.open_; rw [HFL.out] at hv2 hr2; subst hv2; have hcv2 := run_str (P := Tryd.prog) w2 _ 24 9 5 Tryd.underlying24 Tryd.underlying5 Tryd.underlying9 A2 4 c2 fo hr2; have hbb2 := HBD.out.trans (hb2.mono HBD.out.size); have hV2 := HC1.out _ hbb2))
        have HB2 := Lib.hid hbb2
        clear hV2 hbb2 hcv2 hb2 hO2 hr2
        go_wp2
        go_ret2
        rw [HX.out]
        exact RefOpens.bad (by omega) HB2.out
    · have HX := Lib.hid (show M.segOpen l = (3, []) by unfold M.segOpen; rw [if_neg (by have := HL.out; omega), if_pos hm])
      have hq : (l.take 4 == [83, 69, 71, 49]) = false := beq_eq_false_iff_ne.2 hm
      go_enter Tryd.func16, Tryd.ntmps16
      go_wp2
      go_ret2
      rw [HX.out]
      exact RefOpens.bad (by omega) (HBB.out)

set_option maxHeartbeats 4000000 in
theorem segOpensLaw_any (A : Option Addr) (n c : Nat) (l : List UInt8) (w : World) (h : Rd w w.heap.size A n c l) (hT : Tabs w) :
    Calls Tryd.prog 4 #[.slice A n c] w (SaysB true w) := by
  have H := Lib.hid h; have HL := Lib.hid h.len; have HT := Lib.hid hT
  have hc := h.cap; have hcm := h.max
  have HAW := Lib.hid (fun (W : World) (hb : Below w.heap.size w W) => awake9_any W (HT.out.below hb))
  have HB0 := Lib.hid (Below.refl w.heap.size w)
  clear h hT
  go_enter Tryd.func4, Tryd.ntmps4
  go_wp2_with fail
  refine (HAW.out _ HB0.out).mono ?_
  rintro e w1 ⟨rfl, hb1⟩
  have HB1 := Lib.hid hb1
  clear hb1
  by_cases h2 : 20000 < n
  · have h2' : (20000 : Int) < (n : Int) := by omega
    go_wp2_with fail
    refine (HAW.out _ HB1.out).mono ?_
    rintro e w2 ⟨rfl, hb2⟩
    have HB2 := Lib.hid (HB1.out.trans (hb2.mono HB1.out.size))
    clear hb2
    go_wp2
    go_ret
    exact ⟨rfl, HB2.out⟩
  · have h2' : ¬ (20000 : Int) < (n : Int) := by omega
    have HOP := Lib.hid (open_any A n c l w1 ((H.out.below HB1.out).more HB1.out.size) (by omega) (HT.out.below HB1.out))
    have HRO := Lib.hid (fun (W : World) (hb : Below w.heap.size w W) => refOpen_any A n c l W ((H.out.below hb).more hb.size) (by omega) (HT.out.below hb))
    have HSO := Lib.hid (show (M.segOpen l).1 = 0 → segErr (M.segOpen l).2 = 0 from fun h0 => M.segOpen_err h0)
    obtain ⟨r, hr⟩ : ∃ r, M.segOpen l = r := ⟨_, rfl⟩
    rw [hr] at HOP HRO HSO
    clear hr HAW
    obtain ⟨k, ds⟩ := r
    simp only at HSO
    go_wp2_with fail
    refine HOP.out.mono ?_
    rintro e w2 ⟨v2, rfl, hb2, hnil, hg⟩
    simp only at hnil hg ⊢
    have HB2 := Lib.hid (HB1.out.trans (hb2.mono HB1.out.size))
    by_cases hk : k = 0
    · subst hk
      obtain ⟨g, rfl, hsg⟩ := hg rfl
      have HSG := Lib.hid hsg
      obtain ⟨hdl, hdf⟩ := segErr_ok (HSO.out rfl)
      have HTX := Lib.hid (show ∀ d ∈ ds, d.text.length ≤ 512 from fun d hd => M.formB_text (hdf d hd))
      have HDL := Lib.hid hdl
      clear hb2 hnil hg hsg HOP hdf hdl
      go_wp2_with fail
      refine (HRO.out _ HB2.out).mono ?_
      rintro e w3 ⟨v3, rfl, hb3, hrow⟩
      simp only at hrow ⊢
      obtain ⟨A3, c3, hv3, hr3⟩ := (hrow trivial).open_
      subst hv3
      have HB3 := Lib.hid (HB2.out.trans (hb3.mono HB2.out.size))
      have HHO := Lib.hid (holds_any g _ A3 ds.length c3 ds w3 (HSG.out.on hb3) hr3 HDL.out HTX.out (HT.out.below HB3.out))
      clear hb3 hrow hr3
      generalize ds.length = m at *
      go_wp2_with fail
      refine HHO.out.mono ?_
      rintro e w4 ⟨rfl, hb4⟩
      have HB4 := Lib.hid (HB3.out.trans (hb4.mono HB3.out.size))
      clear hb4
      go_wp2
      go_ret
      exact ⟨rfl, HB4.out⟩
    · obtain rfl := hnil hk
      have hq4 : ((k : Int) == 0) = false := by simp; omega
      have hq3 : ((k : Int) != 0) = true := by rw [bne_iff_ne]; omega
      have hq5 : ((k : Int) == (k : Int)) = true := by simp
      have hq6 : ((k : Int) != (k : Int)) = false := by simp
      clear hb2 hnil hg HOP
      go_wp2_with fail
      refine (HRO.out _ HB2.out).mono ?_
      rintro e w3 ⟨v3, rfl, hb3, -⟩
      simp only
      have HB3 := Lib.hid (HB2.out.trans (hb3.mono HB2.out.size))
      clear hb3
      go_wp2
      go_ret
      exact ⟨rfl, HB3.out⟩
end Go.Proofs.YthhgelaifapmmaaDoor
