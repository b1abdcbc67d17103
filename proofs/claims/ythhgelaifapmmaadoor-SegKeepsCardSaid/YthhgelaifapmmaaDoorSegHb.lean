/-
  What the document's Build of segments does, by a contract.
-/
import Derived.Test.YthhgelaifapmmaaDoorSegHa
namespace Go.Proofs.YthhgelaifapmmaaDoor
open Go.RowKit Mem Go.ChangeShapes Go.Sort
set_option linter.unusedVariables false
set_option maxRecDepth 100000

set_option maxHeartbeats 8000000 in
theorem refBuild_any (A : Option Addr) (n c : Nat) (ds : List M.D) (w : World) (h : RdDocs w w.heap.size A n c ds) (hn : n ≤ 4096) (hd : ∀ d ∈ ds, Fits d) (hT : Tabs w) :
    Calls Tryd.prog 13 #[.slice A n c] w (Gives w (M.segBytes ds)) := by
  obtain ⟨i0, hi0, hz0, hz1, hz2⟩ := info_parts Tryd.info_byte
  have HI := Lib.hid hi0; have HZ0 := Lib.hid hz0; have HZ1 := Lib.hid hz1; have HZ2 := Lib.hid hz2
  clear hi0 hz0 hz1 hz2
  have H := Lib.hid h; have HN := Lib.hid h.1; have HD := Lib.hid hd; have HTT := Lib.hid hT
  have hc := h.2.1; have hcm := h.2.2.1
  have HTX := Lib.hid (show ∀ d ∈ ds, d.text.length ≤ 512 from fun d hx => (hd d hx).2.1)
  have HKF := Lib.hid (show (M.keys ds).length ≤ 4194304 by have h1 := keys_few hd; have h2 := h.1; omega)
  have HKL := Lib.hid (show ∀ t ∈ M.keys ds, t.length ≤ 65 from fun t ht => by
    obtain ⟨d, hd, hdt⟩ := M.mem_posts.1 (M.mem_keys.1 ht)
    exact M.terms_short _ t hdt)
  have HUV := Lib.hid (fun (W : World) => ref_uvarint_any n W (by omega))
  have kc := fun (w : World) (C : Array Value) (n c : Nat) => Lib.run_convert_bytes_const (P := Tryd.prog) w 24 5 C n c Tryd.underlying24 Tryd.underlying5
  have HB0 := Lib.hid ((Below.refl w.heap.size w).alloc (Nat.le_refl _) (.cells #[.int .u8 83, .int .u8 69, .int .u8 71, .int .u8 49] 5 (4, 5)))
  have HT := Lib.hid (fun (l : List UInt8) (W : World) (hl : l.length ≤ 512) => show Calls Tryd.prog 34 #[.string ⟨l.toArray⟩] W (Gives W (M.text l)) from ref_text_any ⟨l.toArray⟩ W (by show l.length ≤ _; omega))
  clear h hd hT
  go_enter Tryd.func13, Tryd.ntmps13
  go_wp2_with fail
  refine (HUV.out _).mono ?_
  rintro e w1 ⟨v1, rfl, hO1, hb1⟩
  obtain ⟨g1, c1, hv1, -⟩ := hO1.form (by have := (M.uv_len n).1; omega)
  obtain ⟨n1, hn1⟩ : ∃ n1, (M.uv n).length = n1 := ⟨_, rfl⟩
  rw [hn1] at hv1
  subst hv1
  have hn1b : 1 ≤ n1 ∧ n1 ≤ 10 := by have := M.uv_len n; omega
  have HN1 := Lib.hid hn1
  have hold : ∀ j u, (bcells [83, 69, 71, 49])[j]? = some u → w1.cell? ((⟨w.heap.size, 0, none⟩ : Addr).add j) = some u := fun j u hu => by
    rw [add_none, Nat.zero_add]
    have hlt : w.heap.size < (w.alloc (.cells #[.int .u8 83, .int .u8 69, .int .u8 71, .int .u8 49] 5 (4, 5))).heap.size := by simp
    rw [hb1.cell (p := ⟨w.heap.size, j, none⟩) hlt, cell_of_row _ w.heap.size j #[.int .u8 83, .int .u8 69, .int .u8 71, .int .u8 49] 5 (4, 5) (heap_alloc_new w _)]
    rw [show (#[Value.int .u8 83, .int .u8 69, .int .u8 71, .int .u8 49] : Array Value)[j]? = (bcells [83, 69, 71, 49])[j]? by rw [← Array.getElem?_toList]; rfl]
    exact hu
  have HOLD := Lib.hid hold
  have HB1 := Lib.hid (HB0.out.trans (hb1.mono HB0.out.size))
  have hs1 := HB1.out.size
  have HNW := Lib.hid (show ∀ j u, (bcells (M.uv n))[j]? = some u → w1.cell? ((⟨g1, 0, none⟩ : Addr).add j) = some u from by
    obtain ⟨A', c', e1, hr⟩ := hO1.open_
    injection e1 with e1 _ _
    subst e1
    intro j u hu
    exact hr.cells.2 _ rfl (by omega) j u hu)
  clear hold hO1 hb1 hn1
  go_wp2_with (at_builtin; go_must (refine wpList_append_grows _ rfl (.tmp 9) (.tmp 13) _ rfl 5 i0 _ 1 1 Tryd.underlying24 HI.out HZ0.out HZ1.out HZ2.out rfl (by omega) (some ⟨w.heap.size, 0, none⟩) 4 4 (bcells [83, 69, 71, 49]) rfl (by simp) rfl (fun b hb j u hu => by injection hb with hb; subst hb; exact HOLD.out j u hu) ⟨g1, 0, none⟩ n1 c1 (bcells (M.uv n)) rfl (by have := HN1.out; rw [bcells_len]; omega) HNW.out (fun u hu => bcells_one _ u hu) (by omega) (by simp only [maxLen]; omega) (by omega) ?_))
  intro v2 w2 hrow2 hg2
  have hO2 : Own w2 w.heap.size 5 v2 ([83, 69, 71, 49] ++ M.uv n) := by
    have h0 : Own w2 w1.heap.size 5 v2 ([83, 69, 71, 49] ++ M.uv n) := by
      have e1 : ([83, 69, 71, 49] ++ M.uv n : List UInt8).length = 4 + n1 := by have := HN1.out; simp; omega
      have e2 : bcells ([83, 69, 71, 49] ++ M.uv n) = bcells [83, 69, 71, 49] ++ bcells (M.uv n) := by simp [bcells]
      unfold Own
      rw [e1, e2]
      exact hrow2
    exact h0.less hs1
  obtain ⟨acc2, hacc2⟩ : ∃ acc2, [83, 69, 71, 49] ++ M.uv n = acc2 := ⟨_, rfl⟩
  rw [hacc2] at hO2
  obtain ⟨A2, c2, hv2, -⟩ := hO2.open_
  obtain ⟨n2, hn2⟩ : ∃ n2, acc2.length = n2 := ⟨_, rfl⟩
  rw [hn2] at hv2
  subst hv2
  have HE2 := Lib.hid hacc2; have HO2 := Lib.hid hO2
  have HB2 := Lib.hid (show Below w.heap.size w w2 from HB1.out.trans ⟨hg2.os, hg2.tape, hg2.output, hg2.size, fun k hk => hg2.block k (Nat.lt_of_lt_of_le hk hs1) (by simp)⟩)
  clear hrow2 hg2 hO2 hacc2 hn2 HOLD HNW
  have HE0 := Lib.hid (show acc2 = M.segHead ds ++ ((ds.take 0).map M.docBytes).flatten by rw [← HE2.out, HN.out]; simp [M.segHead])
  have HL2 := Lib.hid (show acc2.length ≤ 14 by rw [← HE2.out]; have := (M.uv_len n).2; simp; omega)
  clear HE2 HB1 HB0
  go_wp2
  go_loopw [3, 4] (fun o p wr => ∃ (i n9 c9 : Nat) (A9 : Option Addr) (acc : List UInt8), p = .int .i64 i ∧ o = .slice A9 n9 c9 ∧ i ≤ n ∧ Hid (acc = M.segHead ds ++ ((ds.take i).map M.docBytes).flatten) ∧ Hid (acc.length ≤ 14 + 600 * i) ∧ Hid (Own wr w.heap.size 5 (.slice A9 n9 c9) acc) ∧ Hid (Below w.heap.size w wr)) (fun _ p _ => n - (intOf p).toNat)
  case atStart => exact ⟨0, n2, c2, A2, acc2, rfl, rfl, Nat.zero_le _, HE0, Lib.hid (by have := HL2.out; omega), HO2, HB2⟩
  case round =>
    obtain ⟨i, n9, c9, A9, acc, rfl, rfl, hi, HE, HL, HO, HB⟩ := hrel
    rename World => wr
    by_cases hlt : i < n
    · have hix : i < ds.length := by have := HN.out; omega
      obtain ⟨db, off, rfl, hdb, hcell⟩ := H.out.2.2.2 (by omega)
      obtain ⟨q0, q1, q2⟩ := hcell i hix
      have hil : (i : Int) < (n : Int) := by omega
      have HFT := Lib.hid (M.flat_take M.docBytes hix)
      obtain ⟨hd1, hd2, hd3, hd4⟩ := HD.out _ (List.getElem_mem hix)
      have HQ0 := Lib.hid (fun (W : World) (hb : Below w.heap.size w W) => (hb.cell (p := ⟨db, off + i * 3, none⟩) hdb).trans q0)
      have HQ1 := Lib.hid (fun (W : World) (hb : Below w.heap.size w W) => (hb.cell (p := ⟨db, off + i * 3 + 1, none⟩) hdb).trans q1)
      have HQ2 := Lib.hid (fun (W : World) (hb : Below w.heap.size w W) => (hb.cell (p := ⟨db, off + i * 3 + 2, none⟩) hdb).trans q2)
      clear hcell q0 q1 q2
      generalize ds[i] = d at *
      obtain ⟨did, dtm, dtx⟩ := d
      simp only at HQ0 HQ1 HQ2 hd1 hd2 hd3 hd4
      have HZG := Lib.hid (fun W => ref_zig_any dtm W hd3 hd4)
      obtain ⟨zn, hzn⟩ : ∃ zn : Nat, M.zig dtm = (zn : Int) := ⟨(M.zig dtm).toNat, by have := (M.zig_range dtm hd3 hd4).1; omega⟩
      have hzb : zn < 18446744073709551616 := by have := (M.zig_range dtm hd3 hd4).2; omega
      have HZN := Lib.hid (show (M.zig dtm).toNat = zn by omega)
      rw [hzn] at HZG
      have HUZ := Lib.hid (fun (W : World) => ref_uvarint_any zn W hzb)
      have p0 := HQ0.out _ HB.out
      clear hzn
      go_wp2_with fail
      refine (HT.out did _ (by omega)).mono ?_
      rintro e w3 ⟨v3, rfl, hO3, hb3⟩
      obtain ⟨A3, c3, hv3, hr3⟩ := hO3.open_
      obtain ⟨n3, hn3⟩ : ∃ n3, (M.text did).length = n3 := ⟨_, rfl⟩
      rw [hn3] at hv3 hr3
      subst hv3
      have HR3 := Lib.hid hr3; have HN3 := Lib.hid hn3
      have HA3 := Lib.hid (HO.out.below hb3)
      have HB3 := Lib.hid (HB.out.trans (hb3.mono HB.out.size))
      have hs3 := HB3.out.size
      have HT3 := Lib.hid (show n3 ≤ 42 by have h2 := (M.uv_len did.length).2; rw [← hn3]; simp only [M.text, List.length_append]; omega)
      clear p0
      clear hO3 hb3 hr3 hn3
      go_wp2_with (at_builtin; go_must (refine wpList_app _ rfl (.tmp 21) (.tmp 27) _ rfl w.heap.size w3.heap.size _ i0 Tryd.underlying24 HI.out HZ0.out HZ1.out HZ2.out (.slice A9 n9 c9) (acc) HA3.out rfl A3 n3 c3 (M.text did) HR3.out rfl (by have h1 := HL.out; have h2 := (M.uv_len did.length).2; simp [M.text]; omega) hs3 ?_))
      intro v4 w4 hO4 hg4 hat4
      obtain ⟨A4, c4, hv4, -⟩ := hO4.open_
      obtain ⟨n4, hn4⟩ : ∃ n4, (acc ++ (M.text did)).length = n4 := ⟨_, rfl⟩
      rw [hn4] at hv4
      subst hv4
      obtain ⟨acc4, hacc4⟩ : ∃ acc4, acc ++ (M.text did) = acc4 := ⟨_, rfl⟩
      rw [hacc4] at hO4 hn4
      have HE4 := Lib.hid hacc4; have HO4 := Lib.hid hO4; have HNN4 := Lib.hid hn4
      have HB4 := Lib.hid (HB3.out.trans (below_own HA3.out hs3 hg4))
      have HL4 := Lib.hid (show acc4.length = (acc).length + n3 by rw [← hacc4, List.length_append, HN3.out])
      have p1 := HQ1.out _ HB4.out
      clear hO4 hg4 hat4 hn4 hacc4
      go_wp2_with fail
      refine (HZG.out _).mono ?_
      rintro e w4' ⟨rfl, hw4⟩
      subst hw4
      go_wp2_with fail
      refine (HUZ.out _).mono ?_
      rintro e w5 ⟨v5, rfl, hO5, hb5⟩
      obtain ⟨A5, c5, hv5, hr5⟩ := hO5.open_
      obtain ⟨n5, hn5⟩ : ∃ n5, (M.uv zn).length = n5 := ⟨_, rfl⟩
      rw [hn5] at hv5 hr5
      subst hv5
      have HR5 := Lib.hid hr5; have HN5 := Lib.hid hn5
      have HA5 := Lib.hid (HO4.out.below hb5)
      have HB5 := Lib.hid (HB4.out.trans (hb5.mono HB4.out.size))
      have hs5 := HB5.out.size
      have HT5 := Lib.hid (show n5 ≤ 10 by have h2 := (M.uv_len zn).2; rw [← hn5]; omega)
      clear p1
      clear hO5 hb5 hr5 hn5
      go_wp2_with (at_builtin; go_must (refine wpList_app _ rfl (.tmp 29) (.tmp 36) _ rfl w.heap.size w5.heap.size _ i0 Tryd.underlying24 HI.out HZ0.out HZ1.out HZ2.out (.slice A4 n4 c4) (acc4) HA5.out rfl A5 n5 c5 (M.uv zn) HR5.out rfl (by have h1 := HL.out; have h4 := HL4.out; have h5 := HT3.out; have h2 := (M.uv_len zn).2; omega) hs5 ?_))
      intro v6 w6 hO6 hg6 hat6
      obtain ⟨A6, c6, hv6, -⟩ := hO6.open_
      obtain ⟨n6, hn6⟩ : ∃ n6, (acc4 ++ (M.uv zn)).length = n6 := ⟨_, rfl⟩
      rw [hn6] at hv6
      subst hv6
      obtain ⟨acc6, hacc6⟩ : ∃ acc6, acc4 ++ (M.uv zn) = acc6 := ⟨_, rfl⟩
      rw [hacc6] at hO6 hn6
      have HE6 := Lib.hid hacc6; have HO6 := Lib.hid hO6; have HNN6 := Lib.hid hn6
      have HB6 := Lib.hid (HB5.out.trans (below_own HA5.out hs5 hg6))
      have HL6 := Lib.hid (show acc6.length = (acc4).length + n5 by rw [← hacc6, List.length_append, HN5.out])
      have p2 := HQ2.out _ HB6.out
      clear hO6 hg6 hat6 hn6 hacc6
      go_wp2_with fail
      refine (HT.out dtx _ hd2).mono ?_
      rintro e w7 ⟨v7, rfl, hO7, hb7⟩
      obtain ⟨A7, c7, hv7, hr7⟩ := hO7.open_
      obtain ⟨n7, hn7⟩ : ∃ n7, (M.text dtx).length = n7 := ⟨_, rfl⟩
      rw [hn7] at hv7 hr7
      subst hv7
      have HR7 := Lib.hid hr7; have HN7 := Lib.hid hn7
      have HA7 := Lib.hid (HO6.out.below hb7)
      have HB7 := Lib.hid (HB6.out.trans (hb7.mono HB6.out.size))
      have hs7 := HB7.out.size
      have HT7 := Lib.hid (show n7 ≤ 522 by have h2 := (M.uv_len dtx.length).2; rw [← hn7]; simp only [M.text, List.length_append]; omega)
      clear p2
      clear hO7 hb7 hr7 hn7
      go_wp2_with (at_builtin; go_must (refine wpList_app _ rfl (.tmp 38) (.tmp 44) _ rfl w.heap.size w7.heap.size _ i0 Tryd.underlying24 HI.out HZ0.out HZ1.out HZ2.out (.slice A6 n6 c6) (acc6) HA7.out rfl A7 n7 c7 (M.text dtx) HR7.out rfl (by have h1 := HL.out; have h4 := HL4.out; have h6 := HL6.out; have h5 := HT3.out; have h7 := HT5.out; have h2 := (M.uv_len dtx.length).2; simp [M.text]; omega) hs7 ?_))
      intro v8 w8 hO8 hg8 hat8
      obtain ⟨A8, c8, hv8, -⟩ := hO8.open_
      obtain ⟨n8, hn8⟩ : ∃ n8, (acc6 ++ (M.text dtx)).length = n8 := ⟨_, rfl⟩
      rw [hn8] at hv8
      subst hv8
      obtain ⟨acc8, hacc8⟩ : ∃ acc8, acc6 ++ (M.text dtx) = acc8 := ⟨_, rfl⟩
      rw [hacc8] at hO8 hn8
      have HE8 := Lib.hid hacc8; have HO8 := Lib.hid hO8; have HNN8 := Lib.hid hn8
      have HB8 := Lib.hid (HB7.out.trans (below_own HA7.out hs7 hg8))
      have HL8 := Lib.hid (show acc8.length = (acc6).length + n7 by rw [← hacc8, List.length_append, HN7.out])
      clear hO8 hg8 hat8 hn8 hacc8
      have HE9 := Lib.hid (show acc8 = M.segHead ds ++ ((ds.take (i + 1)).map M.docBytes).flatten by
        rw [HFT.out, ← HE8.out, ← HE6.out, ← HE4.out, HE.out]
        simp only [M.docBytes, HZN.out, List.append_assoc])
      have HL9 := Lib.hid (show acc8.length ≤ 14 + 600 * (i + 1) by
        have h1 := HL.out; have h4 := HL4.out; have h6 := HL6.out; have h8 := HL8.out; have h5 := HT3.out; have h7 := HT5.out; have h9 := HT7.out; omega)
      go_wp2
      go_roundw
      case rel => exact ⟨i + 1, n8, c8, A8, acc8, by go_num, rfl, by omega, HE9, HL9, HO8, HB8⟩
      case measure => simp [intOf]; omega
    · have HEA := Lib.hid (show acc = M.segHead ds ++ (ds.map M.docBytes).flatten by rw [HE.out, List.take_of_length_le (by have := HN.out; omega)])
      have HLB := Lib.hid (show acc.length ≤ 2457614 by have := HL.out; omega)
      have HTE := Lib.hid (refTerms_any A n c ds wr (H.out.on HB.out) hn HTX.out (HTT.out.below HB.out))
      clear HL HE
      go_wp2_with fail
      refine HTE.out.mono ?_
      rintro e w10 ⟨Ak, ck, rfl, hrdk, hb10, hnewk⟩
      obtain ⟨sz, hsz⟩ : ∃ sz, (M.keys ds).length = sz := ⟨_, rfl⟩
      have HKN := Lib.hid hsz
      rw [hsz] at hrdk hnewk HKF ⊢
      have hszb := HKF.out
      have hckc := hrdk.2.1; have hckm := hrdk.max
      have HRD10 := Lib.hid hrdk
      have HO10 := Lib.hid (HO.out.below hb10)
      have HB10 := Lib.hid (HB.out.trans (hb10.mono HB.out.size))
      have HVK10 := Lib.hid (show ∀ a, Ak = some a → 0 < sz → (Value.slice A9 n9 c9).ownBlock ≠ some a.block from fun a ha h0 e => by
        obtain ⟨b2, o2, e3, hle⟩ := hnewk h0
        have := (HO.out.lt _ e).2
        rw [ha] at e3; injection e3 with e3; rw [e3] at this; simp only at this; omega)
      have HUK := Lib.hid (fun (W : World) => ref_uvarint_any sz W (by omega))
      clear hrdk hb10 hnewk HTE hsz
      go_wp2_with fail
      refine (HUK.out _).mono ?_
      rintro e w11 ⟨v11, rfl, hO11, hb11⟩
      obtain ⟨A11, c11, hv11, hr11⟩ := hO11.open_
      obtain ⟨n11, hn11⟩ : ∃ n11, (M.uv sz).length = n11 := ⟨_, rfl⟩
      rw [hn11] at hv11 hr11
      subst hv11
      have HR11 := Lib.hid hr11; have HN11 := Lib.hid hn11
      have HA11 := Lib.hid (HO10.out.below hb11)
      have HB11 := Lib.hid (HB10.out.trans (hb11.mono HB10.out.size))
      have hs11 := HB11.out.size
      have HRD11 := Lib.hid (rdv_below HRD10.out hb11)
      have HVK11 := HVK10
      have HN11b := Lib.hid (show n11 ≤ 10 by have h2 := (M.uv_len sz).2; rw [← hn11]; omega)
      clear hO11 hb11 hr11 hn11
      go_wp2_with (at_builtin; go_must (refine wpList_app _ rfl (.tmp 48) (.tmp 52) _ rfl w.heap.size w11.heap.size _ i0 Tryd.underlying24 HI.out HZ0.out HZ1.out HZ2.out (.slice A9 n9 c9) (acc) HA11.out rfl A11 n11 c11 (M.uv sz) HR11.out rfl (by have h1 := HLB.out; have h2 := (M.uv_len sz).2; omega) hs11 ?_))
      intro v12 w12 hO12 hg12 hat12
      obtain ⟨A12, c12, hv12, -⟩ := hO12.open_
      obtain ⟨n12, hn12⟩ : ∃ n12, (acc ++ (M.uv sz)).length = n12 := ⟨_, rfl⟩
      rw [hn12] at hv12
      subst hv12
      obtain ⟨acc12, hacc12⟩ : ∃ acc12, acc ++ (M.uv sz) = acc12 := ⟨_, rfl⟩
      rw [hacc12] at hO12 hn12
      have HE12 := Lib.hid hacc12; have HO12 := Lib.hid hO12; have HNN12 := Lib.hid hn12
      have HB12 := Lib.hid (HB11.out.trans (below_own HA11.out hs11 hg12))
      have HL12 := Lib.hid (show acc12.length = (acc).length + n11 by rw [← hacc12, List.length_append, HN11.out])
      have HRD12 := Lib.hid (rdv_grown HRD11.out hg12 HVK11.out)
      have HVK12 := Lib.hid (show ∀ a, Ak = some a → 0 < sz → (Value.slice A12 n12 c12).ownBlock ≠ some a.block from fun a ha h0 e => by
        rcases hat12 with h | h
        · rw [h] at e; exact HVK11.out a ha h0 e
        · rw [h] at e; injection e with e
          obtain ⟨b2, o2, e3, hb3, _⟩ := HRD11.out.2.2.2 h0
          rw [ha] at e3; injection e3 with e3; rw [e3] at e; simp only at e; omega)
      clear hO12 hg12 hat12 hn12 hacc12
      have HE13 := Lib.hid (show acc12 = M.segHead ds ++ (ds.map M.docBytes).flatten ++ M.uv sz ++ (((M.keys ds).take 0).map (M.termBytes (M.posts ds))).flatten by rw [← HE12.out, HEA.out]; simp)
      have HL13 := Lib.hid (show acc12.length ≤ 2457624 by have h1 := HL12.out; have h2 := HN11b.out; have h3 := HLB.out; omega)
      clear HRD10 HVK10 HRD11 HVK11 HA11 HR11 HB11 HE12 HL12 HEA
      go_wp2
      go_loopw [3, 6] (fun o p wr => ∃ (k n9 c9 : Nat) (A9 : Option Addr) (acc : List UInt8), p = .int .i64 k ∧ o = .slice A9 n9 c9 ∧ k ≤ sz ∧ Hid (acc = M.segHead ds ++ (ds.map M.docBytes).flatten ++ M.uv sz ++ (((M.keys ds).take k).map (M.termBytes (M.posts ds))).flatten) ∧ Hid (acc.length ≤ 2457624 + 41100 * k) ∧ Hid (Own wr w.heap.size 5 (.slice A9 n9 c9) acc) ∧ Hid (Below w.heap.size w wr) ∧ Hid (RdV wr wr.heap.size Ak sz ck (Mem.strs (M.keys ds))) ∧ Hid (∀ a, Ak = some a → 0 < sz → (Value.slice A9 n9 c9).ownBlock ≠ some a.block) ∧ Hid (n9 = acc.length)) (fun _ p _ => sz - (intOf p).toNat)
      case atStart => exact ⟨0, n12, c12, A12, acc12, rfl, rfl, Nat.zero_le _, HE13, Lib.hid (by have := HL13.out; omega), HO12, HB12, HRD12, HVK12, Lib.hid HNN12.out.symm⟩
      case round =>
        obtain ⟨k, n14, c14, A14, acc14, rfl, rfl, hk, HE14, HL14, HO14, HB14, HRD14, HVK14, HNN14⟩ := hrel
        rename World => w14
        by_cases hlt2 : k < sz
        · have hkx : k < (M.keys ds).length := by rw [HKN.out]; exact hlt2
          obtain ⟨kb, off2, rfl, hkb, q⟩ := HRD14.out.at_ hlt2
          rw [Mem.strs_at hkx] at q
          have hkl : (k : Int) < (sz : Int) := by omega
          have HTL := Lib.hid (HKL.out _ (List.getElem_mem hkx))
          have HFT := Lib.hid (M.flat_take (M.termBytes (M.posts ds)) hkx)
          have HATK := Lib.hid (show ∀ W, RdV W W.heap.size (some ⟨kb, off2, none⟩) sz ck (Mem.strs (M.keys ds)) → W.cell? ⟨kb, off2 + k, none⟩ = some (.string ⟨((M.keys ds)[k]).toArray⟩) from fun W hW => by
            obtain ⟨b', o', e, _, hq⟩ := hW.at_ hlt2
            injection e with e; injection e with e1 e2; subst e1 e2
            rw [Mem.strs_at hkx] at hq
            exact hq)
          generalize (M.keys ds)[k] = t at *
          have HPO := Lib.hid (fun (W : World) (hb : Below w.heap.size w W) => refPosts_any A n c ds t W (H.out.on hb) hn HTX.out (HTT.out.below hb))
          obtain ⟨hf1, hf2, hf3⟩ := posts_fit ds t
          have HPF := Lib.hid (show M.rise (-1) (M.posts ds t) = true ∧ (M.posts ds t).length ≤ 4096 ∧ Known (M.posts ds t) from ⟨hf1, by have := HN.out; omega, fun x hx => by have := hf3 x hx; have := HN.out; omega⟩)
          obtain ⟨ft, hft⟩ : ∃ ft, M.posts ds t = ft := ⟨_, rfl⟩
          have HFTT := Lib.hid (show M.termBytes (M.posts ds) t = M.text t ++ M.enc ft by unfold M.termBytes; rw [hft])
          rw [hft] at HPF
          have HELN := Lib.hid (show (M.enc ft).length ≤ 40970 by have := segEnc_len ft; have := HPF.out.2.1; omega)
          rw [hft] at HPO
          clear hf1 hf2 hf3 hft
          go_wp2_with fail
          refine (HT.out t _ (by have := HTL.out; omega)).mono ?_
          rintro e w16 ⟨v16, rfl, hO16, hb16⟩
          obtain ⟨A16, c16, hv16, hr16⟩ := hO16.open_
          obtain ⟨n16, hn16⟩ : ∃ n16, (M.text t).length = n16 := ⟨_, rfl⟩
          rw [hn16] at hv16 hr16
          subst hv16
          have HR16 := Lib.hid hr16; have HN16 := Lib.hid hn16
          have HA16 := Lib.hid (HO14.out.below hb16)
          have HB16 := Lib.hid (HB14.out.trans (hb16.mono HB14.out.size))
          have hs16 := HB16.out.size
          have HNT := Lib.hid (show n16 ≤ 75 by have h := hn16; have h2 := (M.uv_len t.length).2; have h3 := HTL.out; rw [← h]; simp only [M.text, List.length_append]; omega)
          have HRD16 := Lib.hid (rdv_below HRD14.out hb16)
          have HVK16 := HVK14
          clear q
          clear hO16 hb16 hr16 hn16
          go_wp2_with (at_builtin; go_must (refine wpList_app _ rfl (.tmp 60) (.tmp 65) _ rfl w.heap.size w16.heap.size _ i0 Tryd.underlying24 HI.out HZ0.out HZ1.out HZ2.out (.slice A14 n14 c14) (acc14) HA16.out rfl A16 n16 c16 (M.text t) HR16.out rfl (by have h1 := HL14.out; have h2 := HNT.out; have h3 := HN16.out; omega) hs16 ?_))
          intro v17 w17 hO17 hg17 hat17
          obtain ⟨A17, c17, hv17, -⟩ := hO17.open_
          obtain ⟨n17, hn17⟩ : ∃ n17, (acc14 ++ (M.text t)).length = n17 := ⟨_, rfl⟩
          rw [hn17] at hv17
          subst hv17
          obtain ⟨acc17, hacc17⟩ : ∃ acc17, acc14 ++ (M.text t) = acc17 := ⟨_, rfl⟩
          rw [hacc17] at hO17 hn17
          have HE17 := Lib.hid hacc17; have HO17 := Lib.hid hO17; have HNN17 := Lib.hid hn17
          have HB17 := Lib.hid (HB16.out.trans (below_own HA16.out hs16 hg17))
          have HL17 := Lib.hid (show acc17.length = (acc14).length + n16 by rw [← hacc17, List.length_append, HN16.out])
          have HRD17 := Lib.hid (rdv_grown HRD16.out hg17 HVK16.out)
          have HVK17 := Lib.hid (show ∀ a, (some (⟨kb, off2, none⟩ : Addr)) = some a → 0 < sz → (Value.slice A17 n17 c17).ownBlock ≠ some a.block from fun a ha h0 e => by
            rcases hat17 with h | h
            · rw [h] at e; exact HVK16.out a ha h0 e
            · rw [h] at e; injection e with e
              obtain ⟨b2, o2, e3, hb3, _⟩ := HRD16.out.2.2.2 h0
              rw [ha] at e3; injection e3 with e3; rw [e3] at e; simp only at e; omega)
          have q17 := HATK.out _ HRD17.out
          clear hO17 hg17 hat17 hn17 hacc17
          go_wp2_with fail
          refine (HPO.out _ HB17.out).mono ?_
          rintro e w18 ⟨v18, rfl, hO18, hb18⟩
          obtain ⟨A18, c18, hv18, hc18, hm18⟩ := hO18.form
          subst hv18
          rw [ints_len] at hc18 ⊢
          have hR18 := OwnV.rd hO18
          rw [ints_len] at hR18
          have HENC := Lib.hid (ref_encode_any A18 ft.length c18 ft w18 hR18 HPF.out.2.2 (by have := HPF.out.2.1; omega) HPF.out.1)
          have HO18 := Lib.hid (HO17.out.below hb18)
          have HB18 := Lib.hid (HB17.out.trans (hb18.mono HB17.out.size))
          have HRD18 := Lib.hid (rdv_below HRD17.out hb18)
          have HVK18 := HVK17
          clear hO18 hb18 hR18 q17
          go_wp2_with fail
          refine (HENC.out).mono ?_
          rintro e w19 ⟨v19, rfl, hO19, hb19⟩
          obtain ⟨A19, c19, hv19, hr19⟩ := hO19.open_
          obtain ⟨n19, hn19⟩ : ∃ n19, (M.enc ft).length = n19 := ⟨_, rfl⟩
          rw [hn19] at hv19 hr19
          subst hv19
          have HR19 := Lib.hid hr19; have HN19 := Lib.hid hn19
          have HA19 := Lib.hid (HO18.out.below hb19)
          have HB19 := Lib.hid (HB18.out.trans (hb19.mono HB18.out.size))
          have hs19 := HB19.out.size
          have HRD19 := Lib.hid (rdv_below HRD18.out hb19)
          have HVK19 := HVK18
          clear hO19 hb19 hr19 hn19
          go_wp2_with (at_builtin; go_must (refine wpList_app _ rfl (.tmp 67) (.tmp 74) _ rfl w.heap.size w19.heap.size _ i0 Tryd.underlying24 HI.out HZ0.out HZ1.out HZ2.out (.slice A17 n17 c17) (acc17) HA19.out rfl A19 n19 c19 (M.enc ft) HR19.out rfl (by have h1 := HL14.out; have h2 := HNT.out; have h4 := HL17.out; have h5 := HELN.out; omega) hs19 ?_))
          intro v20 w20 hO20 hg20 hat20
          obtain ⟨A20, c20, hv20, -⟩ := hO20.open_
          obtain ⟨n20, hn20⟩ : ∃ n20, (acc17 ++ (M.enc ft)).length = n20 := ⟨_, rfl⟩
          rw [hn20] at hv20
          subst hv20
          obtain ⟨acc20, hacc20⟩ : ∃ acc20, acc17 ++ (M.enc ft) = acc20 := ⟨_, rfl⟩
          rw [hacc20] at hO20 hn20
          have HE20 := Lib.hid hacc20; have HO20 := Lib.hid hO20; have HNN20 := Lib.hid hn20
          have HB20 := Lib.hid (HB19.out.trans (below_own HA19.out hs19 hg20))
          have HL20 := Lib.hid (show acc20.length = (acc17).length + n19 by rw [← hacc20, List.length_append, HN19.out])
          have HRD20 := Lib.hid (rdv_grown HRD19.out hg20 HVK19.out)
          have HVK20 := Lib.hid (show ∀ a, (some (⟨kb, off2, none⟩ : Addr)) = some a → 0 < sz → (Value.slice A20 n20 c20).ownBlock ≠ some a.block from fun a ha h0 e => by
            rcases hat20 with h | h
            · rw [h] at e; exact HVK19.out a ha h0 e
            · rw [h] at e; injection e with e
              obtain ⟨b2, o2, e3, hb3, _⟩ := HRD19.out.2.2.2 h0
              rw [ha] at e3; injection e3 with e3; rw [e3] at e; simp only at e; omega)
          clear hO20 hg20 hat20 hn20 hacc20
          have HE21 := Lib.hid (show acc20 = M.segHead ds ++ (ds.map M.docBytes).flatten ++ M.uv sz ++ (((M.keys ds).take (k + 1)).map (M.termBytes (M.posts ds))).flatten by
            rw [HFT.out, HFTT.out, ← HE20.out, ← HE17.out, HE14.out]
            simp only [List.append_assoc])
          have HL21 := Lib.hid (show acc20.length ≤ 2457624 + 41100 * (k + 1) by
            have h1 := HL14.out; have h2 := HNT.out; have h4 := HL17.out; have h5 := HELN.out; have h6 := HL20.out; have h7 := HN19.out; omega)
          go_wp2
          go_roundw
          case rel => exact ⟨k + 1, n20, c20, A20, acc20, by go_num, rfl, by omega, HE21, HL21, HO20, HB20, HRD20, HVK20, Lib.hid HNN20.out.symm⟩
          case measure => simp [intOf]; omega
        · have HF := Lib.hid (show acc14 = M.segPre ds by
            rw [HE14.out, show (M.keys ds).take k = M.keys ds from List.take_of_length_le (by rw [HKN.out]; omega), ← HKN.out]
            rfl)
          have HPB := Lib.hid (show M.segBytes ds = acc14 ++ M.four (M.sum acc14) by rw [HF.out]; rfl)
          obtain ⟨A', c', hv', hr'⟩ := HO14.out.open_
          injection hv' with e1 e2 e3
          subst e1 e3
          clear e2
          rw [← HNN14.out] at hr'
          have hcc := hr'.cap; have hcc2 := hr'.max
          have HSU := Lib.hid (ref_sum_any A14 n14 c14 _ acc14 w14 hr')
          have hsl := M.sum_lt acc14
          obtain ⟨sm, hsm⟩ : ∃ sm, M.sum acc14 = sm := ⟨_, rfl⟩
          rw [hsm] at HSU hsl HPB
          have HFO := Lib.hid (fun (W : World) => ref_four_any sm W hsl)
          have HFL := Lib.hid (M.four_len sm)
          obtain ⟨fo, hfo⟩ : ∃ fo, M.four sm = fo := ⟨_, rfl⟩
          rw [hfo] at HFO HFL HPB
          clear hr' HF hsm hfo HE14 HRD14 HVK14
          go_wp2_with fail
          refine HSU.out.mono ?_
          rintro e w15 ⟨rfl, hw15⟩
          subst hw15
          go_wp2_with fail
          refine (HFO.out _).mono ?_
          rintro e w16 ⟨v16, rfl, hO16, hb16⟩
          obtain ⟨A16, c16, hv16, hr16⟩ := hO16.open_
          obtain ⟨n16, hn16⟩ : ∃ n16, (fo).length = n16 := ⟨_, rfl⟩
          rw [hn16] at hv16 hr16
          subst hv16
          have HR16 := Lib.hid hr16; have HN16 := Lib.hid hn16
          have HA16 := Lib.hid (HO14.out.below hb16)
          have HB16 := Lib.hid (HB14.out.trans (hb16.mono HB14.out.size))
          have hs16 := HB16.out.size
          clear hO16 hb16 hr16 hn16
          go_wp2_with (at_builtin; go_must (refine wpList_app _ rfl (.tmp 76) (.tmp 79) _ rfl w.heap.size w16.heap.size _ i0 Tryd.underlying24 HI.out HZ0.out HZ1.out HZ2.out (.slice A14 n14 c14) (acc14) HA16.out rfl A16 n16 c16 (fo) HR16.out rfl (by have h1 := HL14.out; have h2 := HFL.out; omega) hs16 ?_))
          intro v17 w17 hO17 hg17 hat17
          obtain ⟨A17, c17, hv17, -⟩ := hO17.open_
          obtain ⟨n17, hn17⟩ : ∃ n17, (acc14 ++ (fo)).length = n17 := ⟨_, rfl⟩
          rw [hn17] at hv17
          subst hv17
          obtain ⟨acc17, hacc17⟩ : ∃ acc17, acc14 ++ (fo) = acc17 := ⟨_, rfl⟩
          rw [hacc17] at hO17 hn17
          have HE17 := Lib.hid hacc17; have HO17 := Lib.hid hO17; have HNN17 := Lib.hid hn17
          have HB17 := Lib.hid (HB16.out.trans (below_own HA16.out hs16 hg17))
          have HL17 := Lib.hid (show acc17.length = (acc14).length + n16 by rw [← hacc17, List.length_append, HN16.out])
          clear hO17 hg17 hat17 hn17 hacc17
          go_wp2
          go_ret
          exact ⟨_, rfl, by rw [HPB.out, HE17.out]; exact HO17.out, HB17.out⟩
end Go.Proofs.YthhgelaifapmmaaDoor
