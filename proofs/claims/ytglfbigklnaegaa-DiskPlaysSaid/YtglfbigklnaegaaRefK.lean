/-
  What the document's Rename does where it is done, by a contract.
-/
import Derived.Test.YtglfbigklnaegaaRefJ
namespace Go.Proofs.Ytglfbigklnaegaa
open Go.RowKit Mem FM
set_option linter.unusedVariables false
set_option maxRecDepth 100000
variable {K : Nat → Prop}

set_option maxHeartbeats 8000000 in
theorem ref_rename_main (X : Nat) (F : Nat → Prop) (v : Value) (fs : List (File Sl)) (s : St) (nm to : ByteArray) (w : World) (hR : RefF K w F X v fs s) (hs : nm.size ≤ 9223372036854775807) (hs2 : to.size ≤ 9223372036854775807) (h1 : nameOk nm = true) (h2 : nameOk to = true) (hne : ¬ nm.data.toList = to.data.toList) (ht : thereE s nm = 0) (i : Nat) (hi : i < fs.length) (hpl : placeOf nm.data.toList fs = (i : Int)) (hfi : find nm.data.toList fs = some fs[i]) (hsh : ¬ fs[i].sure < fs[i].data.length) (hoff : s.off = false) (hfu : (s.fuse == 1) = false) (ho : s.ops + 1 < 1099511627776) :
    Calls Try.prog 23 #[.pointer (some ⟨X, 0, none⟩), .string nm, .string to] w (RDid K F X 0 (s.op (renameF nm.data.toList to.data.toList fs[i].bare s.files)) w) := by
  have HOP := Lib.hid (fun (W : World) (hb : Below w.heap.size w W) => ref_op_any X F v fs s W (hR.below hb) ho)
  rw [hoff, hfu] at HOP
  have HFI := Lib.hid hfi
  clear hfi
  obtain ⟨i1, hi1, hy0, hy1, hy2⟩ := info_parts Try.infoF
  have HI1 := Lib.hid hi1; have HY0 := Lib.hid hy0; have HY1 := Lib.hid hy1; have HY2 := Lib.hid hy2
  clear hi1 hy0 hy1 hy2
  have HN1 := Lib.hid (ref_name_any nm w hs)
  have HN2 := Lib.hid (ref_name_any to w hs2)
  have HTH := Lib.hid (ref_there_any X F v fs s nm w hR hs)
  have HR := Lib.hid hR
  rw [h1] at HN1
  rw [h2] at HN2
  rw [ht] at HTH
  have HNE := Lib.hid hne
  have hq : (nm.toList == to.toList) = false := by rw [eq_names]; simpa using hne
  have HAT := Lib.hid (fun (W : World) (hb : Below w.heap.size w W) => ref_at_any X F v fs s nm W (hR.below hb))
  simp only [hpl] at HAT
  obtain ⟨A0, c0', rfl, hcc, hccm⟩ := hR.form
  obtain ⟨g, rfl, hg, _, _, q0, q1, q2⟩ := hR.at_ hi
  have c0 := hR.1.c0
  have HX0 := Lib.hid (hR.2.2.2.2.2.2.2.2 X hR.2.1)
  have hXl := hR.2.2.2.2.2.2.2.2 X hR.2.1
  have hrdf := (hR.2.2.2.2.2.2.1 fs[i] (List.getElem_mem hi))
  have HRDF := Lib.hid hrdf
  have hnn : fs.length < 1099511627776 := by have := hR.2.2.2.2.2.2.2.1; omega
  obtain ⟨nf, hnf⟩ : ∃ nf, fs.length = nf := ⟨_, rfl⟩
  have HNF := Lib.hid hnf
  rw [hnf] at hcc c0 hnn
  have hin : (i : Int) < (nf : Int) := by omega
  have hin0 : (0 : Int) ≤ (i : Int) := by omega
  obtain ⟨nm0, hnm0⟩ : ∃ nm0, fs[i].name = nm0 := ⟨_, rfl⟩
  obtain ⟨L, hL⟩ : ∃ L, fs[i].data.length = L := ⟨_, rfl⟩
  obtain ⟨S, hS⟩ : ∃ S, fs[i].sure = S := ⟨_, rfl⟩
  obtain ⟨xA, hxA⟩ : ∃ a, fs[i].x.A = a := ⟨_, rfl⟩
  obtain ⟨xc, hxc⟩ : ∃ a, fs[i].x.c = a := ⟨_, rfl⟩
  have hcm2 := hrdf.1.rd.max
  have hLc := hrdf.1.rd.cap
  rw [hL] at hLc
  rw [hxc] at hLc hcm2
  rw [hnm0] at q0
  rw [hL, hxA, hxc] at q1
  rw [hS] at q2
  have HL := Lib.hid hL; have HS := Lib.hid hS; have HXA := Lib.hid hxA; have HXC := Lib.hid hxc
  have hSL : S ≤ L := by have := hrdf.2; omega
  clear hR h1 h2 hne ht hpl hrdf hnf hnm0 hL hS hxA hxc
  have hsh' : ¬ S < L := by rw [← HS.out, ← HL.out]; exact hsh
  clear hsh hoff hfu
  have hq2 : decide ((S : Int) < (L : Int)) = false := by simp; omega
  go_enter Try.func23, Try.ntmps23
  go_wp2_with fail
  refine HN1.out.mono ?_
  rintro e w1 ⟨rfl, rfl⟩
  go_wp2_with fail
  refine HN2.out.mono ?_
  rintro e w2 ⟨rfl, rfl⟩
  go_wp2_with fail
  refine HTH.out.mono ?_
  rintro e w3 ⟨rfl, rfl⟩
  go_wp2_with fail
  have HKEEP := Lib.hid (show ∀ W : World, Below w3.heap.size w3 W → W.cell? ⟨X, 0, none⟩ = some (.slice (some ⟨g, 0, none⟩) nf c0') ∧ W.cell? ⟨g, i * 3, none⟩ = some (.string ⟨nm0.toArray⟩) ∧ W.cell? ⟨g, i * 3 + 1, none⟩ = some (.slice xA L xc) ∧ W.cell? ⟨g, i * 3 + 2, none⟩ = some (.int .i64 (S : Int)) ∧ Below w3.heap.size w3 W from
    fun W hb => ⟨(hb.cell (p := ⟨X, 0, none⟩) hXl).trans c0, (hb.cell (p := ⟨g, i * 3, none⟩) hg).trans q0, (hb.cell (p := ⟨g, i * 3 + 1, none⟩) hg).trans q1, (hb.cell (p := ⟨g, i * 3 + 2, none⟩) hg).trans q2, hb⟩)
  have HBA := Lib.hid (show ∀ o : Obj, Below w3.heap.size w3 ((w3.alloc o).drew) from fun o => by
    have hb3 := (Below.refl w3.heap.size w3).alloc (Nat.le_refl _) o
    exact ⟨hb3.os, hb3.tape, hb3.output, hb3.size, hb3.block⟩)
  go_region_held3 (fun W => W.cell? ⟨X, 0, none⟩ = some (.slice (some ⟨g, 0, none⟩) nf c0') ∧ W.cell? ⟨g, i * 3, none⟩ = some (.string ⟨nm0.toArray⟩) ∧ W.cell? ⟨g, i * 3 + 1, none⟩ = some (.slice xA L xc) ∧ W.cell? ⟨g, i * 3 + 2, none⟩ = some (.int .i64 (S : Int)) ∧ Below w3.heap.size w3 W)
    (first | exact hHeld | exact HKEEP.out _ ⟨rfl, rfl, rfl, Nat.le_refl _, fun _ _ => rfl⟩ | exact HKEEP.out _ (HBA.out _) | fail)
    (first
      | (go_at_call 38; refine (HAT.out _ ‹_ ∧ _ ∧ _ ∧ _ ∧ Below w3.heap.size w3 _›.2.2.2.2).mono ?_; rintro e w2 ⟨rfl, rfl⟩)
      | fail)
  all_goals
    have hb4 := HBA.out (.cells #[.string ⟨nm0.toArray⟩, .slice xA L xc, .int .i64 (S : Int)] 60)
    have y1 : ((w3.alloc (.cells #[.string ⟨nm0.toArray⟩, .slice xA L xc, .int .i64 (S : Int)] 60)).drew).cell? ⟨w3.heap.size, 1, none⟩ = some (.slice xA L xc) := (cellAt 1 (heapNew (w := w3) (.cells #[.string ⟨nm0.toArray⟩, .slice xA L xc, .int .i64 (S : Int)] 60))).trans rfl
    have y2 : ((w3.alloc (.cells #[.string ⟨nm0.toArray⟩, .slice xA L xc, .int .i64 (S : Int)] 60)).drew).cell? ⟨w3.heap.size, 2, none⟩ = some (.int .i64 (S : Int)) := (cellAt 2 (heapNew (w := w3) (.cells #[.string ⟨nm0.toArray⟩, .slice xA L xc, .int .i64 (S : Int)] 60))).trans rfl
    have hz4 : w3.heap.size < ((w3.alloc (.cells #[.string ⟨nm0.toArray⟩, .slice xA L xc, .int .i64 (S : Int)] 60)).drew).heap.size := by show _ < (w3.alloc _).heap.size; simp
    have HB4 := Lib.hid hb4
    clear hb4 c0 q0 q1 q2 HKEEP HBA HAT
    generalize ((w3.alloc (.cells #[.string ⟨nm0.toArray⟩, .slice xA L xc, .int .i64 (S : Int)] 60)).drew) = w4 at *
    go_wp2_with fail
    refine (HOP.out w4 HB4.out).mono ?_
    rintro e w5 ⟨rfl, hR5, ht5⟩
    have HDR := Lib.hid (ref_drop_any X F _ fs _ nm w5 hR5)
    have HT5 := Lib.hid ((Turned.of_below (F := F) HB4.out).trans (ht5.more (F' := F) (fun k _ hk => by subst hk; exact HR.out.2.1)))
    have z1 := ((ht5.cell (p := ⟨w3.heap.size, 1, none⟩) hz4 (fun e => by have := HX0.out; simp only at e; omega)).trans y1)
    have z2 := ((ht5.cell (p := ⟨w3.heap.size, 2, none⟩) hz4 (fun e => by have := HX0.out; simp only at e; omega)).trans y2)
    have hz5 := Nat.lt_of_lt_of_le hz4 ht5.size
    have hF5 : ¬ F w3.heap.size := fun h => by have := HR.out.2.2.2.2.2.2.2.2 _ h; omega
    clear hR5 ht5 y1 y2 hz4 HOP HB4
    go_wp2_with fail
    refine HDR.out.mono ?_
    rintro e w6 ⟨rfl, F6, v6, hR6, ht6, hs6⟩
    have HDR2 := Lib.hid (ref_drop_any X F6 _ _ _ to w6 hR6)
    obtain ⟨b6, hz6, hF6⟩ := box_stays hz5 hF5 ht6 hs6
    have y1 := (b6 1).trans z1
    have y2 := (b6 2).trans z2
    have HT6 := Lib.hid (HT5.out.trans ht6)
    have HS6 := Lib.hid ((Spread.refl F w3).trans HT5.out.size hs6)
    clear hR6 ht6 hs6 HDR b6 z1 z2 hz5 hF5
    go_wp2_with fail
    refine HDR2.out.mono ?_
    rintro e w7 ⟨rfl, F7, v7, hR7, ht7, hs7⟩
    obtain ⟨b7, hz7, hF7⟩ := box_stays hz6 hF6 ht7 hs7
    have z1 := (b7 1).trans y1
    have z2 := (b7 2).trans y2
    have HT7 := Lib.hid (HT6.out.trans' HS6.out ht7)
    have HS7 := Lib.hid (HS6.out.trans HT6.out.size hs7)
    clear ht7 hs7 HDR2 b7 y1 y2 hz6 hF6 HT6 HS6 HT5
    obtain ⟨fs7, hfs7⟩ : ∃ fs7, del to.data.toList (del nm.data.toList fs) = fs7 := ⟨_, rfl⟩
    rw [hfs7] at hR7
    obtain ⟨dat, hdat⟩ : ∃ dat, fs[i].data = dat := ⟨_, rfl⟩
    have hdl : dat.length = L := by rw [← hdat]; exact HL.out
    have HST := Lib.hid (show Steady K F7 w7 xA dat.length xc dat by
      have h := HRDF.out.1
      rw [HXA.out, HXC.out, hdat] at h
      exact h.step HT7.out HS7.out)
    have HFN := Lib.hid (show find to.data.toList fs7 = none by rw [← hfs7, find_del, if_pos rfl])
    have HUS := Lib.hid (show L + used fs7 ≤ s.room ∧ fs7.length + 1 ≤ s.ops + 1 by
      have h1 : used (del nm.data.toList fs) + L = used fs := by
        have := used_del HR.out.2.2.2.2.2.1 HFI.out
        rwa [HL.out] at this
      have h2 := used_del_le to.data.toList (del nm.data.toList fs)
      rw [hfs7] at h2
      have h3 := HR.out.2.2.2.2.2.2.2.1
      rw [← HR.out.2.2.2.2.1, bare_used] at h3
      have h4 := del_len_le to.data.toList (del nm.data.toList fs)
      have h5 := del_len_le nm.data.toList fs
      rw [hfs7] at h4
      omega)
    have HBARE := Lib.hid (show ins (⟨to.data.toList, dat, S, ()⟩ : File Unit) (bare fs7) = renameF nm.data.toList to.data.toList fs[i].bare s.files by
      unfold renameF
      rw [← hfs7, bare_del, bare_del, HR.out.2.2.2.2.1, del_del]
      show _ = ins ⟨to.data.toList, fs[i].data, fs[i].sure, ()⟩ _
      rw [hdat, HS.out])
    have HSX := Lib.hid (show (⟨(s.op s.files).room, renameF nm.data.toList to.data.toList fs[i].bare s.files, (s.op s.files).ops, (s.op s.files).fuse, (s.op s.files).off⟩ : St) = s.op (renameF nm.data.toList to.data.toList fs[i].bare s.files) from rfl)
    have HSR := Lib.hid (show (s.op s.files).room = s.room ∧ (s.op s.files).ops = s.ops + 1 from ⟨rfl, rfl⟩)
    clear hfs7 hdat HXA HXC HRDF
    generalize s.op s.files = so at *
    obtain ⟨ff, hff⟩ : ∃ ff : File Sl, ff = ⟨to.data.toList, dat, S, ⟨xA, xc⟩⟩ := ⟨_, rfl⟩
    have HFF := Lib.hid hff
    have HFNM := Lib.hid (show ff.name = to.data.toList by rw [hff])
    have HFR := Lib.hid (show ∀ w : World, RdR (w.alloc (.cells #[.string to, .slice xA L xc, .int .i64 (S : Int)] 60)) (some ⟨w.heap.size, 0, none⟩) 1 [ff] from fun w => by
      have h := RdR.fresh w (⟨to.data.toList, dat, S, ⟨xA, xc⟩⟩ : File Sl)
      simp only [hdl] at h
      rw [hff]
      exact h)
    have HDL := Lib.hid hdl
    clear hff hdl
    obtain ⟨A7, c7, rfl, hc7, hcm7⟩ := hR7.form
    obtain ⟨n7, hn7⟩ : ∃ n7, fs7.length = n7 := ⟨_, rfl⟩
    have HN7 := Lib.hid hn7
    have d0 := hR7.1.c0
    rw [hn7] at hc7 d0
    have hnn7 : n7 < 1099511627776 := by have := hR7.2.2.2.2.2.2.2.1; omega
    have hX7 := hR7.2.2.2.2.2.2.2.2 X hR7.2.1
    have HW7 := Lib.hid hR7.whole
    rw [hn7] at HW7
    have HR7 := Lib.hid hR7
    have HK0 := Lib.hid (show ∀ j (h : j < fs7.length), j < 0 → fs7[j].name < ff.name from fun j _ hj => by omega)
    clear hR7 hn7
    go_wp2
    go_loop [9] (fun p => ∃ k : Nat, p = .int .i64 (k : Int) ∧ k ≤ n7 ∧ Hid (∀ j (h : j < fs7.length), j < k → fs7[j].name < ff.name)) (fun p => n7 - (intOf p).toNat)
    case atStart => exact ⟨0, rfl, by omega, HK0⟩
    case round =>
      obtain ⟨k, rfl, hk, HK⟩ := hrel
      by_cases hlt : k < n7
      · have hkx : k < fs7.length := by rw [HN7.out]; exact hlt
        obtain ⟨gq, rfl, hgq, _, _, q, _, _⟩ := HR7.out.at_ hkx
        have hil : (k : Int) < (n7 : Int) := by omega
        by_cases he : fs7[k].name < ff.name
        · have HK2 := Lib.hid (show ∀ j (h : j < fs7.length), j < k + 1 → fs7[j].name < ff.name from fun j h hj => by
            by_cases e : j = k
            · subst e; exact he
            · exact HK.out j h (by omega))
          have hq : Op.bytesLess fs7[k].name to.toList = true := by rw [bytesLess_eq, Lib.toList_data]; rw [HFNM.out] at he; simpa using he
          clear he
          generalize fs7[k].name = y at *
          go_wp2
          go_round
          case rel => exact ⟨k + 1, by go_num, by omega, HK2⟩
          case measure => simp [intOf]; omega
        · have HX := Lib.hid (show ∀ h : k < fs7.length, ff.name < fs7[k].name from fun _ => lt_of_not he (by rw [HFNM.out]; exact find_none HFN.out _ (List.getElem_mem hkx)))
          have hq : Op.bytesLess fs7[k].name to.toList = false := by rw [bytesLess_eq, Lib.toList_data]; rw [HFNM.out] at he; simpa using he
          clear he
          obtain ⟨y, hy⟩ : ∃ y, fs7[k].name = y := ⟨_, rfl⟩
          rw [hy] at q hq
          clear hy
          go_wp2_with (at_builtin; go_must (refine wpList_appR _ rfl (.tmp 74) (.tmp 80) _ rfl w7.heap.size i1 Try.underlying29 HI1.out HY0.out HY1.out HY2.out (.slice none 0 0) [] (World.ownsRow_nil _ _ _ _) rfl (some ⟨gq, 0, none⟩) k c7 (fs7.take k) (HW7.out.upto hk) rfl (by have := HN7.out; simp; omega) (Nat.le_refl _) ?_))
          intro v8 w8 hO8 hg8
          have hb8 : Below w7.heap.size w7 w8 := (Below.refl _ w7).grown hg8 (Nat.le_refl _) (fun k' hk' => by simp [Value.ownBlock] at hk')
          obtain ⟨A8, cc8, hv8⟩ := hO8.form
          have HO8 := Lib.hid hO8; have HB8 := Lib.hid hb8
          have hl8 : (fs7.take k).length = k := by have := HN7.out; simp; omega
          rw [hl8] at hv8
          subst hv8
          have hsz8 := hb8.size
          have z18 := (hb8.cell (p := ⟨w3.heap.size, 1, none⟩) hz7).trans z1
          have z28 := (hb8.cell (p := ⟨w3.heap.size, 2, none⟩) hz7).trans z2
          clear hO8 hg8 hb8 hl8
          go_wp2_with (at_builtin; go_must (refine wpList_appR _ rfl (.tmp 82) (.tmp 89) _ rfl w7.heap.size i1 Try.underlying29 HI1.out HY0.out HY1.out HY2.out (.slice A8 k cc8) (fs7.take k) (HO8.out.alloc _) rfl (some ⟨w8.heap.size, 0, none⟩) 1 1 [ff] (HFR.out w8) rfl (by have := HN7.out; simp; omega) (by simp; omega) ?_))
          intro v9 w9 hO9 hg9
          have hb9 : Below w7.heap.size w7 w9 := (HB8.out.alloc hsz8 _).grown hg9 (by simp; omega) (fun k' hk' => (HO8.out.lt k' hk').1)
          obtain ⟨A9, cc9, hv9⟩ := hO9.form
          have hl9 : (fs7.take k ++ [ff]).length = k + 1 := by have := HN7.out; simp; omega
          rw [hl9] at hv9
          subst hv9
          have d09 : w9.cell? ⟨X, 0, none⟩ = some (.slice (some ⟨gq, 0, none⟩) n7 c7) := (hb9.cell (p := ⟨X, 0, none⟩) hX7).trans d0
          have HW9 := Lib.hid (HR7.out.below hb9).whole
          rw [HN7.out] at HW9
          have HO9 := Lib.hid hO9; have HB9 := Lib.hid hb9
          have hsz9 := hb9.size
          clear hO9 hg9 hb9 hl9 z18 z28
          go_wp2_with (at_builtin; go_must (refine wpList_appR _ rfl (.tmp 91) (.tmp 97) _ rfl w7.heap.size i1 Try.underlying29 HI1.out HY0.out HY1.out HY2.out (.slice A9 (k + 1) cc9) (fs7.take k ++ [ff]) HO9.out rfl _ _ _ (fs7.drop k) ?_ rfl (by have := HN7.out; simp; omega) hsz9 ?_))
          · have h0 := HW9.out.from_ hk hc7
            first | exact h0 | (simpa [add_none, show ¬ c7 = k by omega] using h0) | (simpa [add_none, hck] using h0) | (simpa [show n7 - k = 0 by omega] using h0) | fail
          intro v10 w10 hO10' hg10
          have hO10 : OwnR w10 w7.heap.size v10 (fs7.take k ++ ff :: fs7.drop k) := by simpa using hO10'
          clear hO10'
          have hb10 : Below w7.heap.size w7 w10 := HB9.out.grown hg10 hsz9 (fun k' hk' => (HO9.out.lt k' hk').1)
          obtain ⟨A10, cc10, hv10⟩ := hO10.form
          have hls : fs7.take k ++ ff :: fs7.drop k = ins ff fs7 := (ins_at (f := ff) (by rw [HN7.out]; exact hk) HK.out HX.out).symm
          have hln10 : (fs7.take k ++ ff :: fs7.drop k).length = n7 + 1 := by have := HN7.out; simp; omega
          rw [hls] at hO10 hv10 hln10
          have hfin := HR7.out.relaid hb10 hO10 (Rise.ins HR7.out.2.2.2.2.2.1 (by rw [HFNM.out]; exact HFN.out)) (fun f hf => by
            rcases mem_ins.1 hf with rfl | hf
            · have h := HST.out
              have e := HFF.out
              rw [e]
              have hdl := HDL.out
              exact ⟨h, by show S ≤ dat.length; omega⟩
            · exact HR7.out.2.2.2.2.2.2.1 f hf) (by
            rw [used_ins, HFF.out]
            have h1 := HUS.out.1
            have h2 := HDL.out
            show dat.length + _ ≤ so.room
            rw [HSR.out.1, h2]; exact h1) (by
            show _ ≤ so.ops
            rw [hln10, HSR.out.2, ← HN7.out]; exact HUS.out.2)
          rw [hln10] at hv10
          subst hv10
          obtain ⟨FF, hRf, htf, hsf⟩ := hfin
          have hbr : bare (ins ff fs7) = renameF nm.data.toList to.data.toList fs[i].bare s.files := by rw [bare_ins, ← HBARE.out, HFF.out]; rfl
          rw [hbr] at hRf
          have d10 : w10.cell? ⟨X, 0, none⟩ = some (.slice (some ⟨gq, 0, none⟩) n7 c7) := (hb10.cell (p := ⟨X, 0, none⟩) hX7).trans d0
          have hfz : w10.frozen? ⟨X, 0, none⟩ = false := freeAt 0 (HR7.out.below hb10).1
          have HRF := Lib.hid hRf
          have HTF := Lib.hid (HT7.out.trans' HS7.out htf)
          have HSF := Lib.hid (HS7.out.trans HT7.out.size hsf)
          clear hRf htf hsf hbr hb10 hls hln10 hO10 hg10 d09
          go_wp2
          go_ret
          have h9 : RefF K _ FF X _ _ ⟨so.room, renameF nm.data.toList to.data.toList fs[i].bare s.files, so.ops, so.fuse, so.off⟩ := HRF.out
          rw [HSX.out] at h9
          exact ⟨rfl, FF, ⟨_, _, h9⟩, HTF.out, HSF.out⟩
      · have HX := Lib.hid (show ∀ h : k < fs7.length, ff.name < fs7[k].name from fun h => absurd h (by rw [HN7.out]; exact hlt))
        by_cases hck : c7 = k
        · have hck' : k = c7 := hck.symm
          clear hck
          subst hck'
          go_wp2_with (at_builtin; go_must (refine wpList_appR _ rfl (.tmp 74) (.tmp 80) _ rfl w7.heap.size i1 Try.underlying29 HI1.out HY0.out HY1.out HY2.out (.slice none 0 0) [] (World.ownsRow_nil _ _ _ _) rfl A7 k k (fs7.take k) (HW7.out.upto hk) rfl (by have := HN7.out; simp; omega) (Nat.le_refl _) ?_))
          intro v8 w8 hO8 hg8
          have hb8 : Below w7.heap.size w7 w8 := (Below.refl _ w7).grown hg8 (Nat.le_refl _) (fun k' hk' => by simp [Value.ownBlock] at hk')
          obtain ⟨A8, cc8, hv8⟩ := hO8.form
          have HO8 := Lib.hid hO8; have HB8 := Lib.hid hb8
          have hl8 : (fs7.take k).length = k := by have := HN7.out; simp; omega
          rw [hl8] at hv8
          subst hv8
          have hsz8 := hb8.size
          have z18 := (hb8.cell (p := ⟨w3.heap.size, 1, none⟩) hz7).trans z1
          have z28 := (hb8.cell (p := ⟨w3.heap.size, 2, none⟩) hz7).trans z2
          clear hO8 hg8 hb8 hl8
          go_wp2_with (at_builtin; go_must (refine wpList_appR _ rfl (.tmp 82) (.tmp 89) _ rfl w7.heap.size i1 Try.underlying29 HI1.out HY0.out HY1.out HY2.out (.slice A8 k cc8) (fs7.take k) (HO8.out.alloc _) rfl (some ⟨w8.heap.size, 0, none⟩) 1 1 [ff] (HFR.out w8) rfl (by have := HN7.out; simp; omega) (by simp; omega) ?_))
          intro v9 w9 hO9 hg9
          have hb9 : Below w7.heap.size w7 w9 := (HB8.out.alloc hsz8 _).grown hg9 (by simp; omega) (fun k' hk' => (HO8.out.lt k' hk').1)
          obtain ⟨A9, cc9, hv9⟩ := hO9.form
          have hl9 : (fs7.take k ++ [ff]).length = k + 1 := by have := HN7.out; simp; omega
          rw [hl9] at hv9
          subst hv9
          have d09 : w9.cell? ⟨X, 0, none⟩ = some (.slice A7 n7 k) := (hb9.cell (p := ⟨X, 0, none⟩) hX7).trans d0
          have HW9 := Lib.hid (HR7.out.below hb9).whole
          rw [HN7.out] at HW9
          have HO9 := Lib.hid hO9; have HB9 := Lib.hid hb9
          have hsz9 := hb9.size
          clear hO9 hg9 hb9 hl9 z18 z28
          go_wp2_with (at_builtin; go_must (refine wpList_appR _ rfl (.tmp 91) (.tmp 97) _ rfl w7.heap.size i1 Try.underlying29 HI1.out HY0.out HY1.out HY2.out (.slice A9 (k + 1) cc9) (fs7.take k ++ [ff]) HO9.out rfl _ _ _ (fs7.drop k) ?_ rfl (by have := HN7.out; simp; omega) hsz9 ?_))
          · have h0 := HW9.out.from_ hk hc7
            first | exact h0 | (simpa [add_none, show ¬ k = k by omega] using h0) | (simpa [add_none, hck] using h0) | (simpa [show n7 - k = 0 by omega] using h0) | fail
          intro v10 w10 hO10' hg10
          have hO10 : OwnR w10 w7.heap.size v10 (fs7.take k ++ ff :: fs7.drop k) := by simpa using hO10'
          clear hO10'
          have hb10 : Below w7.heap.size w7 w10 := HB9.out.grown hg10 hsz9 (fun k' hk' => (HO9.out.lt k' hk').1)
          obtain ⟨A10, cc10, hv10⟩ := hO10.form
          have hls : fs7.take k ++ ff :: fs7.drop k = ins ff fs7 := (ins_at (f := ff) (by rw [HN7.out]; exact hk) HK.out HX.out).symm
          have hln10 : (fs7.take k ++ ff :: fs7.drop k).length = n7 + 1 := by have := HN7.out; simp; omega
          rw [hls] at hO10 hv10 hln10
          have hfin := HR7.out.relaid hb10 hO10 (Rise.ins HR7.out.2.2.2.2.2.1 (by rw [HFNM.out]; exact HFN.out)) (fun f hf => by
            rcases mem_ins.1 hf with rfl | hf
            · have h := HST.out
              have e := HFF.out
              rw [e]
              have hdl := HDL.out
              exact ⟨h, by show S ≤ dat.length; omega⟩
            · exact HR7.out.2.2.2.2.2.2.1 f hf) (by
            rw [used_ins, HFF.out]
            have h1 := HUS.out.1
            have h2 := HDL.out
            show dat.length + _ ≤ so.room
            rw [HSR.out.1, h2]; exact h1) (by
            show _ ≤ so.ops
            rw [hln10, HSR.out.2, ← HN7.out]; exact HUS.out.2)
          rw [hln10] at hv10
          subst hv10
          obtain ⟨FF, hRf, htf, hsf⟩ := hfin
          have hbr : bare (ins ff fs7) = renameF nm.data.toList to.data.toList fs[i].bare s.files := by rw [bare_ins, ← HBARE.out, HFF.out]; rfl
          rw [hbr] at hRf
          have d10 : w10.cell? ⟨X, 0, none⟩ = some (.slice A7 n7 k) := (hb10.cell (p := ⟨X, 0, none⟩) hX7).trans d0
          have hfz : w10.frozen? ⟨X, 0, none⟩ = false := freeAt 0 (HR7.out.below hb10).1
          have HRF := Lib.hid hRf
          have HTF := Lib.hid (HT7.out.trans' HS7.out htf)
          have HSF := Lib.hid (HS7.out.trans HT7.out.size hsf)
          clear hRf htf hsf hbr hb10 hls hln10 hO10 hg10 d09
          go_wp2
          go_ret
          have h9 : RefF K _ FF X _ _ ⟨so.room, renameF nm.data.toList to.data.toList fs[i].bare s.files, so.ops, so.fuse, so.off⟩ := HRF.out
          rw [HSX.out] at h9
          exact ⟨rfl, FF, ⟨_, _, h9⟩, HTF.out, HSF.out⟩
        · obtain ⟨gq, rfl⟩ : ∃ gq, A7 = some ⟨gq, 0, none⟩ := by
            rcases HR7.out.2.2.1.2 with ⟨h1, h0⟩ | ⟨g, cap, cur, h1, _⟩
            · injection h1 with e1 e2 e3
              have := HN7.out; omega
            · injection h1 with e1 e2 e3
              exact ⟨g, e1⟩
          go_wp2_with (at_builtin; go_must (refine wpList_appR _ rfl (.tmp 74) (.tmp 80) _ rfl w7.heap.size i1 Try.underlying29 HI1.out HY0.out HY1.out HY2.out (.slice none 0 0) [] (World.ownsRow_nil _ _ _ _) rfl (some ⟨gq, 0, none⟩) k c7 (fs7.take k) (HW7.out.upto hk) rfl (by have := HN7.out; simp; omega) (Nat.le_refl _) ?_))
          intro v8 w8 hO8 hg8
          have hb8 : Below w7.heap.size w7 w8 := (Below.refl _ w7).grown hg8 (Nat.le_refl _) (fun k' hk' => by simp [Value.ownBlock] at hk')
          obtain ⟨A8, cc8, hv8⟩ := hO8.form
          have HO8 := Lib.hid hO8; have HB8 := Lib.hid hb8
          have hl8 : (fs7.take k).length = k := by have := HN7.out; simp; omega
          rw [hl8] at hv8
          subst hv8
          have hsz8 := hb8.size
          have z18 := (hb8.cell (p := ⟨w3.heap.size, 1, none⟩) hz7).trans z1
          have z28 := (hb8.cell (p := ⟨w3.heap.size, 2, none⟩) hz7).trans z2
          clear hO8 hg8 hb8 hl8
          go_wp2_with (at_builtin; go_must (refine wpList_appR _ rfl (.tmp 82) (.tmp 89) _ rfl w7.heap.size i1 Try.underlying29 HI1.out HY0.out HY1.out HY2.out (.slice A8 k cc8) (fs7.take k) (HO8.out.alloc _) rfl (some ⟨w8.heap.size, 0, none⟩) 1 1 [ff] (HFR.out w8) rfl (by have := HN7.out; simp; omega) (by simp; omega) ?_))
          intro v9 w9 hO9 hg9
          have hb9 : Below w7.heap.size w7 w9 := (HB8.out.alloc hsz8 _).grown hg9 (by simp; omega) (fun k' hk' => (HO8.out.lt k' hk').1)
          obtain ⟨A9, cc9, hv9⟩ := hO9.form
          have hl9 : (fs7.take k ++ [ff]).length = k + 1 := by have := HN7.out; simp; omega
          rw [hl9] at hv9
          subst hv9
          have d09 : w9.cell? ⟨X, 0, none⟩ = some (.slice (some ⟨gq, 0, none⟩) n7 c7) := (hb9.cell (p := ⟨X, 0, none⟩) hX7).trans d0
          have HW9 := Lib.hid (HR7.out.below hb9).whole
          rw [HN7.out] at HW9
          have HO9 := Lib.hid hO9; have HB9 := Lib.hid hb9
          have hsz9 := hb9.size
          clear hO9 hg9 hb9 hl9 z18 z28
          go_wp2_with (at_builtin; go_must (refine wpList_appR _ rfl (.tmp 91) (.tmp 97) _ rfl w7.heap.size i1 Try.underlying29 HI1.out HY0.out HY1.out HY2.out (.slice A9 (k + 1) cc9) (fs7.take k ++ [ff]) HO9.out rfl _ _ _ (fs7.drop k) ?_ rfl (by have := HN7.out; simp; omega) hsz9 ?_))
          · have h0 := HW9.out.from_ hk hc7
            first | exact h0 | (simpa [add_none, show ¬ c7 = k by omega] using h0) | (simpa [add_none, hck] using h0) | (simpa [show n7 - k = 0 by omega] using h0) | fail
          intro v10 w10 hO10' hg10
          have hO10 : OwnR w10 w7.heap.size v10 (fs7.take k ++ ff :: fs7.drop k) := by simpa using hO10'
          clear hO10'
          have hb10 : Below w7.heap.size w7 w10 := HB9.out.grown hg10 hsz9 (fun k' hk' => (HO9.out.lt k' hk').1)
          obtain ⟨A10, cc10, hv10⟩ := hO10.form
          have hls : fs7.take k ++ ff :: fs7.drop k = ins ff fs7 := (ins_at (f := ff) (by rw [HN7.out]; exact hk) HK.out HX.out).symm
          have hln10 : (fs7.take k ++ ff :: fs7.drop k).length = n7 + 1 := by have := HN7.out; simp; omega
          rw [hls] at hO10 hv10 hln10
          have hfin := HR7.out.relaid hb10 hO10 (Rise.ins HR7.out.2.2.2.2.2.1 (by rw [HFNM.out]; exact HFN.out)) (fun f hf => by
            rcases mem_ins.1 hf with rfl | hf
            · have h := HST.out
              have e := HFF.out
              rw [e]
              have hdl := HDL.out
              exact ⟨h, by show S ≤ dat.length; omega⟩
            · exact HR7.out.2.2.2.2.2.2.1 f hf) (by
            rw [used_ins, HFF.out]
            have h1 := HUS.out.1
            have h2 := HDL.out
            show dat.length + _ ≤ so.room
            rw [HSR.out.1, h2]; exact h1) (by
            show _ ≤ so.ops
            rw [hln10, HSR.out.2, ← HN7.out]; exact HUS.out.2)
          rw [hln10] at hv10
          subst hv10
          obtain ⟨FF, hRf, htf, hsf⟩ := hfin
          have hbr : bare (ins ff fs7) = renameF nm.data.toList to.data.toList fs[i].bare s.files := by rw [bare_ins, ← HBARE.out, HFF.out]; rfl
          rw [hbr] at hRf
          have d10 : w10.cell? ⟨X, 0, none⟩ = some (.slice (some ⟨gq, 0, none⟩) n7 c7) := (hb10.cell (p := ⟨X, 0, none⟩) hX7).trans d0
          have hfz : w10.frozen? ⟨X, 0, none⟩ = false := freeAt 0 (HR7.out.below hb10).1
          have HRF := Lib.hid hRf
          have HTF := Lib.hid (HT7.out.trans' HS7.out htf)
          have HSF := Lib.hid (HS7.out.trans HT7.out.size hsf)
          clear hRf htf hsf hbr hb10 hls hln10 hO10 hg10 d09
          go_wp2
          go_ret
          have h9 : RefF K _ FF X _ _ ⟨so.room, renameF nm.data.toList to.data.toList fs[i].bare s.files, so.ops, so.fuse, so.off⟩ := HRF.out
          rw [HSX.out] at h9
          exact ⟨rfl, FF, ⟨_, _, h9⟩, HTF.out, HSF.out⟩

end Go.Proofs.Ytglfbigklnaegaa
