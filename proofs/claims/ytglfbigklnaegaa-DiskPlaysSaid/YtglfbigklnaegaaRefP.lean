/-
  DiskRoom: all files together never have more bytes than there is room for, whatever is called.
-/
import Derived.Test.YtglfbigklnaegaaRefO
namespace Go.Proofs.Ytglfbigklnaegaa
open Go.RowKit Mem FM
set_option linter.unusedVariables false
set_option maxRecDepth 100000

theorem Two.new {B0 room : Nat} {w : World} {F : Nat → Prop} {D : Nat} (hd : DiskAt w F D (St.new room)) (hF : ∀ k, F k → B0 ≤ k) (hB : B0 ≤ w.heap.size) (hr : room ≤ 67108864) :
    Two B0 (w.alloc (.cells #[.slice none 0 0, .int .i64 (room : Int), .int .i64 0, .bool false, .int .i64 0] 31)) F (· = w.heap.size) D w.heap.size (St.new room) (St.new room) := by
  refine ⟨hd.alloc _, ⟨.slice none 0 0, [], heapNew _, rfl, World.ownsRow_nil _ _ _ _, fun k hk => by simp [Value.ownBlock] at hk, rfl, List.Pairwise.nil, fun f hf => by simp at hf, ⟨by simp [St.new, used], hr, by simp [St.new], by simp [St.new], by simp [St.new]⟩, fun k hk => by subst hk; simp⟩, fun k hk e => ?_, hF, fun k hk => by subst hk; exact hB, by simp; omega⟩
  have := hd.foot hk
  omega
theorem Two.sure_le {B0 D X : Nat} {w : World} {F G : Nat → Prop} {s t : St} (h : Two B0 w F G D X s t) {i : Nat} (hi : i < t.files.length) : t.files[i].sure ≤ t.files[i].data.length := by
  obtain ⟨v, fs, hR⟩ := h.2.1
  have h5 := hR.2.2.2.2.1
  have hi' : i < fs.length := by rw [← h5] at hi; simpa [bare] using hi
  have := (hR.2.2.2.2.2.2.1 fs[i] (List.getElem_mem hi')).2
  have e : t.files[i] = fs[i].bare := by
    have h2 : (bare fs)[i]? = some fs[i].bare := by unfold bare; rw [List.getElem?_map, List.getElem?_eq_getElem hi']; rfl
    rw [h5, List.getElem?_eq_getElem hi] at h2
    injection h2
  rw [e]; exact this
theorem usedU_take {fs : List (File Unit)} {i : Nat} (h : i < fs.length) : used (fs.take (i + 1)) = used (fs.take i) + fs[i].data.length := by
  unfold used
  rw [List.take_succ_eq_append_getElem h, List.map_append, List.sum_append]
  simp only [List.map_cons, List.map_nil, List.sum_cons, List.sum_nil, Nat.add_zero]
theorem usedU_le (fs : List (File Unit)) (i : Nat) : used (fs.take i) ≤ used fs := by
  have e : used fs = used (fs.take i) + used (fs.drop i) := by
    unfold used
    rw [← List.sum_append, ← List.map_append, List.take_append_drop]
  omega

/-- both disks, of one state, in the midst of a script -/
def Walk (w : World) (D X room i : Nat) (wr : World) : Prop := ∃ F G s, Two w.heap.size wr F G D X s s ∧ s.room = room ∧ s.ops ≤ i ∧ Named s ∧ Below w.heap.size w wr
/-- a list of names in memory -/
def RdNames (w : World) (B : Nat) (A : Option Addr) (n c : Nat) (fs : List (File Unit)) : Prop := n = fs.length ∧ n ≤ c ∧ c ≤ 9223372036854775807 ∧ (0 < n → ∃ g, A = some ⟨g, 0, none⟩ ∧ g < B ∧ ∀ i (hi : i < fs.length), w.cell? ⟨g, i, none⟩ = some (.string ⟨fs[i].name.toArray⟩))
theorem RdNames.below {w w' : World} {B n c : Nat} {A : Option Addr} {fs : List (File Unit)} (h : RdNames w B A n c fs) (hb : Below B w w') : RdNames w' B A n c fs := by
  obtain ⟨h1, h2, h3, h4⟩ := h
  refine ⟨h1, h2, h3, fun h0 => ?_⟩
  obtain ⟨g, e, hg, hc⟩ := h4 h0
  exact ⟨g, e, hg, fun i hi => (hb.cell (p := ⟨g, i, none⟩) hg).trans (hc i hi)⟩
theorem NamesAt.rd {w w' : World} {s : St} {e : Ending} (h : NamesAt w s e w') : ∃ A n c, e = .returned (.slice A n c) ∧ RdNames w' w'.heap.size A n c s.files ∧ Below w.heap.size w w' := by
  obtain ⟨v, rfl, hrow, hb⟩ := h
  rcases hrow.2 with ⟨rfl, h0⟩ | ⟨g, cap, cur, rfl, hg, hh, h1, h2, _⟩
  · exact ⟨none, 0, 0, rfl, ⟨h0.symm, by omega, by omega, fun h => by omega⟩, hb⟩
  · refine ⟨_, _, cap, rfl, ⟨rfl, h1, by simpa only [maxLen] using h2, fun h0 => ⟨g, rfl, heapLt hh, fun i hi => ?_⟩⟩, hb⟩
    have hl : i < ((names s.files).map encStr).length := by simpa [names] using hi
    rw [World.ownsRow.cellAt hrow i (by simpa [names] using hi), List.getElem?_eq_getElem hl]
    simp [names, encStr]

set_option maxHeartbeats 8000000 in
theorem diskRoom_any (room : Nat) (A : Option Addr) (n c : Nat) (xs : List ActD) (w : World) (hr : room ≤ 255) (ra : RdActs w w.heap.size A n c xs) :
    Calls Try.prog 4 #[.int .u8 (room : Int), .slice A n c] w (Yes w) := by
  have RA := Lib.hid ra; have NA := Lib.hid ra.1
  have hc1 := ra.2.1; have hcm1 := ra.2.2.1
  clear ra
  go_enter Try.func4, Try.ntmps4
  go_wp2_with fail
  refine (awake_any _).mono ?_
  rintro e w1 ⟨rfl, hb1⟩
  go_wp2_with fail
  refine (new_any room w1 (by omega)).mono ?_
  rintro e w2 ⟨D, F, rfl, hd, hF, hb2⟩
  have hb12 := hb1.trans (hb2.mono hb1.size)
  have HT0 := Lib.hid (Two.new (B0 := w.heap.size) hd (fun k hk => Nat.le_trans hb1.size (hF k hk)) hb12.size (by omega))
  have HW0 := Lib.hid (show Walk w D w2.heap.size room 0 (w2.alloc (.cells #[.slice none 0 0, .int .i64 (room : Int), .int .i64 0, .bool false, .int .i64 0] 31)) from ⟨F, _, St.new room, HT0.out, rfl, by simp [St.new], fun f hf => by simp [St.new] at hf, hb12.alloc hb12.size _⟩)
  clear hd hF hb2 hb1 hb12 HT0
  go_wp2_with fail
  obtain ⟨X, hX⟩ : ∃ X, w2.heap.size = X := ⟨_, rfl⟩
  rw [hX] at HW0 ⊢
  generalize w2.alloc (.cells #[.slice none 0 0, .int .i64 (room : Int), .int .i64 0, .bool false, .int .i64 0] 31) = w3 at *
  clear hX
  go_loopw [8] (fun p wr => ∃ i : Nat, p = .int .i64 i ∧ i ≤ n ∧ i ≤ 100 ∧ Hid (Walk w D X room i wr)) (fun p _ => n - (intOf p).toNat)
  case atStart => exact ⟨0, rfl, Nat.zero_le _, by omega, HW0⟩
  case round =>
    obtain ⟨i, rfl, hi, hi100, HW⟩ := hrel
    rename World => wr
    by_cases hlt : i < n ∧ i < 100
    · obtain ⟨hlt, hlt5⟩ := hlt
      have hxi : i < xs.length := by have := NA.out; omega
      obtain ⟨F9, G9, s, hT, hrm, hops, hnm, hb9⟩ := HW.out
      have RB := RA.out.below hb9
      obtain ⟨b, off, rfl, hbl, hcell⟩ := RB.2.2.2.2 (by omega)
      have k0 := hcell i hxi 0 (by omega); have k1 := hcell i hxi 1 (by omega); have k2 := hcell i hxi 2 (by omega)
      have k3 := hcell i hxi 3 (by omega); have k4 := hcell i hxi 4 (by omega); have k5 := hcell i hxi 5 (by omega)
      have hok := RB.2.2.2.1 xs[i] (List.getElem_mem hxi)
      have HDO := Lib.hid (do_any w.heap.size D X F9 G9 s xs[i] wr hT hok (by omega))
      have hg := stepD_goes s xs[i]
      have HST := Lib.hid (show (stepD s xs[i]).room = room ∧ (stepD s xs[i]).ops ≤ i + 1 ∧ Named (stepD s xs[i]) from ⟨by rw [hg.1, hrm], by have := hg.2.1; omega, hnm.step _⟩)
      have HB9 := Lib.hid hb9
      have hbw : b < wr.heap.size := by have := hb9.size; omega
      clear hb9 RB hcell hok hT hnm hg HW
      generalize stepD s xs[i] = s' at *
      generalize xs[i] = x at *
      simp only [ActD.cells] at k0 k1 k2 k3 k4 k5
      rw [Nat.add_zero] at k0
      simp only [List.getElem?_cons_zero, List.getElem?_cons_succ] at k0 k1 k2 k3 k4 k5
      go_wp2_with fail
      refine HDO.out.mono ?_
      rintro e w4 ⟨rfl, F4, G4, hT4, hb4⟩
      have HN := Lib.hid (names_any D F4 s' w4 hT4.1)
      have HT4 := Lib.hid hT4; have HB4 := Lib.hid (HB9.out.trans hb4)
      clear hT4 hb4 HDO HB9 k0 k1 k2 k3 k4 k5
      go_wp2_with fail
      refine HN.out.mono ?_
      rintro e w5 hnames
      obtain ⟨A5, n5, c5, rfl, hrd5, hb5⟩ := hnames.rd
      have HT5 := Lib.hid (HT4.out.below hb5)
      have HB5 := Lib.hid (HB4.out.trans (hb5.mono HB4.out.size))
      have HRD5 := Lib.hid hrd5
      have hc5 := hrd5.2.1; have hcm5 := hrd5.2.2.1
      have HN5 := Lib.hid hrd5.1
      have hub := HT5.out.1
      have HUSE := Lib.hid (show used s'.files ≤ room ∧ Rise s'.files by
        have h1 := hub.rise
        obtain ⟨_, _, _, _, _, _, _, _, h2, _⟩ := hub
        rw [HST.out.1] at h2
        exact ⟨h2, h1⟩)
      clear hnames hb5 hrd5 hub HT4 HB4 HN
      have HI0 := Lib.hid (Below.refl w5.heap.size w5)
      go_wp2_with fail
      go_loopw [10, 11] (fun q p wi => ∃ k u : Nat, p = .int .i64 k ∧ q = .int .i64 u ∧ k ≤ n5 ∧ u ≤ 255 ∧ Hid (u = used (s'.files.take k)) ∧ Hid (Below w5.heap.size w5 wi)) (fun _ p _ => n5 - (intOf p).toNat)
      case atStart => exact ⟨0, 0, rfl, rfl, Nat.zero_le _, by omega, Lib.hid (by simp [used]), HI0⟩
      case round =>
        obtain ⟨k, u, rfl, rfl, hk, hu, HU, HBI⟩ := hrel
        rename World => wi
        have HTI := Lib.hid (HT5.out.below HBI.out)
        have HON := Lib.hid (on_any D F4 s' wi HTI.out.1)
        obtain ⟨us, hus⟩ : ∃ us, used s'.files = us := ⟨_, rfl⟩
        have hus2 : us ≤ room := by rw [← hus]; exact HUSE.out.1
        have HUD := Lib.hid (used_any D F4 s' wi HTI.out.1)
        rw [hus] at HUD
        have HUS := Lib.hid hus
        have HWE := Lib.hid (show Walk w D X room (i + 1) wi from ⟨F4, G4, s', HTI.out, HST.out.1, HST.out.2.1, HST.out.2.2, HB5.out.trans (HBI.out.mono HB5.out.size)⟩)
        have hqu : ((us : Int) > (room : Int)) = False := by simp; omega
        clear hus
        by_cases hkn : k < n5
        · have hkx : k < s'.files.length := by have := HN5.out; omega
          cases hoff : s'.off
          · rw [hoff] at HON
            obtain ⟨g5, rfl, hg5, hnm5⟩ := (HRD5.out.below HBI.out).2.2.2 (by omega)
            have q5 := hnm5 k hkx
            have HRE := Lib.hid (read_any D F4 s' ⟨s'.files[k].name.toArray⟩ wi HTI.out.1 (by
              have := HST.out.2.2 _ (List.getElem_mem hkx)
              unfold nameOk at this
              simp only [Bool.and_eq_true, decide_eq_true_eq] at this
              omega))
            have hrn := read_named HST.out.2.2 HUSE.out.2 hkx
            rw [hoff] at hrn
            simp only [Bool.false_eq_true, if_false] at hrn
            rw [hrn] at HRE
            have HSU := Lib.hid (fun W (hW : Below wi.heap.size wi W) => sure_any D F4 s' ⟨s'.files[k].name.toArray⟩ W (HTI.out.1.below hW) (by
              have := HST.out.2.2 _ (List.getElem_mem hkx)
              unfold nameOk at this
              simp only [Bool.and_eq_true, decide_eq_true_eq] at this
              omega))
            simp only [sure_named HUSE.out.2 hkx] at HSU
            have hsl := HTI.out.sure_le hkx
            have HTK := Lib.hid (usedU_take hkx)
            have HLE := Lib.hid (usedU_le s'.files (k + 1))
            obtain ⟨nm, hnm⟩ : ∃ nm, s'.files[k].name = nm := ⟨_, rfl⟩
            obtain ⟨dat, hdat⟩ : ∃ dat, s'.files[k].data = dat := ⟨_, rfl⟩
            obtain ⟨su, hsu⟩ : ∃ su, s'.files[k].sure = su := ⟨_, rfl⟩
            rw [hnm] at q5 HRE
            simp only [hnm, hsu] at HSU
            rw [hdat] at HRE HTK hsl
            rw [hsu] at hsl
            obtain ⟨L, hL⟩ : ∃ L, dat.length = L := ⟨_, rfl⟩
            rw [hL] at hsl HTK
            have hul : u + L ≤ 255 := by have h1 := HTK.out; have h2 := HLE.out; have h3 := HU.out; have h4 := HUS.out; omega
            have HU2 := Lib.hid (show u + L = used (s'.files.take (k + 1)) by rw [HTK.out, ← HU.out])
            clear hrn hnm5 hnm hdat hsu HTK HLE hqu
            go_wp2_with fail
            refine HON.out.mono ?_
            rintro e w6 ⟨rfl, rfl⟩
            go_wp2_with fail
            refine HRE.out.mono ?_
            rintro e w7 ⟨v7, rfl, hO7, hb7, -⟩
            obtain ⟨A7, c7, rfl, hrd7⟩ := hO7.open_
            rw [hL]
            have HSU7 := Lib.hid (HSU.out w7 hb7)
            have hc7 := hrd7.cap; have hm7 := hrd7.max
            rw [hL] at hc7
            have q7 := (hb7.cell (p := ⟨g5, k, none⟩) (Nat.lt_of_lt_of_le hg5 HBI.out.size)).trans q5
            have HB7 := Lib.hid (HBI.out.trans (hb7.mono HBI.out.size))
            clear hO7 hrd7 hb7 hL HSU HRE q5
            go_wp2_with fail
            refine HSU7.out.mono ?_
            rintro e w8 ⟨rfl, rfl⟩
            go_wp2
            go_roundw
            case rel => exact ⟨k + 1, u + L, by go_num, by go_num, by omega, hul, HU2, HB7⟩
            case measure => simp [intOf]; omega
          · rw [hoff] at HON
            go_wp2_with fail
            refine HON.out.mono ?_
            rintro e w6 ⟨rfl, rfl⟩
            go_wp2_with fail
            refine HUD.out.mono ?_
            rintro e w6 ⟨rfl, rfl⟩
            go_wp2_with fail
            refine HON.out.mono ?_
            rintro e w7 ⟨rfl, rfl⟩
            go_wp2
            go_roundw
            case rel => exact ⟨i + 1, by go_num, by omega, by omega, HWE⟩
            case measure => simp [intOf]; omega
        · have HUU := Lib.hid (show u = us by rw [HU.out, ← HUS.out, List.take_of_length_le (by have := HN5.out; omega)])
          have huu := HUU.out
          subst huu
          cases hoff : s'.off
          · rw [hoff] at HON
            go_wp2_with fail
            refine HUD.out.mono ?_
            rintro e w6 ⟨rfl, rfl⟩
            go_wp2_with fail
            refine HON.out.mono ?_
            rintro e w7 ⟨rfl, rfl⟩
            go_wp2_with fail
            refine HUD.out.mono ?_
            rintro e w8 ⟨rfl, rfl⟩
            go_wp2
            go_roundw
            case rel => exact ⟨i + 1, by go_num, by omega, by omega, HWE⟩
            case measure => simp [intOf]; omega
          · rw [hoff] at HON
            go_wp2_with fail
            refine HUD.out.mono ?_
            rintro e w6 ⟨rfl, rfl⟩
            go_wp2_with fail
            refine HON.out.mono ?_
            rintro e w7 ⟨rfl, rfl⟩
            go_wp2
            go_roundw
            case rel => exact ⟨i + 1, by go_num, by omega, by omega, HWE⟩
            case measure => simp [intOf]; omega
    · obtain ⟨_, _, _, _, _, _, _, hb9⟩ := HW.out
      have HB9 := Lib.hid hb9
      clear hb9 HW
      by_cases h1 : i < n
      · have h2 : ¬ i < 100 := fun h => hlt ⟨h1, h⟩
        clear hlt
        go_wp2
        go_ret
        exact ⟨rfl, HB9.out⟩
      · clear hlt
        go_wp2
        go_ret
        exact ⟨rfl, HB9.out⟩
end Go.Proofs.Ytglfbigklnaegaa
