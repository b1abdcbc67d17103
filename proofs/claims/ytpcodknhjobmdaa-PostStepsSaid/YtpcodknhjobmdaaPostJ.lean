/-
  The law PostSteps, by the contracts.
-/
import Derived.Test.YtpcodknhjobmdaaPostI
import Derived.Deep.AppendLies
import Derived.Deep.RegionLaw
namespace Go.Proofs.Ytpcodknhjobmdaa
open Go.RowKit Mem
set_option linter.unusedVariables false
set_option maxRecDepth 100000

theorem rise_snoc {x : Int} : ∀ {l : List Int} {lo : Int}, M.rise lo l = true → (∀ y ∈ l, y < x) → lo < x → M.rise lo (l ++ [x]) = true
  | [], lo, _, _, h => by simp [M.rise, h]
  | y :: l, lo, hr, hm, h => by
    rw [M.rise_cons] at hr
    rw [List.cons_append, M.rise_cons]
    exact ⟨hr.1, rise_snoc hr.2 (fun z hz => hm z (by simp [hz])) (hm y (by simp))⟩

/-- j steps were made, the last number being 'last' -/
def Climbs (acc : List Int) (j : Nat) (last : Int) : Prop := M.rise (-1) acc = true ∧ acc.length = j + 1 ∧ acc[j]? = some last ∧ (j : Int) ≤ last ∧ last ≤ 65535 + 256 * j
theorem Climbs.start {x : Nat} (h : x < 65536) : Climbs [(x : Int)] 0 (x : Int) := ⟨by simp [M.rise]; omega, rfl, rfl, by omega, by omega⟩
theorem Climbs.max {acc : List Int} {j : Nat} {last : Int} (h : Climbs acc j last) : ∀ y ∈ acc, y ≤ last := last_max h.1 h.2.1 h.2.2.1
theorem Climbs.step {acc : List Int} {j x : Nat} {last y : Int} (h : Climbs acc j last) (hx : x < 256) (hy : y = last + 1 + (x : Int)) : Climbs (acc ++ [y]) (j + 1) y := by
  have hm := h.max
  obtain ⟨h1, h2, h3, h4, h5⟩ := h
  subst hy
  refine ⟨rise_snoc h1 (fun z hz => by have := hm z hz; omega) (by omega), by simp [h2], ?_, by omega, by omega⟩
  rw [List.getElem?_append_right (by omega), h2]; simp
theorem Climbs.known {acc : List Int} {j : Nat} {last : Int} (h : Climbs acc j last) (hj : j ≤ 200) : Known acc := fun k hk => by
  have := h.max k hk
  have := M.rise_mem h.1 k hk
  have := h.2.2.2.2
  omega
theorem Climbs.dec {acc : List Int} {j : Nat} {last : Int} (h : Climbs acc j last) (hj : j ≤ 200) : M.dec (M.enc acc) 0 (last + 1) = (acc, (M.enc acc).length, 0) := by
  have h4 := h.2.2.2.1
  have h5 := h.2.2.2.2
  exact M.dec_enc acc _ h.1 (fun x hx => by have := h.max x hx; omega) (by omega) (by omega)
theorem Climbs.torn {acc : List Int} {j : Nat} {last : Int} (h : Climbs acc j last) (hj : j ≤ 200) : M.dec (M.enc acc).dropLast 0 (last + 1) = ([], 0, 3) := by
  have h4 := h.2.2.2.1
  have h5 := h.2.2.2.2
  have h2 := h.2.1
  exact M.dec_torn acc _ (by intro e; subst e; simp at h2) h.1 (fun x hx => by have := h.max x hx; omega) (by omega) (by omega)
theorem encs_len : ∀ (l : List Int) (last : Int), (M.encs last l).length ≤ 10 * l.length
  | [], _ => by simp [M.encs]
  | x :: l, last => by
    have := encs_len l x
    have := (M.uv_len (x - last - 1).toNat).2
    rw [M.encs, List.length_append, List.length_cons]; omega
theorem enc_len (l : List Int) : (M.enc l).length ≤ 10 + 10 * l.length := by
  have := encs_len l (-1)
  have := (M.uv_len l.length).2
  rw [M.enc, List.length_append]; omega
theorem dropLast_take {p : List UInt8} {m : Nat} (h : p.length = m + 1) : p.dropLast = p.take m := by rw [List.dropLast_eq_take, h, Nat.add_sub_cancel]

theorem own_fresh (w : World) (u : Value) (e : TypeId) : OwnV (w.alloc (.cells #[u] e)) w.heap.size e (.slice (some ⟨w.heap.size, 0, none⟩) 1 1) [u] :=
  ⟨by simp, .inr ⟨w.heap.size, 1, #[u], rfl, Nat.le_refl _, heap_alloc_new w _, Nat.le_refl _, by simp [maxLen], by simp, by simp⟩⟩

set_option maxHeartbeats 4000000 in
theorem postSteps_any (first : Nat) (A : Option Addr) (n c : Nat) (s : List UInt8) (w : World) (hf : first < 65536) (h : Rd w w.heap.size A n c s) :
    Calls Try.prog 7 #[.int .u16 first, .slice A n c] w (SaysB true w) := by
  obtain ⟨i0, hi, hz0, hz1, hz2⟩ := Try.info_int
  have HI := Lib.hid hi; have HZ0 := Lib.hid hz0; have HZ1 := Lib.hid hz1; have HZ2 := Lib.hid hz2
  clear hi hz0 hz1 hz2
  have hc := h.cap
  have hm := h.max
  have HR := Lib.hid h
  clear h
  by_cases hbig : 200 < n
  · have hq : decide ((200 : Int) < (n : Int)) = true := by simp; omega
    go_enter Try.func7, Try.ntmps7
    go_wp2_with fail
    refine (awake8_any w).mono ?_
    rintro e w1 ⟨rfl, hb1⟩
    go_wp2_with fail
    refine (awake8_any w1).mono ?_
    rintro e w2 ⟨rfl, hb2⟩
    have HB := Lib.hid (hb1.trans (hb2.mono hb1.size))
    clear hb1 hb2
    go_wp2
    go_ret
    exact ⟨rfl, HB.out⟩
  · have hq : decide ((200 : Int) < (n : Int)) = false := by simp; omega
    go_enter Try.func7, Try.ntmps7
    go_wp2_with fail
    refine (awake8_any w).mono ?_
    rintro e w1 ⟨rfl, hb1⟩
    have HR1 := Lib.hid ((HR.out.below hb1).more hb1.size)
    have HB1 := Lib.hid hb1
    clear hb1
    go_wp2
    go_loopw [5, 6] (fun v i wr => ∃ (j g cap : Nat) (last : Int) (acc : List Int), v = .slice (some ⟨g, 0, none⟩) (j + 1) cap ∧ i = .int .i64 j ∧ j ≤ n ∧ (j : Int) ≤ last ∧ last ≤ 65535 + 256 * j ∧ Hid (Climbs acc j last) ∧ Hid (OwnV wr w1.heap.size 3 v (ints acc)) ∧ Hid (Below w1.heap.size w1 wr)) (fun _ i _ => n - (intOf i).toNat)
    case atStart => exact ⟨0, w1.heap.size, 1, first, [(first : Int)], rfl, rfl, by omega, by omega, by omega, Lib.hid (Climbs.start hf), Lib.hid (own_fresh w1 _ _), Lib.hid ((Below.refl _ _).alloc (Nat.le_refl _) _)⟩
    case round =>
      obtain ⟨j, g, cap, last, acc, rfl, rfl, hj, hl1, hl2, HC, HO, HB⟩ := hrel
      rename World => wr
      by_cases hlt : j < n
      · obtain ⟨b, off, rfl, hb, hcell⟩ := (HR1.out.below HB.out).at_ hlt
        have HRW := Lib.hid HO.out.rd
        obtain ⟨g', off', last', e', hg, hcell2, _, hat, _⟩ := int_at HRW.out (show j < j + 1 by omega)
        injection e' with e'
        injection e' with e1 e2 _
        subst e1 e2
        obtain rfl : last' = last := by have h1 := HC.out.2.2.1; rw [hat] at h1; injection h1
        rw [Nat.zero_add] at hcell2
        obtain ⟨x, hx, HX⟩ : ∃ x : Nat, x < 256 ∧ Hid ((s[j]?.getD 0).toNat = x) := ⟨_, UInt8.toNat_lt _, Lib.hid rfl⟩
        rw [HX.out] at hcell
        clear hat HRW
        have HC2 := Lib.hid (HC.out.step hx (y := last' + 1 + (x : Int)) rfl)
        have hw1 : IntKind.i64.wrap (last' + 1) = last' + 1 := by rw [IntKind.wrap_i64]; omega
        have hw2 : IntKind.i64.wrap (last' + 1 + (x : Int)) = last' + 1 + (x : Int) := by rw [IntKind.wrap_i64]; omega
        have hw3 : IntKind.i64.wrap (x : Int) = (x : Int) := by rw [IntKind.wrap_i64]; omega
        have hij : (j : Int) < (n : Int) := by omega
        have hij2 : (j : Int) < ((j + 1 : Nat) : Int) := by omega
        have hij3 : (j : Int) < (j : Int) + 1 := by omega
        have HOND := Lib.hid (show World.ownsRow (wr.alloc (.cells #[.int .i64 (last' + 1 + (x : Int))] 3)).drew w1.heap.size 3 1 (.slice (some ⟨g, 0, none⟩) (j + 1) cap) (j + 1) (ints acc) by
          have h := HO.out
          unfold OwnV at h
          rw [ints_len, HC.out.2.1] at h
          exact World.ownsRow.alloc h _)
        go_wp2_with fail
        go_region_law (first
          | (refine step_append_lies _ (by rfl) _ _ _ (by rfl) w1.heap.size 3 i0 _ 1 8 Try.underlying22 HI.out HZ0.out HZ1.out HZ2.out rfl (by omega) (.slice (some ⟨g, 0, none⟩) (j + 1) cap) (j + 1) (ints acc) (by rfl) HOND.out ⟨wr.heap.size, 0, none⟩ 1 1 [.int .i64 (last' + 1 + (x : Int))] (by rfl) (by rfl) (World.news_of_block (cs := #[.int .i64 (last' + 1 + (x : Int))]) (t := 3) (fr := (0, 0)) (heap_alloc_new wr _)) (by simp [Value.oneCell']) (by omega) (by simp only [maxLen]; omega) (by omega) (by have := HB.out.size; simp; omega) (wr.heap.size + 1) (by simp) ?_; intro g8 cap8 w8 hown8 hgrow8 hat8 hlt8))
        all_goals
          have hpre : Below w1.heap.size w1 (wr.alloc (.cells #[.int .i64 (last' + 1 + (x : Int))] 3)).drew := by
            have h := (HB.out.alloc HB.out.size (.cells #[.int .i64 (last' + 1 + (x : Int))] 3))
            exact ⟨h.os, h.tape, h.output, h.size, h.block⟩
          have hbel : Below w1.heap.size w1 w8 := hpre.grown hgrow8 hpre.size (fun k' hk' => (HO.out.lt k' hk').1)
          have HO8 := Lib.hid (show OwnV w8 w1.heap.size 3 (.slice (some ⟨g8, 0, none⟩) (j + 1 + 1) cap8) (ints (acc ++ [last' + 1 + (x : Int)])) by
            unfold OwnV
            rw [ints_len, List.length_append, HC.out.2.1, ints_app]
            exact hown8)
          have HB8 := Lib.hid hbel
          clear hown8 hgrow8 hat8 hbel hpre hw1 hw2 hw3
          go_wp2
          go_roundw
          case rel => exact ⟨j + 1, g8, cap8, last' + 1 + (x : Int), _, rfl, by go_num, by omega, by omega, by omega, HC2, HO8, HB8⟩
          case measure => simp [intOf]; omega
      · obtain rfl : j = n := by omega
        have HRW := Lib.hid (show Reads wr (some ⟨g, 0, none⟩) (j + 1) cap acc from HO.out.rd)
        have HENC := Lib.hid (encode_any (some ⟨g, 0, none⟩) (j + 1) cap acc wr HRW.out (HC.out.known (by omega)) (by omega))
        have HEO := Lib.hid (M.encOut_yes HC.out.1)
        have HEE := Lib.hid (M.encErr_yes HC.out.1)
        have HDA := Lib.hid (HC.out.dec (by omega))
        have HDB := Lib.hid (HC.out.torn (by omega))
        have HRDA := Lib.hid (M.rdAt_enc acc (by have := HC.out.2.1; omega))
        have HAT := Lib.hid HC.out.2.2.1
        have HLEN := Lib.hid HC.out.2.1
        obtain ⟨m, hm1⟩ : ∃ m, (M.enc acc).length = m + 1 := ⟨(M.enc acc).length - 1, by have := (M.uv_len acc.length).1; unfold M.enc; rw [List.length_append]; omega⟩
        have HDL := Lib.hid (dropLast_take hm1)
        have HM := Lib.hid hm1
        clear hm1
        go_wp2_with fail
        refine HENC.out.mono ?_
        rintro e w2 ⟨v2, rfl, ho2, hb2⟩
        rw [HEO.out] at ho2
        rw [HEE.out]
        obtain ⟨A2, c2, rfl, hrd2⟩ := ho2.open_
        rw [HM.out] at hrd2 ⊢
        have hc2 := hrd2.cap
        have hm2 := hrd2.max
        have HP2 := Lib.hid hrd2
        have HR2 := Lib.hid (HRW.out.on hb2)
        have HB2 := Lib.hid (HB.out.trans (hb2.mono HB.out.size))
        clear ho2 hb2 hrd2
        obtain ⟨b2, off2, last', e', hg, hcell2, _, hat, _⟩ := int_at HR2.out (show j < j + 1 by omega)
        injection e' with e'
        injection e' with e1 e2 _
        subst e1 e2
        obtain rfl : last' = last := by have h1 := HAT.out; rw [hat] at h1; injection h1
        rw [Nat.zero_add] at hcell2
        clear hat
        have hroom : (M.enc acc).length * 8 ≤ 140737488355328 := by have := enc_len acc; have := HLEN.out; omega
        have hroom2 : ((M.enc acc).take m).length * 8 ≤ 140737488355328 := by rw [List.length_take]; omega
        have HROOM := Lib.hid hroom2
        have HDEC := Lib.hid (decode_any A2 (m + 1) c2 (M.enc acc) 0 (last' + 1) w2 HP2.out (by omega) (by omega) (by omega) (by omega) (.inr hroom))
        rw [HDA.out, HM.out] at HDEC
        have HDEC2 := Lib.hid (fun (W : World) (hb : Below w2.heap.size w2 W) => decode_any A2 m c2 ((M.enc acc).take m) 0 (last' + 1) W (((HP2.out.below hb).more hb.size).upto (by omega)) (by omega) (by omega) (by omega) (by omega) (.inr hroom2))
        rw [← HDL.out, HDB.out] at HDEC2
        clear hroom hroom2
        go_wp2_with fail
        refine HDEC.out.mono ?_
        rintro e w3 ⟨v3, rfl, ho3, hb3⟩
        obtain ⟨A3, n3, c3, rfl, HN3, hc3, hm3⟩ := own_form ho3
        have HR3 := Lib.hid (show Reads w3 A3 n3 c3 acc from ho3.rd)
        have HB3 := Lib.hid hb3
        have hcell3 : w3.cell? ⟨g, j, none⟩ = some (.int .i64 last') := (hb3.cell (p := ⟨g, j, none⟩) hg).trans hcell2
        have HA3 := Lib.hid (HR2.out.on hb3)
        clear ho3 hb3 hcell2
        have b1 : m ≤ c2 := by omega
        have b2 : (m : Int) ≤ (c2 : Int) := by omega
        have b3 : ¬ (c2 : Int) < (m : Int) := by omega
        have b4 : ¬ c2 < m := by omega
        have b5 : (j : Int) < ((j + 1 : Nat) : Int) := by omega
        have b6 : (j : Int) < (j : Int) + 1 := by omega
        have b7 : IntKind.i64.wrap (m : Int) = (m : Int) := by rw [IntKind.wrap_i64]; omega
        have b8 : IntKind.i64.wrap (j : Int) = (j : Int) := by rw [IntKind.wrap_i64]; omega
        have b9 : IntKind.i64.wrap (last' + 1) = last' + 1 := by rw [IntKind.wrap_i64]; omega
        go_wp2_with fail
        go_region_held3 (fun W => W.cell? ⟨g, j, none⟩ = some (.int .i64 last'))
          (first | exact hHeld | exact hcell3 | exact hc4)
          ((go_at_call 12; refine (HDEC2.out _ (bel_drewN HB3.out 1)).mono ?_; rintro e w4 ⟨v4, rfl, ho4, hb4⟩; have hc4 := (hb4.cell (p := ⟨g, j, none⟩) (Nat.lt_of_lt_of_le hg HB3.out.size)).trans hcell3))
        have hb34 : Below w3.heap.size w3 w4 := ⟨hb4.os, hb4.tape, hb4.output, hb4.size, hb4.block⟩
        have HR4 := Lib.hid (HR3.out.on hb34)
        have HA4 := Lib.hid (HA3.out.on hb34)
        have hb24 := HB3.out.trans (hb34.mono HB3.out.size)
        have HB4 := Lib.hid (HB1.out.trans ((HB2.out.trans (hb24.mono HB2.out.size)).mono HB1.out.size))
        obtain ⟨A4, n4, c4, rfl, HN4, hc4', hm4⟩ := own_form ho4
        clear hb34 hb24 hb4 hc4 hcell3 b1 b2 b3 b4 b5 b6 b7 b8 b9 ho4
        go_wp2_with fail
        refine (same_any A3 n3 c3 _ acc _ (j + 1) cap _ acc w4 HR4.out HA4.out).mono ?_
        rintro e w5 ⟨rfl, hb5⟩
        have HB5 := Lib.hid (HB4.out.trans (hb5.mono HB4.out.size))
        rw [show decide (acc = acc) = true from by simp]
        clear hb5
        go_wp2
        go_ret
        exact ⟨rfl, HB5.out⟩
end Go.Proofs.Ytpcodknhjobmdaa
