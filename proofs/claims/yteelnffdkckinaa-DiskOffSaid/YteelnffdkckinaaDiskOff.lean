/-
  The law DiskOff, by the contracts.
-/
import Derived.Test.YteelnffdkckinaaLastsMath
import Derived.Test.YteelnffdkckinaaArgsD
namespace Go.Proofs.Yteelnffdkckinaa
open Go.RowKit Mem FM
set_option linter.unusedVariables false
set_option maxRecDepth 100000

theorem row_form {w : World} {base size n : Nat} {e : TypeId} {v : Value} {xs : List Value} (h : w.ownsRow base e size v n xs) (hn : 0 < n) : ∃ g c, v = .slice (some ⟨g, 0, none⟩) n c := by
  rcases h.2 with ⟨_, h0⟩ | ⟨g, cap, cur, hv, _⟩
  · omega
  · exact ⟨g, cap, hv⟩
def so (l : List UInt8) : St := ⟨2000, [fl 97 l 0], 2, 0, true⟩
theorem so1 (l : List UInt8) (h : l.length ≤ 500) : appended (St.new 2000) nmA l = (0, ⟨2000, [fl 97 l 0], 1, 0, false⟩) := by
  unfold appended
  rw [show (St.new 2000).off = false from rfl, if_pos rA]
  unfold wrote
  rw [if_neg (by show ¬ (2000 - 0 < l.length); omega)]
  rfl
theorem so2 (l : List UInt8) : synced ⟨2000, [fl 97 l 0], 1, 1, false⟩ nmA = (10, so l) := by
  unfold synced
  rw [if_pos rA]
  rfl
theorem so_app (l m : List UInt8) : appended (so l) nmA m = (10, so l) := off_app (so l) m rfl
theorem so_put (l m : List UInt8) : putR (so l) nmB m = (10, so l) := off_put (so l) m rfl
theorem so_sync (l : List UInt8) : synced (so l) nmA = (10, so l) := by unfold synced; rw [show (so l).off = true from rfl, rA1]; rfl
theorem so_rem (l : List UInt8) : removed (so l) nmA = (10, so l) := by unfold removed; rw [show (so l).off = true from rfl, rA1]; rfl
theorem so_ren (l : List UInt8) : renamed (so l) nmA nmC = (10, so l) := by unfold renamed; rw [show (so l).off = true from rfl, show ready2 nmA nmC true = 10 by decide]; rfl
theorem so_read (l : List UInt8) : readR (so l) nmA = ([], 10) := by unfold readR; rw [show (so l).off = true from rfl, rA1]; rfl

def OffAt (w : World) (D : Nat) (l : List UInt8) (wr : World) : Prop := ∃ F, DiskAt wr F D (so l) ∧ (∀ k, F k → w.heap.size ≤ k) ∧ Below w.heap.size w wr
theorem OffAt.alloc {w wr : World} {D : Nat} {l : List UInt8} (h : OffAt w D l wr) (o : Obj) : OffAt w D l (wr.alloc o) := by
  obtain ⟨F, h1, h2, h3⟩ := h
  exact ⟨F, h1.alloc o, h2, h3.alloc h3.size o⟩
theorem OffAt.did {w wr w' : World} {D : Nat} {l : List UInt8} {x : Int} {F : Nat → Prop} {e : Ending} (h : Did F D x (so l) wr e w') (hF : ∀ k, F k → w.heap.size ≤ k) (hb : Below w.heap.size w wr) : e = .returned (.int .i64 x) ∧ OffAt w D l w' := by
  obtain ⟨h1, F', h2, h3, h4⟩ := h.step hF hb
  exact ⟨h1, F', h2, h3, h4⟩

section
variable {w wr : World} {D : Nat} {l : List UInt8} (h : OffAt w D l wr)
def Off10 (w : World) (D : Nat) (l : List UInt8) (e : Ending) (w' : World) : Prop := e = .returned (.int .i64 10) ∧ OffAt w D l w'
include h
theorem off_append (A : Option Addr) (n c : Nat) (m : List UInt8) (hr : Rd w w.heap.size A n c m) : Calls Try.prog 16 #[.pointer (some ⟨D, 0, none⟩), .string nmA, .slice A n c] wr (Off10 w D l) := by
  obtain ⟨F, h1, h2, h3⟩ := h
  refine (append_any D w.heap.size F (so l) nmA A n c m wr h1 (by decide) (hr.below h3) h3.size (by show 2 + 1 < 1099511627776; omega)).mono fun e w' hd => ?_
  rw [so_app] at hd
  exact OffAt.did hd h2 h3
theorem off_put_ (A : Option Addr) (n c : Nat) (m : List UInt8) (hr : Rd w w.heap.size A n c m) : Calls Try.prog 22 #[.pointer (some ⟨D, 0, none⟩), .string nmB, .slice A n c] wr (Off10 w D l) := by
  obtain ⟨F, h1, h2, h3⟩ := h
  refine (put_any D w.heap.size F (so l) nmB A n c m wr h1 (by decide) (hr.below h3) h3.size (by show 2 + 1 < 1099511627776; omega)).mono fun e w' hd => ?_
  rw [so_put] at hd
  exact OffAt.did hd h2 h3
theorem off_sync_ : Calls Try.prog 17 #[.pointer (some ⟨D, 0, none⟩), .string nmA] wr (Off10 w D l) := by
  obtain ⟨F, h1, h2, h3⟩ := h
  refine (sync_any D F (so l) nmA wr h1 (by decide) (by show 2 + 1 < 1099511627776; omega)).mono fun e w' hd => ?_
  rw [so_sync] at hd
  exact OffAt.did hd h2 h3
theorem off_rem_ : Calls Try.prog 24 #[.pointer (some ⟨D, 0, none⟩), .string nmA] wr (Off10 w D l) := by
  obtain ⟨F, h1, h2, h3⟩ := h
  refine (remove_any D F (so l) nmA wr h1 (by decide) (by show 2 + 1 < 1099511627776; omega)).mono fun e w' hd => ?_
  rw [so_rem] at hd
  exact OffAt.did hd h2 h3
theorem off_ren_ : Calls Try.prog 23 #[.pointer (some ⟨D, 0, none⟩), .string nmA, .string nmC] wr (Off10 w D l) := by
  obtain ⟨F, h1, h2, h3⟩ := h
  refine (rename_any D F (so l) nmA nmC wr h1 (by decide) (by decide) (by show 2 + 1 < 1099511627776; omega)).mono fun e w' hd => ?_
  rw [so_ren] at hd
  exact OffAt.did hd h2 h3
theorem off_read_ : Calls Try.prog 18 #[.pointer (some ⟨D, 0, none⟩), .string nmA] wr (fun e w' => ∃ v, e = .returned (.tuple #[v, .int .i64 10]) ∧ OffAt w D l w') := by
  obtain ⟨F, h1, h2, h3⟩ := h
  have hr := read_any D F (so l) nmA wr h1 (by decide)
  rw [so_read] at hr
  refine hr.mono ?_
  rintro e w' ⟨v, he, ho, hb, hd⟩
  exact ⟨v, he, F, hd, h2, h3.trans (hb.mono h3.size)⟩
end

set_option maxHeartbeats 4000000 in
theorem diskOff_any (A A1 : Option Addr) (n c n1 c1 : Nat) (l : List UInt8) (xs : List ActD) (w : World) (r : Rd w w.heap.size A n c l) (ra : RdActs w w.heap.size A1 n1 c1 xs) :
    Calls Try.prog 9 #[.slice A n c, .slice A1 n1 c1] w (Yes w) := by
  have N := Lib.hid r.len; have R := Lib.hid r; have RA := Lib.hid ra; have NA := Lib.hid ra.1
  have hc := r.cap; have hcm := r.max; have hc1 := ra.2.1; have hcm1 := ra.2.2.1
  clear r ra
  by_cases hbig : 500 < n
  · go_enter Try.func9, Try.ntmps9
    go_wp2_with fail
    refine (awake_any _).mono ?_
    rintro e w1 ⟨rfl, hb1⟩
    go_wp2_with fail
    refine (awake_any _).mono ?_
    rintro e w2 ⟨rfl, hb2⟩
    go_wp2
    go_ret
    exact ⟨rfl, hb1.trans (hb2.mono hb1.size)⟩
  · have HL := Lib.hid (show l.length ≤ 500 by have := N.out; omega)
    go_enter Try.func9, Try.ntmps9
    go_wp2_with fail
    refine (awake_any _).mono ?_
    rintro e w1 ⟨rfl, hb1⟩
    go_wp2_with fail
    refine (new_any 2000 w1 (by omega)).mono ?_
    rintro e w2 ⟨D, F, rfl, hd, hF, hb2⟩
    have HD := Lib.hid hd; have HB := Lib.hid (hb1.trans (hb2.mono hb1.size)); have HF := Lib.hid (show ∀ k, F k → w.heap.size ≤ k from fun k hk => Nat.le_trans hb1.size (hF k hk))
    clear hd hb1 hb2 hF
    go_wp2_with fail
    refine (append_any D w.heap.size F (St.new 2000) nmA A n c l w2 HD.out (by decide) (R.out.below HB.out) HB.out.size (by decide)).mono ?_
    rintro e w3 hdid
    rw [so1 l HL.out] at hdid
    obtain ⟨rfl, F3, hd3, hF3, hb3⟩ := hdid.step HF.out HB.out
    have HD3 := Lib.hid hd3; have HF3 := Lib.hid hF3; have HB3 := Lib.hid hb3
    clear hdid hd3 hF3 hb3 HD HF HB
    go_wp2_with fail
    refine (arm_any D F3 _ 1 w3 HD3.out (by omega)).mono ?_
    rintro e w5 hdid
    obtain ⟨rfl, F5, hd5, hF5, hb5⟩ := hdid.step HF3.out HB3.out
    have hd5 : DiskAt w5 F5 D ⟨2000, [fl 97 l 0], 1, 1, false⟩ := hd5
    have HD5 := Lib.hid hd5; have HF5 := Lib.hid hF5; have HB5 := Lib.hid hb5
    clear hdid hd5 hF5 hb5 HD3 HF3 HB3
    go_wp2_with fail
    refine (sync_any D F5 _ nmA w5 HD5.out (by decide) (by show 1 + 1 < 1099511627776; omega)).mono ?_
    rintro e w6 hdid
    rw [so2 l] at hdid
    obtain ⟨rfl, F6, hd6, hF6, hb6⟩ := hdid.step HF5.out HB5.out
    have HO := Lib.hid (show OffAt w D l w6 from ⟨F6, hd6, hF6, hb6⟩)
    have HON := Lib.hid (on_any D F6 (so l) w6 hd6)
    have HOPS := Lib.hid (ops_any D F6 (so l) w6 hd6)
    clear hdid hd6 hF6 hb6 HD5 HF5 HB5
    go_wp2_with fail
    refine HON.out.mono ?_
    rintro e w7 ⟨rfl, rfl⟩
    rw [show (!(so l).off) = false from rfl]
    go_wp2_with fail
    refine HOPS.out.mono ?_
    rintro e w7 ⟨rfl, rfl⟩
    rw [show ((so l).ops : Int) = 2 from rfl]
    clear HON HOPS
    go_wp2_with fail
    go_loopw [8] (fun p wr => ∃ i : Nat, p = .int .i64 i ∧ i ≤ n1 ∧ i ≤ 50 ∧ Hid (OffAt w D l wr)) (fun p _ => n1 - (intOf p).toNat)
    case atStart => exact ⟨0, rfl, Nat.zero_le _, by omega, HO⟩
    case round =>
      obtain ⟨i, rfl, hi, hi50, HL2⟩ := hrel
      rename World => wr
      by_cases hlt : i < n1 ∧ i < 50
      · obtain ⟨hlt, hlt5⟩ := hlt
        have hxi : i < xs.length := by have := NA.out; omega
        obtain ⟨F9, hd9, hF9, hb9⟩ := HL2.out
        have RB := RA.out.below hb9
        obtain ⟨b, off, rfl, hbl, hcell⟩ := RB.2.2.2.2 (by omega)
        have k0 := hcell i hxi 0 (by omega); have k1 := hcell i hxi 1 (by omega); have k2 := hcell i hxi 2 (by omega)
        have k3 := hcell i hxi 3 (by omega); have k4 := hcell i hxi 4 (by omega); have k5 := hcell i hxi 5 (by omega)
        obtain ⟨hkd, hs1, hs2, hrd, hrc, hnum, hrk, hkk⟩ := RA.out.2.2.2.1 xs[i] (List.getElem_mem hxi)
        have HRD := Lib.hid hrd
        have hbw : b < wr.heap.size := by have := hb9.size; omega
        clear hd9 hF9 hb9 RB hcell hrd hrk hkk
        generalize xs[i] = x at *
        obtain ⟨kd, nm, to, A2, n2, c2, l2, num, A3, n3, c3, ks⟩ := x
        simp only [ActD.cells] at k0 k1 k2 k3 k4 k5 hkd hs1 hs2 hrc hnum HRD
        rw [Nat.add_zero] at k0
        simp only [List.getElem?_cons_zero, List.getElem?_cons_succ] at k0 k1 k2 k3 k4 k5
        have hk0 : (0 : Int) ≤ (kd : Int) := by omega
        have hk1 : (kd : Int) ≤ 255 := by omega
        have HAL := Lib.hid (HL2.out.alloc (.cells #[.int .u8 kd, .string nm, .string to, .slice A2 n2 c2, .int .i64 num, .slice A3 n3 c3] 35))
        have hr : kd % 8 = 0 ∨ kd % 8 = 1 ∨ kd % 8 = 2 ∨ kd % 8 = 3 ∨ kd % 8 = 4 ∨ kd % 8 = 5 ∨ kd % 8 = 6 ∨ kd % 8 = 7 := by omega
        rcases hr with hr | hr | hr | hr | hr | hr | hr | hr
        · have hmod : (kd : Int) % 8 = 0 := by omega
          clear hr
          go_wp2_with fail
          refine (off_append HAL.out A2 n2 c2 l2 HRD.out).mono ?_
          rintro e w8 ⟨rfl, ho⟩
          have HO8 := Lib.hid ho
          clear ho
          go_wp2
          go_roundw
          case rel => exact ⟨i + 1, by go_num, by omega, by omega, HO8⟩
          case measure => simp [intOf]; omega
        · have hmod : (kd : Int) % 8 = 1 := by omega
          clear hr
          go_wp2_with fail
          refine (off_put_ HAL.out A2 n2 c2 l2 HRD.out).mono ?_
          rintro e w8 ⟨rfl, ho⟩
          have HO8 := Lib.hid ho
          clear ho
          go_wp2
          go_roundw
          case rel => exact ⟨i + 1, by go_num, by omega, by omega, HO8⟩
          case measure => simp [intOf]; omega
        · have hmod : (kd : Int) % 8 = 2 := by omega
          clear hr
          go_wp2_with fail
          refine (off_sync_ HAL.out).mono ?_
          rintro e w8 ⟨rfl, ho⟩
          have HO8 := Lib.hid ho
          clear ho
          go_wp2
          go_roundw
          case rel => exact ⟨i + 1, by go_num, by omega, by omega, HO8⟩
          case measure => simp [intOf]; omega
        · have hmod : (kd : Int) % 8 = 3 := by omega
          clear hr
          go_wp2_with fail
          refine (off_rem_ HAL.out).mono ?_
          rintro e w8 ⟨rfl, ho⟩
          have HO8 := Lib.hid ho
          clear ho
          go_wp2
          go_roundw
          case rel => exact ⟨i + 1, by go_num, by omega, by omega, HO8⟩
          case measure => simp [intOf]; omega
        · have hmod : (kd : Int) % 8 = 4 := by omega
          clear hr
          go_wp2_with fail
          refine (off_ren_ HAL.out).mono ?_
          rintro e w8 ⟨rfl, ho⟩
          have HO8 := Lib.hid ho
          clear ho
          go_wp2
          go_roundw
          case rel => exact ⟨i + 1, by go_num, by omega, by omega, HO8⟩
          case measure => simp [intOf]; omega
        · have hmod : (kd : Int) % 8 = 5 := by omega
          clear hr
          go_wp2_with fail
          refine (off_read_ HAL.out).mono ?_
          rintro e w8 ⟨v, rfl, ho⟩
          have HO8 := Lib.hid ho
          clear ho
          go_wp2
          go_roundw
          case rel => exact ⟨i + 1, by go_num, by omega, by omega, HO8⟩
          case measure => simp [intOf]; omega
        · have hmod : (kd : Int) % 8 = 6 := by omega
          clear hr
          go_wp2
          go_roundw
          case rel => exact ⟨i + 1, by go_num, by omega, by omega, HAL⟩
          case measure => simp [intOf]; omega
        · have hmod : (kd : Int) % 8 = 7 := by omega
          clear hr
          go_wp2
          go_roundw
          case rel => exact ⟨i + 1, by go_num, by omega, by omega, HAL⟩
          case measure => simp [intOf]; omega
      · obtain ⟨F9, hd9, hF9, hb9⟩ := HL2.out
        have HNM := Lib.hid (names_any D F9 (so l) wr hd9)
        have HD9 := Lib.hid hd9; have HB9 := Lib.hid hb9
        clear hd9 hF9 hb9
        have hend : i = n1 ∨ (i < n1 ∧ i = 50) := by omega
        rcases hend with hend | ⟨hend, hend2⟩
        · subst hend
          go_wp2_with fail
          refine HNM.out.mono ?_
          rintro e w9 ⟨v, rfl, hrow, hb10⟩
          have hrow : w9.ownsRow wr.heap.size 9 1 v 1 [encStr [97]] := hrow
          obtain ⟨g, cp, rfl⟩ := row_form hrow (by omega)
          have hcp : 1 ≤ cp ∧ cp ≤ 9223372036854775807 := by
            rcases hrow.2 with ⟨h2, _⟩ | ⟨g', cap', cur', hv', _, _, h5, h6, _⟩
            · cases h2
            · injection hv' with _ _ e3
              subst e3
              exact ⟨h5, by simpa only [maxLen] using h6⟩
          obtain ⟨hcp1, hcp2⟩ := hcp
          have hd10 := HD9.out.below hb10
          have HOPS := Lib.hid (ops_any D F9 (so l) w9 hd10)
          have HUS := Lib.hid (used_any D F9 (so l) w9 hd10)
          have HSU := Lib.hid (sure_any D F9 (so l) nmA w9 hd10 (by decide))
          have HB10 := Lib.hid (HB9.out.trans (hb10.mono HB9.out.size))
          have hnl : (used (so l).files : Nat) = n := by show l.length + 0 = n; have := N.out; omega
          have HNL := Lib.hid hnl
          have hc0 : w9.cell? ⟨g, 0, none⟩ = some (.string ⟨#[97]⟩) := World.ownsRow.cellAt hrow 0 (by omega)
          clear hrow hd10 hb10 hnl
          go_wp2_with fail
          refine HOPS.out.mono ?_
          rintro e w10 ⟨rfl, rfl⟩
          rw [show ((so l).ops : Int) = 2 from rfl]
          go_wp2_with fail
          refine HUS.out.mono ?_
          rintro e w10 ⟨rfl, rfl⟩
          rw [HNL.out]
          go_wp2_with fail
          refine HSU.out.mono ?_
          rintro e w10 ⟨rfl, rfl⟩
          rw [show ((find nmA.data.toList (so l).files).map fun f => (f.sure : Int)).getD 0 = 0 from rfl]
          go_wp2
          go_ret
          exact ⟨rfl, HB10.out⟩
        · subst hend2
          go_wp2_with fail
          refine HNM.out.mono ?_
          rintro e w9 ⟨v, rfl, hrow, hb10⟩
          have hrow : w9.ownsRow wr.heap.size 9 1 v 1 [encStr [97]] := hrow
          obtain ⟨g, cp, rfl⟩ := row_form hrow (by omega)
          have hcp : 1 ≤ cp ∧ cp ≤ 9223372036854775807 := by
            rcases hrow.2 with ⟨h2, _⟩ | ⟨g', cap', cur', hv', _, _, h5, h6, _⟩
            · cases h2
            · injection hv' with _ _ e3
              subst e3
              exact ⟨h5, by simpa only [maxLen] using h6⟩
          obtain ⟨hcp1, hcp2⟩ := hcp
          have hd10 := HD9.out.below hb10
          have HOPS := Lib.hid (ops_any D F9 (so l) w9 hd10)
          have HUS := Lib.hid (used_any D F9 (so l) w9 hd10)
          have HSU := Lib.hid (sure_any D F9 (so l) nmA w9 hd10 (by decide))
          have HB10 := Lib.hid (HB9.out.trans (hb10.mono HB9.out.size))
          have hnl : (used (so l).files : Nat) = n := by show l.length + 0 = n; have := N.out; omega
          have HNL := Lib.hid hnl
          have hc0 : w9.cell? ⟨g, 0, none⟩ = some (.string ⟨#[97]⟩) := World.ownsRow.cellAt hrow 0 (by omega)
          clear hrow hd10 hb10 hnl
          go_wp2_with fail
          refine HOPS.out.mono ?_
          rintro e w10 ⟨rfl, rfl⟩
          rw [show ((so l).ops : Int) = 2 from rfl]
          go_wp2_with fail
          refine HUS.out.mono ?_
          rintro e w10 ⟨rfl, rfl⟩
          rw [HNL.out]
          go_wp2_with fail
          refine HSU.out.mono ?_
          rintro e w10 ⟨rfl, rfl⟩
          rw [show ((find nmA.data.toList (so l).files).map fun f => (f.sure : Int)).getD 0 = 0 from rfl]
          go_wp2
          go_ret
          exact ⟨rfl, HB10.out⟩
end Go.Proofs.Yteelnffdkckinaa
