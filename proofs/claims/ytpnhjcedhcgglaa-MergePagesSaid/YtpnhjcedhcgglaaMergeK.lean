/-
  The law MergeMerges: the walk.
-/
import Derived.Test.YtpnhjcedhcgglaaMergeI
namespace Go.Proofs.Ytpnhjcedhcgglaa
open Go.RowKit Mem
set_option linter.unusedVariables false
set_option maxRecDepth 100000

theorem lists_next {rs : List Dr} {k : Nat} (hk : k < rs.length) : M.mall M.ahead (lists (rs.take (k + 1))) = M.mrg M.ahead (M.mall M.ahead (lists (rs.take k))) rs[k].ds := by
  unfold lists
  rw [List.take_succ_eq_append_getElem hk, List.map_append, M.mall_app M.ahead_pre]
  simp [M.mall_one]
theorem foldl_next {α β : Type} (f : β → α → β) (l : List α) (k : Nat) (hk : k < l.length) (a : β) : (l.take (k + 1)).foldl f a = f ((l.take k).foldl f a) l[k] := by
  rw [List.take_succ_eq_append_getElem hk, List.foldl_append]; rfl
theorem ord_one (d : M.D) : M.MOrd M.ahead [d] := ⟨by simp, trivial⟩
theorem ord_dput {l : List M.D} (h : M.MOrd M.ahead l) (d : M.D) : M.MOrd M.ahead (M.dput M.ahead l d) := M.mrg_ord M.ahead_pre h (ord_one d)
theorem len_dput (l : List M.D) (d : M.D) : (M.dput M.ahead l d).length = l.length + 1 := by unfold M.dput; rw [M.mrg_len]; rfl

set_option maxHeartbeats 1000000 in
theorem mergeMerges_long (A : Option Addr) (n c : Nat) (lim : Int) (w : World) (hn : 20 < n) :
    Calls Try.prog 3 #[.slice A n c, .int .i64 lim] w (SaysB true w) := by
  have HAW := Lib.hid (fun W => awake_any W)
  go_enter Try.func3, Try.ntmps3
  go_wp2_with fail
  refine (HAW.out _).mono ?_
  rintro e w1 ⟨rfl, hb1⟩
  have HB1 := Lib.hid hb1
  clear hb1
  go_wp2_with fail
  refine (HAW.out _).mono ?_
  rintro e w2 ⟨rfl, hb2⟩
  have HB2 := Lib.hid (HB1.out.trans (hb2.mono HB1.out.size))
  clear hb2
  go_wp2
  go_ret
  exact ⟨rfl, HB2.out⟩

set_option maxHeartbeats 1000000 in
theorem mergeMerges_neg (A : Option Addr) (n c : Nat) (lim : Int) (w : World) (hn : n ≤ 20) (hl : lim < 0) :
    Calls Try.prog 3 #[.slice A n c, .int .i64 lim] w (SaysB true w) := by
  have HAW := Lib.hid (fun W => awake_any W)
  have HNG := Lib.hid (fun W => merge_neg A n c lim W hl)
  go_enter Try.func3, Try.ntmps3
  go_wp2_with fail
  refine (HAW.out _).mono ?_
  rintro e w1 ⟨rfl, hb1⟩
  have HB1 := Lib.hid hb1
  clear hb1
  go_wp2_with fail
  refine (HNG.out _).mono ?_
  rintro e w2 ⟨rfl, rfl⟩
  go_wp2
  go_ret
  exact ⟨rfl, HB1.out⟩

set_option maxHeartbeats 8000000 in
theorem mergeMerges_main (A : Option Addr) (n c L : Nat) (rs : List Dr) (w : World) (h : RdLists w w.heap.size A n c rs) (ht : totD rs ≤ 1048576) (hl : L ≤ 9223372036854775807) (hn : n ≤ 20) :
    Calls Try.prog 3 #[.slice A n c, .int .i64 (L : Int)] w (SaysB true w) := by
  have H := Lib.hid h; have HN := Lib.hid h.1
  have hc := h.2.1; have hcm := h.2.2.1
  have HT := Lib.hid ht
  have HTL := Lib.hid (totD_len (rs := rs) h.2.2.2.1)
  have hng : ¬ (L : Int) < 0 := by omega
  have HAW := Lib.hid (awake_any w)
  have HME := Lib.hid (fun (W : World) (hb : Below w.heap.size w W) => merge_any A n c L rs W (H.out.on hb) HT.out hl)
  clear h ht
  go_enter Try.func3, Try.ntmps3
  go_wp2_with fail
  refine HAW.out.mono ?_
  rintro e w1 ⟨rfl, hb1⟩
  have HB1 := Lib.hid hb1
  have HM1 := Lib.hid (HME.out w1 hb1)
  clear hb1 HAW HME
  go_wp2_with fail
  refine HM1.out.mono ?_
  rintro e w2 ⟨hb2, hx⟩
  have HB2 := Lib.hid (HB1.out.trans (hb2.mono HB1.out.size))
  clear HM1
  rcases hx with ⟨hbad, rfl⟩ | ⟨hok, v, rfl, hrow⟩
  · have HBAD := Lib.hid hbad
    clear hbad hb2
    go_wp2
    go_loopw [9] (fun p wr => ∃ i : Nat, p = .int .i64 i ∧ i ≤ n ∧ Hid (∀ r ∈ rs.take i, M.risesB r.ds = true) ∧ Hid (Below w2.heap.size w2 wr)) (fun p _ => n - (intOf p).toNat)
    case atStart => exact ⟨0, rfl, Nat.zero_le _, Lib.hid (by simp), Lib.hid (Below.refl _ _)⟩
    case round =>
      obtain ⟨i, rfl, hi, HI, HB⟩ := hrel
      rename World => wr
      have HBW := Lib.hid (HB2.out.trans (HB.out.mono HB2.out.size))
      by_cases hlt : i < n
      · have hix : i < rs.length := by have := HN.out; omega
        have hii : (i : Int) < (n : Int) := by omega
        have hw1 : IntKind.i64.wrap ((i : Int) + 1) = (i : Int) + 1 := by rw [IntKind.wrap_i64]; omega
        obtain ⟨b, off, rfl, hb, q⟩ := H.out.at_ hix
        have q0 := cell_on HBW.out q
        have HOK := Lib.hid (show RdDocs wr wr.heap.size rs[i].A rs[i].n rs[i].c rs[i].ds from RdDocs.on (H.out.2.2.2.1 rs[i] (List.getElem_mem hix)) HBW.out)
        have HIN := Lib.hid (show M.risesB rs[i].ds = true → ∀ r ∈ rs.take (i + 1), M.risesB r.ds = true from fun e r hr => by
          rw [List.take_succ_eq_append_getElem hix] at hr
          rcases List.mem_append.1 hr with hr | hr
          · exact HI.out r hr
          · simp only [List.mem_singleton] at hr; rw [hr]; exact e)
        clear q HI
        unfold Dr.v at q0
        generalize rs[i] = r at *
        obtain ⟨Ar, nr, cr, ds⟩ := r
        simp only at q0 HOK HIN
        by_cases h100 : 100 < nr
        · have h1 : (100 : Int) < (nr : Int) := by omega
          go_wp2
          go_ret
          exact ⟨rfl, HBW.out⟩
        · have h1 : ¬ (100 : Int) < (nr : Int) := by omega
          have HRI := Lib.hid (rises_any Ar nr cr ds wr HOK.out)
          obtain ⟨bo, hbo⟩ : ∃ bo, M.risesB ds = bo := ⟨_, rfl⟩
          rw [hbo] at HRI HIN
          clear hbo
          cases bo
          · go_wp2_with fail
            refine HRI.out.mono ?_
            rintro e w5 ⟨rfl, hb5⟩
            have HB5 := Lib.hid (HBW.out.trans (hb5.mono HBW.out.size))
            clear hb5
            go_wp2
            go_ret
            exact ⟨rfl, HB5.out⟩
          · have HIN2 := Lib.hid (HIN.out rfl)
            go_wp2_with fail
            refine HRI.out.mono ?_
            rintro e w5 ⟨rfl, hb5⟩
            have HB5 := Lib.hid (HB.out.trans (hb5.mono HB.out.size))
            clear hb5
            go_wp2
            go_roundw
            case rel => exact ⟨i + 1, by go_num, by omega, HIN2, HB5⟩
            case measure => simp [intOf]; omega
      · exfalso
        obtain rfl : i = n := by omega
        obtain ⟨r, hr, hb⟩ := HBAD.out
        have := HI.out r (by rw [List.take_of_length_le (by have := HN.out; omega)]; exact hr)
        rw [hb] at this
        cases this
  · have HOKA := Lib.hid hok
    obtain ⟨A3, c3, rfl, hr3⟩ := hrow.open_
    have HR3 := Lib.hid hr3
    obtain ⟨n3, hn3⟩ : ∃ n3, ((M.mall M.ahead (lists rs)).take L).length = n3 := ⟨_, rfl⟩
    obtain ⟨mo, hmo⟩ : ∃ mo, decide (L < totD rs) = mo := ⟨_, rfl⟩
    have HMO := Lib.hid hmo
    rw [hn3] at HR3 ⊢
    rw [hmo]
    clear hok hrow hr3 hb2 hmo hn3
    go_wp2
    go_loopw [9] (fun p wr => ∃ i : Nat, p = .int .i64 i ∧ i ≤ n ∧ Hid (∀ r ∈ rs.take i, r.n ≤ 100) ∧ Hid (Below w2.heap.size w2 wr)) (fun p _ => n - (intOf p).toNat)
    case atStart => exact ⟨0, rfl, Nat.zero_le _, Lib.hid (by simp), Lib.hid (Below.refl _ _)⟩
    case round =>
      obtain ⟨i, rfl, hi, HI, HB⟩ := hrel
      rename World => wr
      have HBW := Lib.hid (HB2.out.trans (HB.out.mono HB2.out.size))
      by_cases hlt : i < n
      · have hix : i < rs.length := by have := HN.out; omega
        have hii : (i : Int) < (n : Int) := by omega
        have hw1 : IntKind.i64.wrap ((i : Int) + 1) = (i : Int) + 1 := by rw [IntKind.wrap_i64]; omega
        obtain ⟨b, off, rfl, hb, q⟩ := H.out.at_ hix
        have q0 := cell_on HBW.out q
        have HOK := Lib.hid (show RdDocs wr wr.heap.size rs[i].A rs[i].n rs[i].c rs[i].ds from RdDocs.on (H.out.2.2.2.1 rs[i] (List.getElem_mem hix)) HBW.out)
        have HRT := Lib.hid (HOKA.out rs[i] (List.getElem_mem hix))
        have HIN := Lib.hid (show rs[i].n ≤ 100 → ∀ r ∈ rs.take (i + 1), r.n ≤ 100 from fun e r hr => by
          rw [List.take_succ_eq_append_getElem hix] at hr
          rcases List.mem_append.1 hr with hr | hr
          · exact HI.out r hr
          · simp only [List.mem_singleton] at hr; rw [hr]; exact e)
        clear q HI
        unfold Dr.v at q0
        generalize rs[i] = r at *
        obtain ⟨Ar, nr, cr, ds⟩ := r
        simp only at q0 HOK HIN HRT
        by_cases h100 : 100 < nr
        · have h1 : (100 : Int) < (nr : Int) := by omega
          go_wp2
          go_ret
          exact ⟨rfl, HBW.out⟩
        · have h1 : ¬ (100 : Int) < (nr : Int) := by omega
          have hri := rises_any Ar nr cr ds wr HOK.out
          rw [HRT.out] at hri
          have HRI := Lib.hid hri
          have HIN2 := Lib.hid (HIN.out (by omega))
          clear hri
          go_wp2_with fail
          refine HRI.out.mono ?_
          rintro e w5 ⟨rfl, hb5⟩
          have HB5 := Lib.hid (HB.out.trans (hb5.mono HB.out.size))
          clear hb5
          go_wp2
          go_roundw
          case rel => exact ⟨i + 1, by go_num, by omega, HIN2, HB5⟩
          case measure => simp [intOf]; omega
      · obtain rfl : i = n := by omega
        have HSM := Lib.hid (show ∀ r ∈ rs, r.n ≤ 100 by have := HI.out; rwa [List.take_of_length_le (by have := HN.out; omega)] at this)
        obtain ⟨wl, hwl⟩ : ∃ wl, wl = wr := ⟨_, rfl⟩
        rw [← hwl]
        rw [← hwl] at HB HBW
        clear hwl HI hlt
        go_wp2
        go_loopw [8, 10] (fun o p wr => ∃ (j m ca : Nat) (Aa : Option Addr) (acc : List M.D), p = .int .i64 j ∧ o = .slice Aa m ca ∧ j ≤ i ∧ m ≤ 100 * j ∧ Hid (acc = M.mall M.ahead (lists (rs.take j))) ∧ Hid (M.MOrd M.ahead acc) ∧ Hid (RdDocs wr wr.heap.size Aa m ca acc) ∧ Hid (Below wl.heap.size wl wr)) (fun _ p _ => i - (intOf p).toNat)
        case atStart => exact ⟨0, 0, 0, none, [], rfl, rfl, Nat.zero_le _, Nat.zero_le _, Lib.hid (by simp [lists, M.mall]), Lib.hid trivial, Lib.hid RdDocs.none_, Lib.hid (Below.refl _ _)⟩
        case round =>
          obtain ⟨j, m, ca, Aa, acc, rfl, rfl, hj, hm, HA, HO, HD, HBJ⟩ := hrel
          rename World => wj
          have HBWJ := Lib.hid (HBW.out.trans (HBJ.out.mono HBW.out.size))
          have hca1 := HD.out.2.1; have hca2 := HD.out.2.2.1
          by_cases hlt : j < i
          · have hjx : j < rs.length := by have := HN.out; omega
            have hji : (j : Int) < (i : Int) := by omega
            have hw1 : IntKind.i64.wrap ((j : Int) + 1) = (j : Int) + 1 := by rw [IntKind.wrap_i64]; omega
            obtain ⟨b, off, rfl, hb, q⟩ := H.out.at_ hjx
            have HR := Lib.hid (show RdDocs w w.heap.size rs[j].A rs[j].n rs[j].c rs[j].ds from H.out.2.2.2.1 rs[j] (List.getElem_mem hjx))
            have HRO := Lib.hid (M.risesB_ord (HOKA.out rs[j] (List.getElem_mem hjx)))
            have hnr : rs[j].n ≤ 100 := HSM.out rs[j] (List.getElem_mem hjx)
            have HNX := Lib.hid (lists_next hjx)
            unfold Dr.v at q
            generalize rs[j] = r at *
            obtain ⟨Ar, nr, cr, ds⟩ := r
            simp only at q HR HNX HRO hnr
            have HQ := Lib.hid q
            have hcr := HR.out.2.1; have hcr2 := HR.out.2.2.1
            clear q
            go_wp2
            go_loopw [8, 11] (fun o p wr => ∃ (k m2 ca2 : Nat) (A2 : Option Addr) (acc2 : List M.D), p = .int .i64 k ∧ o = .slice A2 m2 ca2 ∧ k ≤ nr ∧ Hid (m2 = m + k) ∧ Hid (acc2 = (ds.take k).foldl (M.dput M.ahead) acc) ∧ Hid (M.MOrd M.ahead acc2) ∧ Hid (RdDocs wr wr.heap.size A2 m2 ca2 acc2) ∧ Hid (Below wj.heap.size wj wr)) (fun _ p _ => nr - (intOf p).toNat)
            case atStart => exact ⟨0, m, ca, Aa, acc, rfl, rfl, Nat.zero_le _, Lib.hid rfl, Lib.hid rfl, HO, HD, Lib.hid (Below.refl _ _)⟩
            case round =>
              obtain ⟨k, m2, ca2, A2, acc2, rfl, rfl, hk, HM2, HA2, HO2, HD2, HBK⟩ := hrel
              have hm2b : m2 ≤ 100 * j + k := by have := HM2.out; omega
              rename World => wk
              have HBWK := Lib.hid (HBWJ.out.trans (HBK.out.mono HBWJ.out.size))
              have q0 := cell_on HBWK.out HQ.out
              have hcb1 := HD2.out.2.1; have hcb2 := HD2.out.2.2.1
              by_cases hlk : k < nr
              · have hkx : k < ds.length := by have := HR.out.1; omega
                have hki : (k : Int) < (nr : Int) := by omega
                have hw2 : IntKind.i64.wrap ((k : Int) + 1) = (k : Int) + 1 := by rw [IntKind.wrap_i64]; omega
                obtain ⟨rb, roff, rfl, hrb, x0, x1, x2⟩ := HR.out.at_ hkx
                have p0 := cell_on HBWK.out x0; have p1 := cell_on HBWK.out x1; have p2 := cell_on HBWK.out x2
                have HFN := Lib.hid (foldl_next (M.dput M.ahead) ds k hkx acc)
                clear x0 x1 x2
                generalize ds[k] = d at *
                have hpu := put_any A2 m2 ca2 acc2 d wk HD2.out (by omega) HO2.out
                have HOX := Lib.hid (ord_dput HO2.out d)
                have HLX := Lib.hid (show (M.dput M.ahead acc2 d).length = m2 + 1 by rw [len_dput, HD2.out.1])
                rw [← HA2.out] at HFN
                obtain ⟨did, dtm, dtx⟩ := d
                unfold dval at hpu
                simp only at hpu p0 p1 p2
                have HPU := Lib.hid hpu
                clear hpu
                go_wp2_with fail
                refine HPU.out.mono ?_
                rintro e w5 ⟨v5, rfl, hrow5, hb5⟩
                obtain ⟨A5, c5, rfl, hr5⟩ := hrow5.open_
                rw [HLX.out] at hr5 ⊢
                have HR5 := Lib.hid hr5
                have HB5 := Lib.hid (HBK.out.trans (hb5.mono HBK.out.size))
                clear hrow5 hb5 hr5
                go_wp2
                go_roundw
                case rel => exact ⟨k + 1, m2 + 1, c5, A5, _, by go_num, rfl, by omega, Lib.hid (by have := HM2.out; omega), Lib.hid HFN.out.symm, HOX, HR5, HB5⟩
                case measure => simp [intOf]; omega
              · obtain rfl : k = nr := by omega
                have HAX := Lib.hid (show acc2 = M.mall M.ahead (lists (rs.take (j + 1))) by
                  have e := HA2.out
                  rw [List.take_of_length_le (by have := HR.out.1; omega), M.put_all M.ahead_pre _ _ HRO.out, HA.out] at e
                  rw [HNX.out, e])
                have HBX := Lib.hid (HBJ.out.trans (HBK.out.mono HBJ.out.size))
                go_wp2
                go_roundw
                case rel => exact ⟨j + 1, m2, ca2, A2, acc2, by go_num, rfl, by omega, by omega, HAX, HO2, HD2, HBX⟩
                case measure => simp [intOf]; omega
          · obtain rfl : j = i := by omega
            have HAE := Lib.hid (show acc = M.mall M.ahead (lists rs) by have := HA.out; rwa [List.take_of_length_le (by have := HN.out; omega)] at this)
            have HME := Lib.hid (show m = totD rs by rw [HD.out.1, HAE.out, HTL.out])
            have hmo : decide (L < m) = mo := by rw [HME.out]; exact HMO.out
            have HG := Lib.hid (HR3.out.on (HB.out.trans (HBJ.out.mono HB.out.size)))
            by_cases hLm : L < m
            · have hLi : (L : Int) < (m : Int) := by omega
              have hLi2 : (L : Int) ≤ (m : Int) := by omega
              obtain rfl : mo = true := by rw [← hmo]; exact decide_eq_true hLm
              have HU := Lib.hid (show RdDocs wj wj.heap.size Aa L ca ((M.mall M.ahead (lists rs)).take L) by rw [← HAE.out]; exact HD.out.upto (by omega))
              have HSA := Lib.hid (same7_any A3 Aa n3 c3 L ca _ wj HG.out HU.out)
              go_wp2_with fail
              refine HSA.out.mono ?_
              rintro e w6 ⟨rfl, hb6⟩
              have HB6 := Lib.hid (HBWJ.out.trans (hb6.mono HBWJ.out.size))
              clear hb6
              go_wp2
              go_ret
              exact ⟨by simp, HB6.out⟩
            · have hLi : ¬ (L : Int) < (m : Int) := by omega
              obtain rfl : mo = false := by rw [← hmo]; exact decide_eq_false hLm
              have HU := Lib.hid (show RdDocs wj wj.heap.size Aa m ca ((M.mall M.ahead (lists rs)).take L) by
                rw [← HAE.out, List.take_of_length_le (by have := HD.out.1; omega)]; exact HD.out)
              have HSA := Lib.hid (same7_any A3 Aa n3 c3 m ca _ wj HG.out HU.out)
              go_wp2_with fail
              refine HSA.out.mono ?_
              rintro e w6 ⟨rfl, hb6⟩
              have HB6 := Lib.hid (HBWJ.out.trans (hb6.mono HBWJ.out.size))
              clear hb6
              go_wp2
              go_ret
              exact ⟨by simp, HB6.out⟩

theorem mergeMerges_any (A : Option Addr) (n c : Nat) (lim : Int) (rs : List Dr) (w : World) (h : RdLists w w.heap.size A n c rs) (ht : totD rs ≤ 1048576) (hl : lim ≤ 9223372036854775807) :
    Calls Try.prog 3 #[.slice A n c, .int .i64 lim] w (SaysB true w) := by
  rcases Nat.lt_or_ge 20 n with h1 | h1
  · exact mergeMerges_long A n c lim w h1
  · rcases (by omega : lim < 0 ∨ 0 ≤ lim) with h2 | h2
    · exact mergeMerges_neg A n c lim w h1 h2
    · obtain ⟨L, rfl⟩ : ∃ L : Nat, lim = (L : Int) := ⟨lim.toNat, by omega⟩
      exact mergeMerges_main A n c L rs w h ht (by omega) h1
end Go.Proofs.Ytpnhjcedhcgglaa
