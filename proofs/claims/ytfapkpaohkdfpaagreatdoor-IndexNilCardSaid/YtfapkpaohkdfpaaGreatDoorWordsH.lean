/-
  What words.Terms does, by a contract.
-/
import Derived.Test.YtfapkpaohkdfpaaGreatDoorWordsG
import Derived.Test.YtfapkpaohkdfpaaGreatDoorMemW
import Derived.StillTailTactics
import Derived.Laws.BitsLemmas
namespace Go.Proofs.YtfapkpaohkdfpaaGreatDoor
open Go.RowKit Mem Go.Sort
set_option linter.unusedVariables false
set_option maxRecDepth 100000

theorem Tryz.infoS : (Tryz.prog.info? 9).map (fun i => (i.zero, i.size, i.bytes)) = some (some (.string ⟨#[]⟩), 1, 16) := by kernel_rfl

/-- texts that can be read, in new memory or not -/
def SaysS (xs : List (List UInt8)) (w : World) (e : Ending) (w' : World) : Prop := ∃ A c, e = .returned (.slice A xs.length c) ∧ RdV w' w'.heap.size A xs.length c (strs xs) ∧ Below w.heap.size w w'

/-- the word ahead of a place -/
def prevAt (ws : List M.W) (i : Nat) : Option M.W := if i = 0 then none else ws[i - 1]?
/-- behind i words the terms so far are xs -/
def RawInv (l : List UInt8) (ws : List M.W) (i : Nat) (xs : List (List UInt8)) : Prop := xs ++ M.raw l (prevAt ws i) (ws.drop i) = M.raw l none ws ∧ xs.length ≤ 2 * i
theorem RawInv.start (l : List UInt8) (ws : List M.W) : RawInv l ws 0 [] := ⟨rfl, by simp⟩
theorem RawInv.first {l : List UInt8} {ws : List M.W} {xs : List (List UInt8)} (h : RawInv l ws 0 xs) (hi : 0 < ws.length) : RawInv l ws 1 (xs ++ [ws[0].text]) := by
  refine ⟨?_, by have := h.2; simp; omega⟩
  have e : ws.drop 0 = ws[0] :: ws.drop 1 := List.drop_eq_getElem_cons hi
  have h1 := h.1
  rw [e] at h1
  rw [← h1]
  simp [prevAt, M.raw, hi]
theorem RawInv.lone {l : List UInt8} {ws : List M.W} {i : Nat} {xs : List (List UInt8)} (h : RawInv l ws i xs) (hi : i < ws.length) (h0 : 0 < i) (hp : M.paired l ws[i - 1] ws[i] = false) : RawInv l ws (i + 1) (xs ++ [ws[i].text]) := by
  refine ⟨?_, by have := h.2; simp; omega⟩
  have e : ws.drop i = ws[i] :: ws.drop (i + 1) := List.drop_eq_getElem_cons hi
  have h1 := h.1
  have hpi : prevAt ws i = some ws[i - 1] := by unfold prevAt; rw [if_neg (by omega), List.getElem?_eq_getElem (by omega)]
  have hpn : prevAt ws (i + 1) = some ws[i] := by unfold prevAt; rw [if_neg (by omega), Nat.add_sub_cancel, List.getElem?_eq_getElem hi]
  rw [e, hpi, M.raw, hp] at h1
  rw [← h1, hpn]
  simp
theorem RawInv.both {l : List UInt8} {ws : List M.W} {i : Nat} {xs : List (List UInt8)} (h : RawInv l ws i xs) (hi : i < ws.length) (h0 : 0 < i) (hp : M.paired l ws[i - 1] ws[i] = true) : RawInv l ws (i + 1) (xs ++ [ws[i].text] ++ [ws[i - 1].text ++ 61 :: ws[i].text]) := by
  refine ⟨?_, by have := h.2; simp; omega⟩
  have e : ws.drop i = ws[i] :: ws.drop (i + 1) := List.drop_eq_getElem_cons hi
  have h1 := h.1
  have hpi : prevAt ws i = some ws[i - 1] := by unfold prevAt; rw [if_neg (by omega), List.getElem?_eq_getElem (by omega)]
  have hpn : prevAt ws (i + 1) = some ws[i] := by unfold prevAt; rw [if_neg (by omega), Nat.add_sub_cancel, List.getElem?_eq_getElem hi]
  rw [e, hpi, M.raw, hp] at h1
  rw [← h1, hpn]
  simp
theorem RawInv.done {l : List UInt8} {ws : List M.W} {i : Nat} {xs : List (List UInt8)} (h : RawInv l ws i xs) (hi : ws.length ≤ i) : xs = M.raw l none ws := by
  have h1 := h.1
  rw [List.drop_eq_nil_of_le hi] at h1
  rw [← h1]
  cases prevAt ws i <;> simp [M.raw]

/-- a change of one row turns no other block -/
theorem turned_putRow (w : World) (g off q : Nat) (d : Array (List UInt8)) : Turned (· = g) w (putRow encStr (Sort.ahead w q) g off d) :=
  ⟨rfl, rfl, rfl, by simp, fun k hk hne => by
    show (w.heap.modify g _)[k]? = w.heap[k]?
    rw [Array.getElem?_modify, if_neg (fun e => hne e.symm)]⟩
theorem sort_row (g cap : Nat) (xs : List (List UInt8)) (w : World) (hH : Holds encStr w g 0 xs.toArray) (hg : g < w.heap.size) (hl : xs.length < 4611686018427387904) :
    Calls Tryz.prog 99 #[.slice (some ⟨g, 0, none⟩) xs.length cap] w fun e w' => e = .returned (.tuple #[]) ∧ Holds encStr w' g 0 (xs.mergeSort fun x y => decide (x ≤ y)).toArray ∧ Turned (· = g) w w' := by
  refine (Tryz.slices_Sort_string g 0 cap xs w hH hg hl).mono ?_
  rintro e w' ⟨rfl, q, os, rfl⟩
  refine ⟨rfl, ?_, ?_⟩
  · exact holds_grow encStr _ os g 0 _ (by simpa using hg) (holds_putRow encStr _ g 0 _ _ (holds_ahead encStr w q g 0 _ hH) (by simp))
  · have h := turned_putRow w g 0 q (xs.mergeSort fun x y => decide (x ≤ y)).toArray
    exact ⟨h.os, h.tape, h.output, by have := h.size; rw [size_grow]; omega, fun k hk hne => by
      rw [heap_grow_old _ _ (by have := h.size; omega)]
      exact h.block k hk hne⟩
theorem compact_row (g cap : Nat) (xs : List (List UInt8)) (w : World) (hH : Holds encStr w g 0 xs.toArray) (hl : xs.length ≤ 4611686018427387904) (hc : xs.length ≤ cap) :
    Calls Tryz.prog 102 #[.slice (some ⟨g, 0, none⟩) xs.length cap] w fun e w' => e = .returned (.slice (some ⟨g, 0, none⟩) (Lib.compact xs).length cap) ∧
      (∀ j, j < (Lib.compact xs).length → w'.cell? ⟨g, j, none⟩ = (strs (Lib.compact xs))[j]?) ∧ Turned (· = g) w w' := by
  refine (Tryz.slices_Compact_string g 0 cap xs w hH (by omega) hc).mono ?_
  rintro e w' ⟨rfl, q, rfl⟩
  refine ⟨rfl, fun j hj => ?_, turned_putRow _ _ _ _ _⟩
  have hle : (Lib.compact xs).length ≤ xs.length := by
    unfold Lib.compact Lib.compactUpTo
    rw [List.length_map]
    exact Nat.le_trans (List.length_filter_le _ _) (by simp)
  have := cell?_putRow encStr (Sort.ahead w q) g 0 xs.toArray (Lib.compact xs ++ List.replicate (xs.length - (Lib.compact xs).length) []).toArray (holds_ahead encStr w q g 0 _ hH) (by simp; omega) j (by simp; omega)
  rw [Nat.zero_add] at this
  rw [this, strs_at hj, getElem!_pos _ j (by simp; omega)]
  simp [hj]
theorem OwnV.holds {w : World} {base g n c : Nat} {e : TypeId} {xs : List (List UInt8)} (h : OwnV w base e (.slice (some ⟨g, 0, none⟩) n c) (strs xs)) : Holds encStr w g 0 xs.toArray := by
  intro j hj
  have hj' : j < xs.length := by simpa using hj
  rw [Nat.zero_add]
  have hn : (strs xs).length = n := by have := OwnV.form h; obtain ⟨A, c', e1, _⟩ := this; injection e1 with _ e2 _; exact e2.symm
  have h2 := h
  unfold OwnV at h2
  rw [hn] at h2
  refine ⟨?_, World.ownsRow.frozenAt h2 j⟩
  rw [World.ownsRow.cellAt h2 j (by rw [← hn]; simpa using hj'), strs_at hj', getElem!_pos _ j (by simpa using hj')]
  rfl
def Ordered (ws : List M.W) : Prop := ∀ j (h : j + 1 < ws.length), ws[j].z ≤ ws[j + 1].a
/-- behind two new blocks and an append onto a row of the call's own -/
theorem grown_two {wr w9 : World} {base n k g9 cap9 : Nat} {A2 : Option Addr} {xs : List Value} {e : TypeId} {o1 o2 : Obj} {u : Value} (hO : OwnV wr base e (.slice A2 n k) xs) (hN : xs.length = n) (hb : base ≤ wr.heap.size)
    (hown : w9.ownsRow base e 1 (.slice (some ⟨g9, 0, none⟩) (n + 1) cap9) (n + 1) (xs ++ [u])) (hg : ((wr.alloc o1).alloc o2).grownBy w9 (Value.ownBlock (.slice A2 n k))) :
    OwnV w9 base e (.slice (some ⟨g9, 0, none⟩) (n + 1) cap9) (xs ++ [u]) ∧ Below base wr w9 ∧ w9.heap[wr.heap.size]? = some o1 ∧ wr.heap.size < w9.heap.size := by
  refine ⟨?_, ?_, ?_, ?_⟩
  · unfold OwnV
    rw [List.length_append, hN]
    exact hown
  · exact ((((Below.refl base wr).alloc hb o1).alloc (by simp; omega) o2)).grown hg (by simp; omega) (fun k' hk' => (hO.lt k' hk').1)
  · have hne : some wr.heap.size ≠ Value.ownBlock (.slice A2 n k) := fun e' => by have := (hO.lt _ e'.symm).2; omega
    rw [hg.block wr.heap.size (by simp; omega) hne, Below.heap_alloc _ _ _ (by simp)]
    exact heap_alloc_new wr o1
  · have := hg.size
    simp at this
    omega

/-- .. in new memory -/
def SaysN (xs : List (List UInt8)) (w : World) (e : Ending) (w' : World) : Prop := ∃ A c, e = .returned (.slice A xs.length c) ∧ RdV w' w'.heap.size A xs.length c (strs xs) ∧ Below w.heap.size w w' ∧ (0 < xs.length → ∃ b off, A = some ⟨b, off, none⟩ ∧ w.heap.size ≤ b)

set_option maxHeartbeats 4000000 in
theorem terms_new (s : ByteArray) (w : World) (hs : s.size ≤ 1073741824) (hT : Tabs w) : Calls Tryz.prog 77 #[.string s] w (SaysN (M.terms (bl s)) w) := by
  obtain ⟨i0, hi, hz0, hz1, hz2⟩ := info_of Tryz.infoS
  have HI := Lib.hid hi; have HZ0 := Lib.hid hz0; have HZ1 := Lib.hid hz1; have HZ2 := Lib.hid hz2
  clear hi hz0 hz1 hz2
  have HW := Lib.hid (words_any s w hs hT)
  have HTM := Lib.hid (show M.terms (bl s) = M.gather (M.raw (bl s) none (M.words (bl s))) from rfl)
  have HALL := Lib.hid (M.words_all (bl s) 0)
  change Hid (∀ x ∈ M.words (bl s), _) at HALL
  have HORD := Lib.hid (show Ordered (M.words (bl s)) from M.words_order (bl s) 0)
  have hml0 := M.words_len (bl s) 0
  change (M.words (bl s)).length ≤ _ at hml0
  have hln : (bl s).length = s.size := bl_len s
  rw [hln] at hml0
  clear hT
  generalize M.words (bl s) = ws at *
  go_enter Tryz.func77, Tryz.ntmps77
  go_wp2_with fail
  refine HW.out.mono ?_
  rintro e w1 ⟨v, rfl, hrow, hb⟩
  obtain ⟨A, c, rfl, hc, hcm⟩ := hrow.form
  have HROW := Lib.hid hrow; have HB := Lib.hid hb
  have hw1 : w.heap.size ≤ w1.heap.size := hb.size
  clear hrow hb
  obtain ⟨m, hm⟩ : ∃ m, ws.length = m := ⟨_, rfl⟩
  have HM := Lib.hid hm
  rw [hm] at hc hml0 ⊢
  rw [hm] at HROW
  clear hm
  go_wp2
  go_loopw [3, 11] (fun o p wr => ∃ (i n k : Nat) (A2 : Option Addr) (xs : List (List UInt8)), p = .int .i64 (i : Int) ∧ o = .slice A2 n k ∧ i ≤ m ∧ n ≤ 2 * i ∧ Hid (xs.length = n) ∧ Hid (RawInv (bl s) ws i xs) ∧ Hid (OwnV wr w1.heap.size 9 (.slice A2 n k) (strs xs)) ∧ Hid (Below w1.heap.size w1 wr)) (fun _ p _ => m - (intOf p).toNat)
  case atStart => exact ⟨0, 0, 0, none, [], rfl, rfl, by omega, by omega, Lib.hid rfl, Lib.hid (RawInv.start _ _), Lib.hid (OwnV.nil _ _ _), Lib.hid (Below.refl _ _)⟩
  case round =>
    obtain ⟨i, n, k, A2, xs, rfl, rfl, him, hni, HN, HR, HO, HB2⟩ := hrel
    rename World => wr
    by_cases hlt : i < m
    · have hiw : i < ws.length := by rw [HM.out]; exact hlt
      obtain ⟨g, rfl, hg, c0, c1, c2⟩ := (HROW.out.below HB2.out).at_ hiw
      have hgw : g < wr.heap.size := hg
      have hx32 := (HALL.out ws[i] (List.getElem_mem hiw)).1.le
      have hwr : w1.heap.size ≤ wr.heap.size := HB2.out.size
      have HON := Lib.hid (show wr.ownsRow w1.heap.size 9 1 (.slice A2 n k) n (strs xs) by have := HO.out; unfold OwnV at this; rwa [List.length_map, HN.out] at this)
      have HNL := Lib.hid (show (strs xs).length = n by rw [List.length_map, HN.out])
      have HGL := Lib.hid (show g < w1.heap.size by
        obtain ⟨g', e', hg', _⟩ := HROW.out.at_ hiw
        injection e' with e'
        injection e' with e' _ _
        omega)
      by_cases h0 : i = 0
      · subst h0
        have HR1 := Lib.hid (HR.out.first hiw)
        generalize ws[0] = x at *
        simp only [Nat.zero_mul, Nat.zero_add] at c0 c1 c2
        go_wp2_with (at_builtin; go_must (refine wpList_append_lies _ rfl (.tmp 16) (.tmp 19) _ rfl w1.heap.size 9 i0 _ 1 16 Tryz.underlying76 HI.out HZ0.out HZ1.out HZ2.out rfl (by omega) (.slice A2 n k) n (strs xs) rfl ((HON.out.alloc _).alloc _) ⟨wr.heap.size + 1, 0, none⟩ 1 1 [.string ⟨x.text.toArray⟩] rfl rfl (World.news_of_block (cs := #[.string ⟨x.text.toArray⟩]) (t := 9) (fr := (0, 0)) (by simpa using heap_alloc_new (wr.alloc _) _)) (by simp [Value.oneCell']) (by omega) (by simp only [maxLen]; omega) (by omega) (by simp; omega) (wr.heap.size + 2) (by simp) ?_))
        intro g9 cap9 w9 hown9 hgrow9 hat9 hlt9
        have HA := Lib.hid (grown_two HO.out HNL.out hwr hown9 hgrow9)
        have hgl9 : wr.heap.size < w9.heap.size := HA.out.2.2.2
        have b0 := (cellAt 0 HA.out.2.2.1).trans (show _ = some (Value.string ⟨x.text.toArray⟩) from rfl)
        clear hown9 hgrow9 hat9
        go_wp2_with fail
        go_quiet (fail)
        go_wp2
        go_roundw
        case rel => exact ⟨1, n + 1, cap9, _, _, by go_num, rfl, by omega, by omega, Lib.hid (by rw [List.length_append, HN.out]; rfl), HR1, Lib.hid (by rw [strs_app]; exact HA.out.1), Lib.hid (bel_drewN (HB2.out.trans (HA.out.2.1)) _)⟩
        case measure => simp [intOf]; omega
      · obtain ⟨j, rfl⟩ : ∃ j, i = j + 1 := ⟨i - 1, by omega⟩
        have hjw : j < ws.length := by omega
        have hjm : (j : Int) < (m : Int) := by omega
        have hj0 : (0 : Int) ≤ (j : Int) := by omega
        have hwj3 : IntKind.i64.wrap (j : Int) = (j : Int) := by rw [IntKind.wrap_i64]; omega
        have HLO := Lib.hid (HR.out.lone hiw (by omega))
        have HBO := Lib.hid (HR.out.both hiw (by omega))
        simp only [Nat.add_sub_cancel] at HLO HBO
        have hord := HORD.out j hiw
        have hin : ws[j + 1].a ≤ s.size := by
          have := (HALL.out ws[j + 1] (List.getElem_mem hiw)).2.2
          rw [hln] at this
          omega
        have hy32 := (HALL.out ws[j] (List.getElem_mem hjw)).1.le
        have HCJ := Lib.hid (fun (W : World) (h : Below w1.heap.size w1 W) => (HROW.out.below h).at_ hjw)
        have hpair := fun (W : World) => paired_any s ⟨ws[j].text.toArray⟩ ⟨ws[j + 1].text.toArray⟩ ws[j].a ws[j].z ws[j + 1].a ws[j + 1].z W hs hord hin
        have HPD := Lib.hid (show M.paired (bl s) ws[j] ws[j + 1] = decide (((bl s).take ws[j + 1].a).drop ws[j].z = [61]) from rfl)
        generalize ws[j + 1] = x at *
        generalize ws[j] = y at *
        go_wp2_with (at_builtin; go_must (refine wpList_append_lies _ rfl (.tmp 16) (.tmp 19) _ rfl w1.heap.size 9 i0 _ 1 16 Tryz.underlying76 HI.out HZ0.out HZ1.out HZ2.out rfl (by omega) (.slice A2 n k) n (strs xs) rfl ((HON.out.alloc _).alloc _) ⟨wr.heap.size + 1, 0, none⟩ 1 1 [.string ⟨x.text.toArray⟩] rfl rfl (World.news_of_block (cs := #[.string ⟨x.text.toArray⟩]) (t := 9) (fr := (0, 0)) (by simpa using heap_alloc_new (wr.alloc _) _)) (by simp [Value.oneCell']) (by omega) (by simp only [maxLen]; omega) (by omega) (by simp; omega) (wr.heap.size + 2) (by simp) ?_))
        intro g9 cap9 w9 hown9 hgrow9 hat9 hlt9
        have HA := Lib.hid (grown_two HO.out HNL.out hwr hown9 hgrow9)
        have hgl9 : wr.heap.size < w9.heap.size := HA.out.2.2.2
        have HB9 := Lib.hid (HB2.out.trans HA.out.2.1)
        obtain ⟨g', e', hg', d0, d1, d2⟩ := HCJ.out w9 HB9.out
        injection e' with e'
        injection e' with e' _ _
        subst e'
        have b0 := (cellAt 0 HA.out.2.2.1).trans (show _ = some (Value.string ⟨x.text.toArray⟩) from rfl)
        have b1 := (cellAt 1 HA.out.2.2.1).trans (show _ = some (Value.int .i64 (x.a : Int)) from rfl)
        have b2 := (cellAt 2 HA.out.2.2.1).trans (show _ = some (Value.int .i64 (x.z : Int)) from rfl)
        generalize hpb : decide (((bl s).take x.a).drop y.z = [61]) = pb at *
        have HPB := Lib.hid hpb
        have HPC := Lib.hid (hpair w9.drew)
        clear hown9 hgrow9 hat9 hpair c0 c1 c2 hpb
        cases pb
        · go_wp2_with fail
          go_region_held3 (fun W => W.cell? ⟨g, j * 3, none⟩ = some (.string ⟨y.text.toArray⟩) ∧ W.cell? ⟨g, j * 3 + 1, none⟩ = some (.int .i64 (y.a : Int)) ∧ W.cell? ⟨g, j * 3 + 2, none⟩ = some (.int .i64 (y.z : Int)) ∧ W.cell? ⟨wr.heap.size, 0, none⟩ = some (.string ⟨x.text.toArray⟩) ∧ W.cell? ⟨wr.heap.size, 1, none⟩ = some (.int .i64 (x.a : Int)) ∧ W.cell? ⟨wr.heap.size, 2, none⟩ = some (.int .i64 (x.z : Int))) (go_keep)
            ((go_at_call 101; refine HPC.out.mono ?_; rintro e w2 ⟨rfl, hbp⟩
              have q0 := (hbp.cell (p := ⟨g, j * 3, none⟩) hg').trans d0; have q1 := (hbp.cell (p := ⟨g, j * 3 + 1, none⟩) hg').trans d1; have q2 := (hbp.cell (p := ⟨g, j * 3 + 2, none⟩) hg').trans d2
              have q3 := (hbp.cell (p := ⟨wr.heap.size, 0, none⟩) hgl9).trans b0; have q4 := (hbp.cell (p := ⟨wr.heap.size, 1, none⟩) hgl9).trans b1; have q5 := (hbp.cell (p := ⟨wr.heap.size, 2, none⟩) hgl9).trans b2))
          have HB2W := Lib.hid (below_undrew hbp)
          clear hbp
          go_wp2
          go_roundw
          case rel => exact ⟨j + 1 + 1, n + 1, cap9, _, _, by go_num, rfl, by omega, by omega, Lib.hid (by rw [List.length_append, HN.out]; rfl), Lib.hid (HLO.out HPD.out), Lib.hid (by rw [strs_app]; exact HA.out.1.below HB2W.out), Lib.hid (HB9.out.trans (HB2W.out.mono HB9.out.size))⟩
          case measure => simp [intOf]; omega
        · go_wp2_with fail
          go_region_held3 (fun W => W.cell? ⟨g, j * 3, none⟩ = some (.string ⟨y.text.toArray⟩) ∧ W.cell? ⟨g, j * 3 + 1, none⟩ = some (.int .i64 (y.a : Int)) ∧ W.cell? ⟨g, j * 3 + 2, none⟩ = some (.int .i64 (y.z : Int)) ∧ W.cell? ⟨wr.heap.size, 0, none⟩ = some (.string ⟨x.text.toArray⟩) ∧ W.cell? ⟨wr.heap.size, 1, none⟩ = some (.int .i64 (x.a : Int)) ∧ W.cell? ⟨wr.heap.size, 2, none⟩ = some (.int .i64 (x.z : Int))) (go_keep)
            ((go_at_call 101; refine HPC.out.mono ?_; rintro e w2 ⟨rfl, hbp⟩
              have q0 := (hbp.cell (p := ⟨g, j * 3, none⟩) hg').trans d0; have q1 := (hbp.cell (p := ⟨g, j * 3 + 1, none⟩) hg').trans d1; have q2 := (hbp.cell (p := ⟨g, j * 3 + 2, none⟩) hg').trans d2
              have q3 := (hbp.cell (p := ⟨wr.heap.size, 0, none⟩) hgl9).trans b0; have q4 := (hbp.cell (p := ⟨wr.heap.size, 1, none⟩) hgl9).trans b1; have q5 := (hbp.cell (p := ⟨wr.heap.size, 2, none⟩) hgl9).trans b2))
          have HB2W := Lib.hid (below_undrew hbp)
          have hw2 : w9.heap.size ≤ w2.heap.size := hbp.size
          clear hbp
          have HOW2 := Lib.hid (HA.out.1.below HB2W.out)
          have HN2 := Lib.hid (show (strs xs ++ [Value.string ⟨x.text.toArray⟩]).length = n + 1 by rw [List.length_append, HNL.out]; rfl)
          have HON2 := Lib.hid (show w2.ownsRow w1.heap.size 9 1 (.slice (some ⟨g9, 0, none⟩) (n + 1) cap9) (n + 1) (strs xs ++ [Value.string ⟨x.text.toArray⟩]) by have := HOW2.out; unfold OwnV at this; rwa [HN2.out] at this)
          have a1 := bytes_app y.text [61]
          have a2 := bytes_app (y.text ++ [61]) x.text
          have z1 : ¬ 9223372036854775807 < y.text.length + 1 := by omega
          have z2 : ¬ 9223372036854775807 < y.text.length + 1 + x.text.length := by omega
          have z3 : ¬ 9223372036854775807 < y.text.length + (x.text.length + 1) := by omega
          have HOND := Lib.hid (show World.ownsRow (w2.alloc (.cells #[.string ⟨(y.text ++ 61 :: x.text).toArray⟩] 9)).drew w1.heap.size 9 1 (.slice (some ⟨g9, 0, none⟩) (n + 1) cap9) (n + 1) (strs xs ++ [Value.string ⟨x.text.toArray⟩]) from HON2.out.alloc _)
          go_wp2_with fail
          go_region_law (first
            | (refine step_append_lies _ (by rfl) _ _ _ (by rfl) w1.heap.size 9 i0 _ 1 16 Tryz.underlying76 HI.out HZ0.out HZ1.out HZ2.out rfl (by omega) (.slice (some ⟨g9, 0, none⟩) (n + 1) cap9) (n + 1) (strs xs ++ [Value.string ⟨x.text.toArray⟩]) (by rfl) HOND.out ⟨w2.heap.size, 0, none⟩ 1 1 [.string ⟨(y.text ++ 61 :: x.text).toArray⟩] (by rfl) (by rfl) (World.news_of_block (cs := #[.string ⟨(y.text ++ 61 :: x.text).toArray⟩]) (t := 9) (fr := (0, 0)) (heap_alloc_new w2 _)) (by simp [Value.oneCell']) (by omega) (by simp only [maxLen]; omega) (by omega) (by simp; omega) (w2.heap.size + 1) (by simp) ?_; intro g8 cap8 w8 hown8 hgrow8 hat8 hlt8))
          all_goals
            have hpre : Below w1.heap.size w1 (w2.alloc (.cells #[.string ⟨(y.text ++ 61 :: x.text).toArray⟩] 9)).drew := by
              have h := ((HB9.out.trans (HB2W.out.mono HB9.out.size)).alloc (Nat.le_trans HB9.out.size HB2W.out.size) (.cells #[.string ⟨(y.text ++ 61 :: x.text).toArray⟩] 9))
              exact ⟨h.os, h.tape, h.output, h.size, h.block⟩
            have hbel : Below w1.heap.size w1 w8 := hpre.grown hgrow8 hpre.size (fun k' hk' => (HOW2.out.lt k' hk').1)
            have HR8 := Lib.hid (HBO.out HPD.out)
            have HO8 := Lib.hid (show OwnV w8 w1.heap.size 9 (.slice (some ⟨g8, 0, none⟩) (n + 1 + 1) cap8) (strs (xs ++ [x.text] ++ [y.text ++ 61 :: x.text])) by
              have e8 : strs (xs ++ [x.text] ++ [y.text ++ 61 :: x.text]) = strs xs ++ [Value.string ⟨x.text.toArray⟩] ++ [Value.string ⟨(y.text ++ 61 :: x.text).toArray⟩] := by simp
              rw [e8]
              unfold OwnV
              rw [List.length_append, HN2.out]
              exact hown8)
            have HB8 := Lib.hid hbel
            clear hown8 hgrow8 hat8 hbel
            go_wp2
            go_roundw
            case rel => exact ⟨j + 1 + 1, n + 1 + 1, cap8, _, _, by go_num, rfl, by omega, by omega, Lib.hid (by rw [List.length_append, List.length_append, HN.out]; rfl), HR8, HO8, HB8⟩
            case measure => simp [intOf]; omega
    · have HRAW := Lib.hid (HR.out.done (by rw [HM.out]; omega))
      have HSORT := Lib.hid (M.compact_sort xs)
      have hwr : w1.heap.size ≤ wr.heap.size := HB2.out.size
      have HNL := Lib.hid (show (strs xs).length = n by rw [List.length_map, HN.out])
      have HKM := Lib.hid (show n ≤ k ∧ k ≤ 9223372036854775807 by
        obtain ⟨A', c', e1, h1, h2⟩ := HO.out.form
        injection e1 with _ e2 e3
        omega)
      by_cases hn : n = 0
      · subst hn
        have hx0 : xs = [] := List.eq_nil_of_length_eq_zero HN.out
        have HG0 := Lib.hid (show M.terms (bl s) = [] by rw [HTM.out, ← HRAW.out, hx0]; rfl)
        clear hx0
        go_wp2_with fail
        refine (Tryz.slices_Sort_string_none A2 k wr).mono ?_
        rintro e w2 ⟨rfl, rfl⟩
        go_wp2_with fail
        refine (Tryz.slices_Compact_string_empty A2 k w2).mono ?_
        rintro e w3 ⟨rfl, rfl⟩
        go_wp2
        go_ret
        refine ⟨A2, k, by rw [HG0.out]; rfl, by rw [HG0.out]; exact ⟨rfl, by simp, by have := HKM.out; simp only [maxLen]; omega, fun h => absurd h (by simp)⟩, HB.out.trans (HB2.out.mono HB.out.size), fun h => absurd h (by rw [HG0.out]; simp)⟩
      · obtain ⟨g, hA2, hgw⟩ : ∃ g, A2 = some ⟨g, 0, none⟩ ∧ g < wr.heap.size ∧ w1.heap.size ≤ g := by
          rcases HO.out.2 with ⟨h1, h2⟩ | ⟨g, cap, cur, h1, hg1, hh, _⟩
          · have := HNL.out; omega
          · injection h1 with e1 e2 e3
            exact ⟨g, e1, (Array.getElem?_eq_some_iff.1 hh).1, hg1⟩
        subst hA2
        have HS := Lib.hid (sort_row g k xs wr (OwnV.holds HO.out) hgw.1 (by rw [HN.out]; omega))
        rw [HN.out] at HS
        go_wp2_with fail
        refine HS.out.mono ?_
        rintro e w2 ⟨rfl, hh2, ht2⟩
        have HC := Lib.hid (compact_row g k _ w2 hh2 (by rw [List.length_mergeSort, HN.out]; omega) (by rw [List.length_mergeSort, HN.out]; exact HKM.out.1))
        rw [List.length_mergeSort, HN.out, HSORT.out] at HC
        have HT2 := Lib.hid ht2
        clear hh2 ht2
        go_wp2_with fail
        refine HC.out.mono ?_
        rintro e w3 ⟨rfl, hc3, ht3⟩
        have HC3 := Lib.hid hc3
        have HT3 := Lib.hid (HT2.out.trans ht3)
        clear hc3 ht3
        have HGX := Lib.hid (show M.terms (bl s) = M.gather xs by rw [HTM.out, ← HRAW.out])
        have HGL := Lib.hid (show (M.gather xs).length ≤ k by
          rw [← HSORT.out]
          have : (Lib.compact (xs.mergeSort fun x y => decide (x ≤ y))).length ≤ (xs.mergeSort fun x y => decide (x ≤ y)).length := by
            unfold Lib.compact Lib.compactUpTo
            rw [List.length_map]
            exact Nat.le_trans (List.length_filter_le _ _) (by simp)
          rw [List.length_mergeSort, HN.out] at this
          exact Nat.le_trans this HKM.out.1)
        go_wp2
        go_ret
        refine ⟨some ⟨g, 0, none⟩, k, by rw [HGX.out]; rfl, ?_, ?_, fun _ => ⟨g, 0, rfl, Nat.le_trans hw1 hgw.2⟩⟩
        · rw [HGX.out]
          exact ⟨by simp, HGL.out, by have := HKM.out.2; simpa only [maxLen] using this, fun _ => ⟨g, 0, rfl, Nat.lt_of_lt_of_le hgw.1 HT3.out.size, fun j hj => by rw [Nat.zero_add]; exact HC3.out j hj⟩⟩
        · exact HB.out.trans ((HB2.out.trans (HT3.out.below hwr (fun k' hk' => by subst hk'; exact hgw.2))).mono HB.out.size)
theorem terms_any (s : ByteArray) (w : World) (hs : s.size ≤ 1073741824) (hT : Tabs w) : Calls Tryz.prog 77 #[.string s] w (SaysS (M.terms (bl s)) w) :=
  (terms_new s w hs hT).mono fun _ _ ⟨A, c, h1, h2, h3, _⟩ => ⟨A, c, h1, h2, h3⟩
end Go.Proofs.YtfapkpaohkdfpaaGreatDoor
