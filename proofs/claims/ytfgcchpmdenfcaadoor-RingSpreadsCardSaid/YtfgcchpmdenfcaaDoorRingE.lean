/-
  The law RingSpreads, by the contracts and the reckoning.
-/
import Derived.Test.YtfgcchpmdenfcaaDoorRingD
import Derived.Laws.OwnMore
namespace Go.Proofs.YtfgcchpmdenfcaaDoor
open Go.RowKit Mem
set_option linter.unusedVariables false
set_option maxRecDepth 100000

theorem Tryd.infoB : (Tryd.prog.info? 4).map (fun i => (i.zero, i.size, i.bytes)) = some (some (.bool false), 1, 1) := by kernel_rfl
theorem info_of {P : Program} {e : TypeId} {z : Value} {s b : Nat} (h : (P.info? e).map (fun i => (i.zero, i.size, i.bytes)) = some (some z, s, b)) : ∃ i, P.info? e = some i ∧ i.zero = some z ∧ i.size = s ∧ i.bytes = b := by
  cases hi : P.info? e with
  | none => rw [hi] at h; cases h
  | some i => rw [hi] at h; simp at h; exact ⟨i, rfl, h.1, h.2.1, h.2.2⟩
def bools (bs : List Bool) : List Value := bs.map Value.bool
theorem bools_len (bs : List Bool) : (bools bs).length = bs.length := by simp [bools]
theorem bools_at {bs : List Bool} {j : Nat} (h : j < bs.length) : (bools bs)[j]? = some (.bool bs[j]) := by simp [bools, h]
theorem bools_set (bs : List Bool) (j : Nat) : (bools bs).set j (.bool true) = bools (bs.set j true) := by simp [bools, List.map_set]
/-- the shards of the first ids are marked -/
def Marked (f n : Nat) (bs : List Bool) (i : Nat) : Prop := ∀ j, j < i → bs[M.shard (M.sid f j) n]? = some true
theorem Marked.zero (f n : Nat) (bs : List Bool) : Marked f n bs 0 := fun j h => absurd h (by omega)
theorem Marked.next {f n : Nat} {bs : List Bool} {i : Nat} (h : Marked f n bs i) (hn : 1 ≤ n) (hl : bs.length = n) : Marked f n (bs.set (M.shard (M.sid f i) n) true) (i + 1) := by
  intro j hj
  have hlt := M.shard_lt (M.sid f i) n hn
  by_cases e : j = i
  · subst e
    generalize M.shard (M.sid f j) n = r at *
    rw [List.getElem?_set, if_pos rfl, if_pos (by omega)]
  · have := h j (by omega)
    generalize M.shard (M.sid f i) n = s at *
    generalize M.shard (M.sid f j) n = r at *
    rw [List.getElem?_set]
    by_cases e2 : s = r
    · rw [if_pos e2, if_pos (by omega)]
    · rw [if_neg e2]; exact this
theorem Marked.all {f n : Nat} {bs : List Bool} (h : Marked f n bs 400) (hf : f < 26) (hn : 1 ≤ n) (hn8 : n ≤ 8) (s : Nat) (hs : s < n) : bs[s]? = some true := by
  obtain ⟨i, hi, he⟩ := M.spreads f (n - 1) s hf (by omega) (by omega)
  rw [show n - 1 + 1 = n from by omega] at he
  have := h i hi
  rwa [he] at this

set_option maxHeartbeats 2000000 in
theorem ringSpreads_any (f0 s0 : Nat) (hf : f0 < 256) (hs : s0 < 256) (w : World) : Calls Tryd.prog 5 #[.int .u8 (f0 : Int), .int .u8 (s0 : Int)] w fun e w' => e = .returned (.bool true) ∧ Below w.heap.size w w' := by
  obtain ⟨i0, hi0, hz0, hz1, hz2⟩ := info_of Tryd.infoB
  obtain ⟨n, hn⟩ : ∃ n, n = 1 + s0 % 8 := ⟨_, rfl⟩
  have hni : (1 + (s0 : Int) % 8) = (n : Int) := by omega
  have HA := Lib.hid (awake13_any w)
  have HN := Lib.hid hni
  have hn1 : 1 ≤ n := by omega
  have hn8 : n ≤ 8 := by omega
  clear hn hni
  obtain ⟨w2, hmk, ho2, hg2⟩ := run_make_full (P := Tryd.prog) w w.heap.size 31 4 i0 (.bool false) 1 Tryd.underlying31 hi0 hz0 hz1 .i64 .i64 n (by rw [hz2]; omega) (by simp only [maxLen]; omega) (Nat.le_refl _)
  have HO2 := Lib.hid (show OwnV w2 w.heap.size 4 (.slice (some ⟨w.heap.size, 0, none⟩) n n) (bools (List.replicate n false)) by
    unfold OwnV
    rw [bools_len, List.length_replicate, show bools (List.replicate n false) = List.replicate n (.bool false) from by simp [bools], ← toList_madeCells_one]
    rw [Nat.mul_one] at ho2
    exact ho2)
  have HB2 := Lib.hid (show Below w.heap.size w w2 from ⟨hg2.os, hg2.tape, hg2.output, hg2.size, fun k hk => hg2.block k hk (by simp)⟩)
  clear ho2 hg2 hi0 hz0 hz1 hz2
  have HMK := Lib.hid hmk
  clear hmk
  go_enter Tryd.func5, Tryd.ntmps5
  go_wp2_with fail
  refine HA.out.mono ?_
  rintro e w1 ⟨rfl, rfl⟩
  have hni := HN.out
  have hmk := HMK.out
  obtain ⟨g1, hg1⟩ : ∃ g1, w1.heap.size = g1 := ⟨_, rfl⟩
  have HG1 := Lib.hid hg1
  rw [hg1] at HO2 HB2 hmk
  clear HMK HA
  go_wp2
  clear hmk hni hg1
  go_loopw [7] (fun p wr => ∃ (i : Nat) (bs : List Bool), p = .int .i64 (i : Int) ∧ i ≤ 400 ∧ Hid (OwnV wr g1 4 (.slice (some ⟨g1, 0, none⟩) n n) (bools bs)) ∧ Hid (bs.length = n) ∧ Hid (Marked (f0 % 26) n bs i) ∧ Hid (Below g1 w1 wr)) (fun p _ => 400 - (intOf p).toNat)
  case atStart => exact ⟨0, _, rfl, by omega, HO2, Lib.hid (by simp), Lib.hid (Marked.zero _ _ _), HB2⟩
  case round =>
    obtain ⟨i, bs, rfl, hi, HO, HL, HM, HB⟩ := hrel
    by_cases hlt : i < 400
    · obtain ⟨l, hl⟩ : ∃ l, l = M.sid (f0 % 26) i := ⟨_, rfl⟩
      have HSL := Lib.hid (M.shard_lt l n hn1)
      have HSO := Lib.hid (fun W : World => shard_ok ⟨l.toArray⟩ n hn1 hn8 W (by rw [hl]; show (M.sid (f0 % 26) i).toArray.size ≤ _; simp [M.sid]))
      have HMN := Lib.hid (HM.out.next hn1 HL.out)
      rw [← hl] at HMN
      have hc : (convert 32 9 (.slice (some ⟨wr.heap.size, 0, none⟩) 3 3)).run Tryd.prog (wr.alloc (.cells #[.int .u8 (97 + (f0 : Int) % 26), .int .u8 (97 + (i : Int) % 20), .int .u8 (97 + (i : Int) / 20)] 5)) = .ok (.string ⟨l.toArray⟩) (wr.alloc (.cells #[.int .u8 (97 + (f0 : Int) % 26), .int .u8 (97 + (i : Int) % 20), .int .u8 (97 + (i : Int) / 20)] 5)) := by
        have := conv_fresh wr l #[.int .u8 (97 + (f0 : Int) % 26), .int .u8 (97 + (i : Int) % 20), .int .u8 (97 + (i : Int) / 20)] (by rw [hl]; simp [bcells, bcell, M.sid]; omega) (by rw [hl]; simp [M.sid])
        rw [hl] at this ⊢
        exact this
      have hbl : bl ⟨l.toArray⟩ = l := rfl
      rw [hbl] at HSO
      clear hl hbl
      generalize M.shard l n = s at *
      have hsn : s < n := HSL.out
      have hrow : (wr.alloc (.cells #[.int .u8 (97 + (f0 : Int) % 26), .int .u8 (97 + (i : Int) % 20), .int .u8 (97 + (i : Int) / 20)] 5)).ownsRow g1 4 1 (.slice (some ⟨g1, 0, none⟩) n n) n (bools bs) := by
        have := HO.out.alloc (.cells #[.int .u8 (97 + (f0 : Int) % 26), .int .u8 (97 + (i : Int) % 20), .int .u8 (97 + (i : Int) / 20)] 5)
        unfold OwnV at this
        rw [bools_len, HL.out] at this
        exact this
      have HB3 := Lib.hid (HB.out.alloc (show g1 ≤ wr.heap.size by have := HB.out.size; rw [HG1.out] at this; exact this) (.cells #[.int .u8 (97 + (f0 : Int) % 26), .int .u8 (97 + (i : Int) % 20), .int .u8 (97 + (i : Int) / 20)] 5))
      obtain ⟨wa, hwa⟩ : ∃ wa, wa = wr.alloc (.cells #[.int .u8 (97 + (f0 : Int) % 26), .int .u8 (97 + (i : Int) % 20), .int .u8 (97 + (i : Int) / 20)] 5) := ⟨_, rfl⟩
      rw [← hwa] at hc hrow HB3
      have HWA := Lib.hid hwa
      clear hwa
      have hst := World.ownsRow.stored hrow s (.bool true)
      have HO3 := Lib.hid (show OwnV (wa.setCell ⟨g1, s, none⟩ (.bool true)) g1 4 (.slice (some ⟨g1, 0, none⟩) n n) (bools (bs.set s true)) by
        unfold OwnV
        rw [bools_len, List.length_set, HL.out, ← bools_set]
        exact hst.1)
      have HB4 := Lib.hid (HB3.out.setCell (p := ⟨g1, s, none⟩) (Nat.le_refl _) (.bool true))
      have hfz : wa.frozen? ⟨g1, s, none⟩ = false := World.ownsRow.frozenAt hrow s
      have hce : ∃ u, wa.cell? ⟨g1, s, none⟩ = some u := by
        have h1 : OwnV wa g1 4 (.slice (some ⟨g1, 0, none⟩) n n) (bools bs) := by unfold OwnV; rw [bools_len, HL.out]; exact hrow
        obtain ⟨b, off, e, hb, hc⟩ := h1.rd.at_ hsn
        injection e with e
        injection e with e1 e2
        subst e1 e2
        rw [Nat.zero_add] at hc
        rw [bools_at (by rw [HL.out]; exact hsn)] at hc
        exact ⟨_, hc⟩
      obtain ⟨u, hce⟩ := hce
      have HL3 := Lib.hid (show (bs.set s true).length = n by rw [List.length_set]; exact HL.out)
      clear hst hrow HSL
      have HRE := Lib.hid (show (wr.alloc (.cells #[.int .u8 (97 + (f0 : Int) % 26), .int .u8 (97 + (i : Int) % 20), .int .u8 (97 + (i : Int) / 20)] 5)) = wa from HWA.out.symm)
      rw [HWA.out] at hc
      go_wp2_with fail
      rw [HRE.out]
      refine (HSO.out wa).mono ?_
      rintro e w3 ⟨rfl, hx⟩
      subst hx
      clear hc
      go_wp2
      exact ⟨⟨i + 1, _, by go_num, by omega, HO3, HL3, HMN, HB4⟩, by simp [intOf]; omega⟩
    · obtain rfl : i = 400 := by omega
      have HALL := Lib.hid (fun k hk => HM.out.all (by omega) hn1 hn8 k hk)
      have HBW := Lib.hid (show Below w1.heap.size w1 wr by rw [HG1.out]; exact HB.out)
      clear HM
      go_wp2
      go_loopw [10] (fun p w2 => ∃ k : Nat, p = .int .i64 (k : Int) ∧ k ≤ n ∧ w2 = wr) (fun p _ => n - (intOf p).toNat)
      case atStart => exact ⟨0, rfl, by omega, rfl⟩
      case round =>
        obtain ⟨k, rfl, hk, rfl⟩ := hrel
        by_cases hkn : k < n
        · have hce : wr.cell? ⟨g1, k, none⟩ = some (.bool true) := by
            obtain ⟨b, off, e, hb, hc⟩ := HO.out.rd.at_ hkn
            injection e with e
            injection e with e1 e2
            subst e1 e2
            rw [Nat.zero_add, bools_at (by rw [HL.out]; exact hkn)] at hc
            have h2 := HALL.out k hkn
            rw [List.getElem?_eq_getElem (by rw [HL.out]; exact hkn)] at h2
            injection h2 with h2
            rw [h2] at hc
            exact hc
          go_wp2
          exact ⟨⟨k + 1, by go_num, by omega, trivial⟩, by simp [intOf]; omega⟩
        · go_wp2
          go_ret
          exact ⟨rfl, HBW.out⟩
end Go.Proofs.YtfgcchpmdenfcaaDoor
