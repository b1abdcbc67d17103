/-
  Joined: CopyA CopyB CopyC CopyD CopyE CopyF CopyG CopyH CopyI.
-/
import Derived.Test.YtjdkpcibdjhdoaaDoorWalZ
import Derived.Test.YtjdkpcibdjhdoaaDoorPackL
import Derived.Test.YtjdkpcibdjhdoaaDoorMatchMath
import Derived.Lib.AppendZeros
import Derived.Deep.RegionHeld3
import Derived.BigQuiet
import Derived.Deep.QuietTactic
import Derived.Sort.Walk0
import Derived.Deep.AppendLies
import Derived.Deep.RegionLaw
namespace Go.Proofs.YtjdkpcibdjhdoaaDoor.M
set_option linter.unusedVariables false
/-- an entry of a history -/
structure O where
  term : Nat
  doc : D
instance : Inhabited O := ⟨⟨0, default⟩⟩
deriving instance DecidableEq for O
def opB (o : O) : List UInt8 := uv o.term ++ text o.doc.id ++ uv (zig o.doc.time).toNat ++ text o.doc.text
end Go.Proofs.YtjdkpcibdjhdoaaDoor.M
namespace Go.Proofs.YtjdkpcibdjhdoaaDoor
open Go.RowKit Mem
set_option linter.unusedVariables false
set_option maxRecDepth 100000

def SaysB (b : Bool) (w : World) (e : Ending) (w' : World) : Prop := e = .returned (.bool b) ∧ Below w.heap.size w w'
theorem beq_str (a b : List UInt8) : (a == b) = decide (a = b) := by rw [Bool.eq_iff_iff]; simp
def dval (d : M.D) : Value := .agg #[.string ⟨d.id.toArray⟩, .int .i64 d.time, .string ⟨d.text.toArray⟩]
def oval (o : M.O) : Value := .agg #[.int .u64 (o.term : Int), .string ⟨o.doc.id.toArray⟩, .int .i64 o.doc.time, .string ⟨o.doc.text.toArray⟩]
theorem cell_on {W W' : World} {p : Addr} {v : Value} (hb : Below W.heap.size W W') (h : W.cell? p = some v) : W'.cell? p = some v := (hb.cell (World.block_lt_of_cell? W _ h)).trans h
theorem bel_drewN {w W : World} {B : Nat} (h : Below B w W) (k : Nat) : Below B w (W.drewN k) := ⟨h.os, h.tape, h.output, h.size, h.block⟩
def idB (c : UInt8) : Bool := decide (33 ≤ c.toNat ∧ c.toNat ≤ 126)
/-- so far all are fit -/
def Fit (id : List UInt8) (j : Nat) : Prop := id.all idB = (id.drop j).all idB
theorem Fit.start (id : List UInt8) : Fit id 0 := rfl
theorem Fit.stop {id : List UInt8} {j : Nat} (h : Fit id j) (hj : j < id.length) (hx : idB id[j] = false) : id.all idB = false := by
  rw [h, List.drop_eq_getElem_cons hj, List.all_cons, hx]; rfl
theorem Fit.step {id : List UInt8} {j : Nat} (h : Fit id j) (hj : j < id.length) (hx : idB id[j] = true) : Fit id (j + 1) := by
  unfold Fit at h ⊢
  rw [h, List.drop_eq_getElem_cons hj, List.all_cons, hx]; rfl
theorem Fit.end_ {id : List UInt8} {j : Nat} (h : Fit id j) (hj : id.length ≤ j) : id.all idB = true := by rw [h, List.drop_eq_nil_of_le hj]; rfl
theorem form_big {id text : List UInt8} (h : id.length = 0 ∨ 32 < id.length ∨ 512 < text.length) : M.formB id text = false := by
  unfold M.formB
  rcases h with h | h | h
  · simp [h]
  · have : ¬ id.length ≤ 32 := by omega
    simp [this]
  · have : ¬ text.length ≤ 512 := by omega
    simp [this]
theorem form_fit {id text : List UInt8} {b : Bool} (h1 : 0 < id.length) (h2 : id.length ≤ 32) (h3 : text.length ≤ 512) (h : id.all idB = b) : M.formB id text = b := by
  rw [← h]
  unfold M.formB idB
  simp [h1, h2, h3]

set_option maxHeartbeats 1000000 in
theorem form_any (d : M.D) (w : World) : Calls Tryd.prog 21 #[dval d] w (SaysB (M.formB d.id d.text) w) := by
  obtain ⟨id, tm, text⟩ := d
  unfold dval
  simp only
  have HB := Lib.hid ((Below.refl w.heap.size w).alloc (Nat.le_refl _) (.cells #[.string ⟨id.toArray⟩, .int .i64 tm, .string ⟨text.toArray⟩] 24))
  by_cases h0 : id = []
  · subst h0
    have HF := Lib.hid (form_big (id := []) (text := text) (.inl rfl))
    go_enter Tryd.func21, Tryd.ntmps21
    go_wp2
    go_ret
    exact ⟨by first | rfl | (rw [HF.out]; rfl), HB.out⟩
  · have hp : 0 < id.length := List.length_pos_iff.2 h0
    have hne : (id == []) = false := by rw [beq_str]; simpa using h0
    have hne2 : ¬ id.length < 1 := by omega
    have hne3 : ¬ (id.length : Int) < 1 := by omega
    clear h0
    by_cases h1 : 32 < id.length
    · have HF := Lib.hid (form_big (id := id) (text := text) (.inr (.inl h1)))
      have hq : decide ((32 : Int) < (id.length : Int)) = true := by simp; omega
      go_enter Tryd.func21, Tryd.ntmps21
      go_wp2
      go_ret
      exact ⟨by first | rfl | (rw [HF.out]; rfl), HB.out⟩
    · have hq : decide ((32 : Int) < (id.length : Int)) = false := by simp; omega
      by_cases h2 : 512 < text.length
      · have HF := Lib.hid (form_big (id := id) (text := text) (.inr (.inr h2)))
        have hq2 : decide ((512 : Int) < (text.length : Int)) = true := by simp; omega
        go_enter Tryd.func21, Tryd.ntmps21
        go_wp2
        go_ret
        exact ⟨by first | rfl | (rw [HF.out]; rfl), HB.out⟩
      · have hq2 : decide ((512 : Int) < (text.length : Int)) = false := by simp; omega
        have HFF := Lib.hid (fun b => form_fit (id := id) (text := text) (b := b) hp (by omega) (by omega))
        go_enter Tryd.func21, Tryd.ntmps21
        go_wp2
        clear hne hne2 hne3 hq2 h2 hq
        go_loop [22] (fun i => ∃ j : Nat, i = .int .i64 j ∧ j ≤ id.length ∧ Hid (Fit id j)) (fun i => id.length - (intOf i).toNat)
        case atStart => exact ⟨0, rfl, by omega, Lib.hid (Fit.start id)⟩
        case round =>
          obtain ⟨j, rfl, hj, HS⟩ := hrel
          by_cases hlt : j < id.length
          · obtain ⟨c, hc⟩ : ∃ c, (⟨id.toArray⟩ : ByteArray)[j]'hlt = c := ⟨_, rfl⟩
            have hc' : id[j] = c := hc
            cases hx : idB id[j] with
            | false =>
              have HF := Lib.hid (HFF.out false (HS.out.stop hlt hx))
              have hx1 : ¬ (33 ≤ id[j].toNat ∧ id[j].toNat ≤ 126) := by simpa [idB] using hx
              rw [hc'] at hx1
              clear hx hc'
              by_cases h3 : c.toNat < 33
              · have hq3 : decide ((c.toNat : Int) < 33) = true := by simp; omega
                go_wp2
                go_ret
                exact ⟨by first | rfl | (rw [HF.out]; rfl), HB.out⟩
              · have hq3 : decide ((c.toNat : Int) < 33) = false := by simp; omega
                have hq4 : decide (126 < (c.toNat : Int)) = true := by simp; omega
                go_wp2
                go_ret
                exact ⟨by first | rfl | (rw [HF.out]; rfl), HB.out⟩
            | true =>
              have HS2 := Lib.hid (HS.out.step hlt hx)
              have hx1 : 33 ≤ id[j].toNat ∧ id[j].toNat ≤ 126 := by simpa [idB] using hx
              rw [hc'] at hx1
              clear hx hc'
              have hq3 : decide ((c.toNat : Int) < 33) = false := by simp; omega
              have hq4 : decide (126 < (c.toNat : Int)) = false := by simp; omega
              go_wp2
              go_round
              case rel => exact ⟨j + 1, by go_num, by omega, HS2⟩
              case measure => simp [intOf]; omega
          · have HF := Lib.hid (HFF.out true (HS.out.end_ (by omega)))
            go_wp2
            go_ret
            exact ⟨by first | rfl | (rw [HF.out]; rfl), HB.out⟩

set_option maxHeartbeats 1000000 in
theorem ref_form_any (d : M.D) (w : World) : Calls Tryd.prog 30 #[dval d] w (SaysB (M.formB d.id d.text) w) := by
  obtain ⟨id, tm, text⟩ := d
  unfold dval
  simp only
  have HB := Lib.hid ((Below.refl w.heap.size w).alloc (Nat.le_refl _) (.cells #[.string ⟨id.toArray⟩, .int .i64 tm, .string ⟨text.toArray⟩] 24))
  by_cases h0 : id = []
  · subst h0
    have HF := Lib.hid (form_big (id := []) (text := text) (.inl rfl))
    go_enter Tryd.func30, Tryd.ntmps30
    go_wp2
    go_ret
    exact ⟨by first | rfl | (rw [HF.out]; rfl), HB.out⟩
  · have hp : 0 < id.length := List.length_pos_iff.2 h0
    have hne : (id == []) = false := by rw [beq_str]; simpa using h0
    have hne2 : ¬ id.length < 1 := by omega
    have hne3 : ¬ (id.length : Int) < 1 := by omega
    clear h0
    by_cases h1 : 32 < id.length
    · have HF := Lib.hid (form_big (id := id) (text := text) (.inr (.inl h1)))
      have hq : decide ((32 : Int) < (id.length : Int)) = true := by simp; omega
      go_enter Tryd.func30, Tryd.ntmps30
      go_wp2
      go_ret
      exact ⟨by first | rfl | (rw [HF.out]; rfl), HB.out⟩
    · have hq : decide ((32 : Int) < (id.length : Int)) = false := by simp; omega
      by_cases h2 : 512 < text.length
      · have HF := Lib.hid (form_big (id := id) (text := text) (.inr (.inr h2)))
        have hq2 : decide ((512 : Int) < (text.length : Int)) = true := by simp; omega
        go_enter Tryd.func30, Tryd.ntmps30
        go_wp2
        go_ret
        exact ⟨by first | rfl | (rw [HF.out]; rfl), HB.out⟩
      · have hq2 : decide ((512 : Int) < (text.length : Int)) = false := by simp; omega
        have HFF := Lib.hid (fun b => form_fit (id := id) (text := text) (b := b) hp (by omega) (by omega))
        go_enter Tryd.func30, Tryd.ntmps30
        go_wp2
        clear hne hne2 hne3 hq2 h2 hq
        go_loop [3] (fun i => ∃ j : Nat, i = .int .i64 j ∧ j ≤ id.length ∧ Hid (Fit id j)) (fun i => id.length - (intOf i).toNat)
        case atStart => exact ⟨0, rfl, by omega, Lib.hid (Fit.start id)⟩
        case round =>
          obtain ⟨j, rfl, hj, HS⟩ := hrel
          by_cases hlt : j < id.length
          · obtain ⟨c, hc⟩ : ∃ c, (⟨id.toArray⟩ : ByteArray)[j]'hlt = c := ⟨_, rfl⟩
            have hc' : id[j] = c := hc
            cases hx : idB id[j] with
            | false =>
              have HF := Lib.hid (HFF.out false (HS.out.stop hlt hx))
              have hx1 : ¬ (33 ≤ id[j].toNat ∧ id[j].toNat ≤ 126) := by simpa [idB] using hx
              rw [hc'] at hx1
              clear hx hc'
              by_cases h3 : c.toNat < 33
              · have hq3 : decide ((c.toNat : Int) < 33) = true := by simp; omega
                go_wp2
                go_ret
                exact ⟨by first | rfl | (rw [HF.out]; rfl), HB.out⟩
              · have hq3 : decide ((c.toNat : Int) < 33) = false := by simp; omega
                have hq4 : decide (126 < (c.toNat : Int)) = true := by simp; omega
                go_wp2
                go_ret
                exact ⟨by first | rfl | (rw [HF.out]; rfl), HB.out⟩
            | true =>
              have HS2 := Lib.hid (HS.out.step hlt hx)
              have hx1 : 33 ≤ id[j].toNat ∧ id[j].toNat ≤ 126 := by simpa [idB] using hx
              rw [hc'] at hx1
              clear hx hc'
              have hq3 : decide ((c.toNat : Int) < 33) = false := by simp; omega
              have hq4 : decide (126 < (c.toNat : Int)) = false := by simp; omega
              go_wp2
              go_round
              case rel => exact ⟨j + 1, by go_num, by omega, HS2⟩
              case measure => simp [intOf]; omega
          · have HF := Lib.hid (HFF.out true (HS.out.end_ (by omega)))
            go_wp2
            go_ret
            exact ⟨by first | rfl | (rw [HF.out]; rfl), HB.out⟩


set_option maxHeartbeats 1000000 in
theorem grow_nil (n : Nat) (w : World) (hn : n ≤ 1000000) : Calls Tryd.prog 67 #[.slice none 0 0, .int .i64 (n : Int)] w (GivesP w []) := by
  obtain ⟨i0, hi0, hz0, hz1, hz2⟩ := info_parts Tryd.info_byte
  have HI := Lib.hid hi0; have HZ0 := Lib.hid hz0; have HZ1 := Lib.hid hz1; have HZ2 := Lib.hid hz2
  rcases Nat.eq_zero_or_pos n with h0 | h0
  · subst h0
    go_enter Tryd.func67, Tryd.ntmps67
    go_wp2
    go_ret
    exact ⟨_, rfl, Own.nil _ _ _, Below.refl _ _⟩
  · have hw : IntKind.i64.wrap (n : Int) = (n : Int) := by rw [IntKind.wrap_i64]; omega
    have hni : (0 : Int) < (n : Int) := by omega
    have hnn : ¬ (n : Int) < 0 := by omega
    have happ := Lib.run_append_nil_zeros (P := Tryd.prog) w 27 3 27 5 i0 (.int .u8 0) .i64 .i64 Tryd.underlying27 Tryd.underlying3 hi0 hz0 n h0 (by rw [hz1]; omega) (by omega) (by rw [hz2]; omega)
    have hge := grownCap_ge w n 0 5
    have hle := grownCap_le_maxLen w n 0 5 (by simp only [maxLen]; omega)
    generalize grownCap w n 0 5 = cap at *
    have HAP := Lib.hid happ
    have hcm : cap ≤ 9223372036854775807 := by simpa only [maxLen] using hle
    clear happ hi0 hz0 hz1 hz2 hle
    go_enter Tryd.func67, Tryd.ntmps67
    go_wp2_with (at_builtin; go_must (refine Lib.wpList_append_run _ rfl (.tmp 20) (.tmp 21) 27 3 rfl (.slice none 0 0) (.int .i64 (n : Int)) rfl rfl _ _ HAP.out ?_))
    go_wp2
    go_ret
    refine ⟨_, rfl, ⟨rfl, .inr ⟨w.heap.size, cap, _, rfl, Nat.le_refl _, heap_alloc_new w.drew _, Nat.zero_le _, by simp only [maxLen]; omega, ?_, rfl⟩⟩, ?_⟩
    · simp [Builtin.zeroCells]; omega
    · have h := (Below.refl w.heap.size w).alloc (Nat.le_refl _) (.cells (Builtin.zeroCells (Value.int .u8 0).cells n ++ Builtin.zeroCells (Value.int .u8 0).cells (cap - n)) 5)
      exact ⟨h.os, h.tape, h.output, h.size, h.block⟩

set_option maxHeartbeats 2000000 in
theorem concat_any (A : Option Addr) (n c : Nat) (ls : List (List UInt8)) (w : World) (h : RdL w A n c ls) (hn : n ≤ 1000) (ht : ls.flatten.length ≤ 1000000) :
    Calls Tryd.prog 45 #[.slice A n c] w (GivesP w ls.flatten) := by
  obtain ⟨i0, hi0, hz0, hz1, hz2⟩ := info_parts Tryd.info_byte
  have HI := Lib.hid hi0; have HZ0 := Lib.hid hz0; have HZ1 := Lib.hid hz1; have HZ2 := Lib.hid hz2
  clear hi0 hz0 hz1 hz2
  have H := Lib.hid h; have HN := Lib.hid h.1; have HT := Lib.hid ht
  have hc := h.2.1; have hcm := h.2.2.1
  have hfn : ∀ (i : Nat) (hi : i < ls.length), (ls.take (i + 1)).flatten = (ls.take i).flatten ++ ls[i] := by
    intro i hi
    rw [List.take_succ_eq_append_getElem hi, List.flatten_append]
    simp
  have HFN := Lib.hid hfn
  have HFL := Lib.hid (fun (i : Nat) => show (ls.take i).flatten.length ≤ ls.flatten.length by
    have e : ls.flatten = (ls.take i).flatten ++ (ls.drop i).flatten := by rw [← List.flatten_append, List.take_append_drop]
    rw [e, List.length_append]; omega)
  clear h ht hfn
  go_enter Tryd.func45, Tryd.ntmps45
  go_wp2
  go_loopw [3, 11] (fun q p wr => ∃ i t : Nat, p = .int .i64 i ∧ q = .int .i64 t ∧ i ≤ n ∧ t ≤ 1000000 ∧ Hid (t = (ls.take i).flatten.length) ∧ wr = w) (fun _ p _ => n - (intOf p).toNat)
  case atStart => exact ⟨0, 0, rfl, rfl, Nat.zero_le _, by omega, Lib.hid (by simp), rfl⟩
  case round =>
    obtain ⟨i, t, rfl, rfl, hi, ht, HTK, rfl⟩ := hrel
    by_cases hlt : i < n
    · have hix : i < ls.length := by have := HN.out; omega
      obtain ⟨g, off, A', n', c', rfl, q, hrd⟩ := H.out.at_ hix
      have hil : (i : Int) < (n : Int) := by omega
      have hn' := hrd.len
      have h1 := HFN.out i hix; have h2 := HFL.out (i + 1)
      rw [h1, List.length_append] at h2
      have ht2 : t + n' ≤ 1000000 := by have := HTK.out; have := HT.out; omega
      have hw1 : IntKind.i64.wrap ((t : Int) + (n' : Int)) = ((t + n' : Nat) : Int) := by rw [IntKind.wrap_i64]; omega
      have hng : ¬ ((t + n' : Nat) : Int) < 0 := by omega
      have HTK2 := Lib.hid (show t + n' = (ls.take (i + 1)).flatten.length by rw [h1, List.length_append, HTK.out, hn'])
      clear h1 h2 hrd hn'
      go_wp2
      go_roundw
      case rel => exact ⟨i + 1, t + n', by go_num, by go_num, by omega, ht2, HTK2, by simp⟩
      case measure => simp [intOf]; omega
    · obtain rfl : i = n := by omega
      have HG := Lib.hid (grow_nil t wr ht)
      go_wp2_with fail
      refine HG.out.mono ?_
      rintro e w1 ⟨v1, rfl, ho1, hb1⟩
      obtain ⟨A1, c1, rfl, -⟩ := ho1.open_
      have HO0 := Lib.hid (show Own w1 wr.heap.size 5 (.slice A1 0 c1) ((ls.take 0).flatten) by simpa using ho1)
      have HB0 := Lib.hid hb1
      clear ho1 hb1 HG HTK ht
      go_wp2
      go_loopw [6, 27] (fun o p wq => ∃ (k n4 c4 : Nat) (A4 : Option Addr), p = .int .i64 k ∧ o = .slice A4 n4 c4 ∧ k ≤ i ∧ Hid (Own wq wr.heap.size 5 (.slice A4 n4 c4) ((ls.take k).flatten)) ∧ Hid (Below wr.heap.size wr wq)) (fun _ p _ => i - (intOf p).toNat)
      case atStart => exact ⟨0, 0, c1, A1, rfl, rfl, Nat.zero_le _, HO0, HB0⟩
      case round =>
        obtain ⟨k, n4, c4, A4, rfl, rfl, hk, HO, HB⟩ := hrel
        rename World => wq
        by_cases hlt : k < i
        · have hix : k < ls.length := by have := HN.out; omega
          obtain ⟨g, off, A', n', c', rfl, q, hrd⟩ := (H.out.keep HB.out).at_ hix
          have hil : (k : Int) < (i : Int) := by omega
          have HX := Lib.hid (HFN.out k hix)
          have hroom : ((ls.take k).flatten).length + ls[k].length ≤ 1000000 := by
            have h2 := HFL.out (k + 1)
            rw [HX.out, List.length_append] at h2
            have := HT.out; omega
          have HRD := Lib.hid hrd
          have hsz := HB.out.size
          clear hrd
          generalize ls[k] = x at *
          go_wp2_with (at_builtin; go_must (refine wpList_app _ rfl (.tmp 31) (.tmp 32) _ rfl wr.heap.size wq.heap.size _ i0 Tryd.underlying27 HI.out HZ0.out HZ1.out HZ2.out (.slice A4 n4 c4) ((ls.take k).flatten) HO.out rfl A' n' c' x HRD.out rfl ?_ hsz ?_))
          · omega
          intro v5 w5 hO5 hg5 hat5
          obtain ⟨A5, c5, hv5, -⟩ := hO5.open_
          have HB5 := Lib.hid (HB.out.trans (below_own HO.out hsz hg5))
          have HO5 := Lib.hid (show Own w5 wr.heap.size 5 v5 ((ls.take (k + 1)).flatten) by rw [HX.out]; exact hO5)
          subst hv5
          clear hO5 hg5 hat5
          go_wp2
          go_roundw
          case rel => exact ⟨k + 1, _, c5, A5, by go_num, rfl, by omega, HO5, HB5⟩
          case measure => simp [intOf]; omega
        · have HE := Lib.hid (show (ls.take k).flatten = ls.flatten by rw [List.take_of_length_le (by have := HN.out; omega)])
          obtain rfl : k = i := by omega
          go_wp2
          go_ret
          have := HO.out
          rw [HE.out] at this
          exact ⟨_, rfl, this, HB.out⟩
end Go.Proofs.YtjdkpcibdjhdoaaDoor

namespace Go.Proofs.YtjdkpcibdjhdoaaDoor.M
set_option linter.unusedVariables false
/-- what an entry must be, so that its bytes are few -/
structure O.Ok (o : O) : Prop where
  term : o.term < 18446744073709551616
  lo : -9223372036854775808 ≤ o.doc.time
  hi : o.doc.time ≤ 9223372036854775807
  id : o.doc.id.length ≤ 32
  text : o.doc.text.length ≤ 512
theorem text_len (s : List UInt8) : (text s).length ≤ s.length + 10 := by unfold text; rw [List.length_append]; have := uv_len s.length; omega
theorem opB_len {o : O} (h : o.Ok) : (opB o).length ≤ 600 := by
  unfold opB
  simp only [List.length_append]
  have h1 := uv_len o.term; have h2 := uv_len (zig o.doc.time).toNat; have h3 := text_len o.doc.id; have h4 := text_len o.doc.text; have h5 := h.id; have h6 := h.text
  omega
theorem zig_nat {v : Int} (h1 : -9223372036854775808 ≤ v) (h2 : v ≤ 9223372036854775807) : 0 ≤ zig v ∧ zig v < 18446744073709551616 := by unfold zig; split <;> omega
end Go.Proofs.YtjdkpcibdjhdoaaDoor.M
namespace Go.Proofs.YtjdkpcibdjhdoaaDoor
open Go.RowKit Mem
set_option linter.unusedVariables false
set_option maxRecDepth 100000

/-- an entry in a block of its own -/
def OpIn (W : World) (g : Nat) (o : M.O) : Prop := W.cell? ⟨g, 0, none⟩ = some (.int .u64 (o.term : Int)) ∧ W.cell? ⟨g, 1, none⟩ = some (.string ⟨o.doc.id.toArray⟩) ∧ W.cell? ⟨g, 2, none⟩ = some (.int .i64 o.doc.time) ∧ W.cell? ⟨g, 3, none⟩ = some (.string ⟨o.doc.text.toArray⟩)
theorem OpIn.on {W W' : World} {g : Nat} {o : M.O} (h : OpIn W g o) (hb : Below W.heap.size W W') : OpIn W' g o := ⟨cell_on hb h.1, cell_on hb h.2.1, cell_on hb h.2.2.1, cell_on hb h.2.2.2⟩
theorem op_s {w W : World} {g t : Nat} {did dtx : M.T} {dtm : Int} (h : OpIn W g ⟨t, ⟨did, dtm, dtx⟩⟩) (hb : Below w.heap.size w W) : W.cell? ⟨g, 0, none⟩ = some (.int .u64 (t : Int)) ∧ W.cell? ⟨g, 1, none⟩ = some (.string ⟨did.toArray⟩) ∧ W.cell? ⟨g, 2, none⟩ = some (.int .i64 dtm) ∧ W.cell? ⟨g, 3, none⟩ = some (.string ⟨dtx.toArray⟩) ∧ Below w.heap.size w W :=
  ⟨h.1, h.2.1, h.2.2.1, h.2.2.2, hb⟩
theorem op_on {w W W' : World} {g t : Nat} {did dtx : M.T} {dtm : Int} (h : W.cell? ⟨g, 0, none⟩ = some (.int .u64 (t : Int)) ∧ W.cell? ⟨g, 1, none⟩ = some (.string ⟨did.toArray⟩) ∧ W.cell? ⟨g, 2, none⟩ = some (.int .i64 dtm) ∧ W.cell? ⟨g, 3, none⟩ = some (.string ⟨dtx.toArray⟩) ∧ Below w.heap.size w W) (hb : Below W.heap.size W W') :
    W'.cell? ⟨g, 0, none⟩ = some (.int .u64 (t : Int)) ∧ W'.cell? ⟨g, 1, none⟩ = some (.string ⟨did.toArray⟩) ∧ W'.cell? ⟨g, 2, none⟩ = some (.int .i64 dtm) ∧ W'.cell? ⟨g, 3, none⟩ = some (.string ⟨dtx.toArray⟩) ∧ Below w.heap.size w W' :=
  ⟨cell_on hb h.1, cell_on hb h.2.1, cell_on hb h.2.2.1, cell_on hb h.2.2.2.1, h.2.2.2.2.trans (hb.mono h.2.2.2.2.size)⟩
theorem _root_.Go.Proofs.YtjdkpcibdjhdoaaDoor.Mem.Rd.on {w w' : World} {A : Option Addr} {n c : Nat} {l : List UInt8} (h : Rd w w.heap.size A n c l) (hb : Below w.heap.size w w') : Rd w' w'.heap.size A n c l := (h.below hb).more hb.size
theorem _root_.Go.Proofs.YtjdkpcibdjhdoaaDoor.Mem.Rd.fresh_on {w : World} {A : Option Addr} {n c : Nat} {l : List UInt8} (h : Rd w w.heap.size A n c l) (o : Obj) : Rd (w.alloc o) (w.alloc o).heap.size A n c l := h.on ((Below.refl _ w).alloc (Nat.le_refl _) o)
theorem rdl_four {w : World} {g : Nat} {v1 v2 v3 v4 : Value} {T : TypeId} {l1 l2 l3 l4 : List UInt8} (h : w.heap[g]? = some (.cells #[v1, v2, v3, v4] T (0, 0)))
    {A1 A2 A3 A4 : Option Addr} {n1 n2 n3 n4 c1 c2 c3 c4 : Nat} (e1 : v1 = .slice A1 n1 c1) (e2 : v2 = .slice A2 n2 c2) (e3 : v3 = .slice A3 n3 c3) (e4 : v4 = .slice A4 n4 c4)
    (r1 : Rd w w.heap.size A1 n1 c1 l1) (r2 : Rd w w.heap.size A2 n2 c2 l2) (r3 : Rd w w.heap.size A3 n3 c3 l3) (r4 : Rd w w.heap.size A4 n4 c4 l4) : RdL w (some ⟨g, 0, none⟩) 4 4 [l1, l2, l3, l4] := by
  refine ⟨rfl, Nat.le_refl _, by omega, fun i hi => ?_⟩
  have hi' : i < 4 := hi
  rcases (by omega : i = 0 ∨ i = 1 ∨ i = 2 ∨ i = 3) with rfl | rfl | rfl | rfl
  · exact ⟨g, 0, A1, n1, c1, rfl, by rw [Nat.zero_add, cellAt 0 h, ← e1]; rfl, r1⟩
  · exact ⟨g, 0, A2, n2, c2, rfl, by rw [Nat.zero_add, cellAt 1 h, ← e2]; rfl, r2⟩
  · exact ⟨g, 0, A3, n3, c3, rfl, by rw [Nat.zero_add, cellAt 2 h, ← e3]; rfl, r3⟩
  · exact ⟨g, 0, A4, n4, c4, rfl, by rw [Nat.zero_add, cellAt 3 h, ← e4]; rfl, r4⟩

set_option maxHeartbeats 4000000 in
theorem opBytes_any (o : M.O) (w : World) (h : o.Ok) : Calls Tryd.prog 22 #[oval o] w (GivesP w (M.opB o)) := by
  have hl := M.opB_len h
  have HL := Lib.hid hl
  have he : [M.uv o.term, M.text o.doc.id, M.uv (M.zig o.doc.time).toNat, M.text o.doc.text].flatten = M.opB o := by simp [M.opB]
  have HU1 := Lib.hid (fun W => uvarint_any o.term W h.term)
  obtain ⟨hz1, hz2⟩ := M.zig_nat h.lo h.hi
  obtain ⟨z, hz⟩ : ∃ z : Nat, M.zig o.doc.time = (z : Int) := ⟨(M.zig o.doc.time).toNat, by omega⟩
  have HZ := Lib.hid (fun W => zig_any o.doc.time W h.lo h.hi)
  have HU2 := Lib.hid (fun W => uvarint_any z W (by omega))
  have HT1 := Lib.hid (fun W => text_any ⟨o.doc.id.toArray⟩ W (by have := h.id; simp [ByteArray.size]; omega))
  have HT2 := Lib.hid (fun W => text_any ⟨o.doc.text.toArray⟩ W (by have := h.text; simp [ByteArray.size]; omega))
  rw [hz] at HZ he
  rw [Int.toNat_natCast] at he
  have HE := Lib.hid he
  obtain ⟨t, ⟨did, dtm, dtx⟩⟩ := o
  unfold oval
  simp only at HU1 HT1 HT2 HZ HE ⊢
  obtain ⟨w1, hw1⟩ : ∃ w1, w1 = w.alloc (.cells #[.int .u64 (t : Int), .string ⟨did.toArray⟩, .int .i64 dtm, .string ⟨dtx.toArray⟩] 26) := ⟨_, rfl⟩
  have HV := Lib.hid (show OpIn w1.drew w.heap.size ⟨t, ⟨did, dtm, dtx⟩⟩ ∧ Below w.heap.size w w1.drew by
    rw [hw1]
    exact ⟨⟨cellAt (w := w.alloc _) 0 (heap_alloc_new w _), cellAt (w := w.alloc _) 1 (heap_alloc_new w _), cellAt (w := w.alloc _) 2 (heap_alloc_new w _), cellAt (w := w.alloc _) 3 (heap_alloc_new w _)⟩, bel_drewN ((Below.refl _ _).alloc (Nat.le_refl _) _) 1⟩)
  clear h hl hz hz1 hz2 he
  go_enter Tryd.func22, Tryd.ntmps22
  go_wp2_with fail
  rw [← hw1]
  clear hw1
  go_region_held3 (fun W => W.cell? ⟨w.heap.size, 0, none⟩ = some (.int .u64 (t : Int)) ∧ W.cell? ⟨w.heap.size, 1, none⟩ = some (.string ⟨did.toArray⟩) ∧ W.cell? ⟨w.heap.size, 2, none⟩ = some (.int .i64 dtm) ∧ W.cell? ⟨w.heap.size, 3, none⟩ = some (.string ⟨dtx.toArray⟩) ∧ Below w.heap.size w W)
    (first | exact hHeld | exact s6 | exact op_on s5 ((Below.refl _ w5).alloc (Nat.le_refl _) _) | exact s5 | exact s4 | exact s2 | exact s1 | exact op_s HV.out.1 HV.out.2 | fail)
    (first
      | (go_at_call 45; refine (concat_any (some ⟨w5.heap.size, 0, none⟩) 4 4 [M.uv t, M.text did, M.uv z, M.text dtx] _ (rdl_four (heap_alloc_new w5 _) rfl rfl rfl rfl (q1.fresh_on _) (q2.fresh_on _) (q4.fresh_on _) (q5.fresh_on _)) (by omega) (by rw [HE.out]; have := HL.out; omega)).mono ?_; rintro e w6 ⟨v6, rfl, ho6, hb6⟩; have s6 := op_on (op_on s5 ((Below.refl _ w5).alloc (Nat.le_refl _) _)) hb6)
      | (go_at_call 47; refine (HT2.out w4).mono ?_; rintro e w5 ⟨v5, rfl, ho5, hb5⟩; obtain ⟨A5, c5, rfl, hr5⟩ := ho5.open_; have q5 := hr5; have q1 := p1.on hb5; have q2 := p2.on hb5; have q4 := p4.on hb5; have s5 := op_on s4 hb5)
      | (go_at_call 46; refine (HU2.out w2).mono ?_; rintro e w4 ⟨v4, rfl, ho4, hb4⟩; obtain ⟨A4, c4, rfl, hr4⟩ := ho4.open_; have p4 := hr4; have p1 := o1.on hb4; have p2 := o2.on hb4; have s4 := op_on s2 hb4)
      | (go_at_call 48; refine (HZ.out w2).mono ?_; rintro e w3 ⟨rfl, rfl⟩)
      | (go_at_call 47; refine (HT1.out w1').mono ?_; rintro e w2 ⟨v2, rfl, ho2, hb2⟩; obtain ⟨A2, c2, rfl, hr2⟩ := ho2.open_; have o2 := hr2; have o1 := hr1.on hb2; have s2 := op_on s1 hb2)
      | (go_at_call 46; refine (HU1.out w1.drew).mono ?_; rintro e w1' ⟨v1, rfl, ho1, hb1⟩; obtain ⟨A1, c1, rfl, hr1⟩ := ho1.open_; have s1 := op_on (op_s HV.out.1 HV.out.2) hb1)
      | fail)
  all_goals
    obtain ⟨A6, c6, rfl, -⟩ := ho6.open_
    have HB6 := Lib.hid (((s5.2.2.2.2.alloc s5.2.2.2.2.size _)).trans (hb6.mono (by have := s5.2.2.2.2.size; simp; omega)))
    have HO6 := Lib.hid (ho6.less (base' := w.heap.size) (by have := s5.2.2.2.2.size; simp; omega))
    clear ho6 hb6
    go_wp2
    go_ret
    rw [← HE.out]
    exact ⟨_, rfl, HO6.out, HB6.out⟩
end Go.Proofs.YtjdkpcibdjhdoaaDoor

namespace Go.Proofs.YtjdkpcibdjhdoaaDoor.M
set_option linter.unusedVariables false
/-- a change -/
structure X where
  kind : UInt8
  term : Nat
  same : Nat
  more : List O
def recB (x : X) : List UInt8 := x.kind :: uv x.term ++ (if x.kind = 210 then uv x.same ++ (x.more.map opB).flatten else [])
end Go.Proofs.YtjdkpcibdjhdoaaDoor.M
namespace Go.Proofs.YtjdkpcibdjhdoaaDoor
open Go.RowKit Mem
set_option linter.unusedVariables false
set_option maxRecDepth 100000

/-- entries of a history, one behind the other -/
def RdOps (w : World) (B : Nat) (A : Option Addr) (n c : Nat) (os : List M.O) : Prop :=
  n = os.length ∧ n ≤ c ∧ c ≤ 9223372036854775807 ∧ (0 < n → ∃ b off, A = some ⟨b, off, none⟩ ∧ b < B ∧ ∀ i (hi : i < os.length), w.cell? ⟨b, off + i * 4, none⟩ = some (.int .u64 (os[i].term : Int)) ∧ w.cell? ⟨b, off + i * 4 + 1, none⟩ = some (.string ⟨os[i].doc.id.toArray⟩) ∧
    w.cell? ⟨b, off + i * 4 + 2, none⟩ = some (.int .i64 os[i].doc.time) ∧ w.cell? ⟨b, off + i * 4 + 3, none⟩ = some (.string ⟨os[i].doc.text.toArray⟩))
section
variable {w w' : World} {B B' n c : Nat} {A : Option Addr} {os : List M.O}
theorem RdOps.below (h : RdOps w B A n c os) (hb : Below B w w') : RdOps w' B A n c os := ⟨h.1, h.2.1, h.2.2.1, fun hn => by
  obtain ⟨b, off, e, hb1, hc⟩ := h.2.2.2 hn
  exact ⟨b, off, e, hb1, fun i hi => ⟨(hb.cell (p := ⟨b, off + i * 4, none⟩) hb1).trans (hc i hi).1, (hb.cell (p := ⟨b, off + i * 4 + 1, none⟩) hb1).trans (hc i hi).2.1, (hb.cell (p := ⟨b, off + i * 4 + 2, none⟩) hb1).trans (hc i hi).2.2.1, (hb.cell (p := ⟨b, off + i * 4 + 3, none⟩) hb1).trans (hc i hi).2.2.2⟩⟩⟩
theorem RdOps.more (h : RdOps w B A n c os) (hB : B ≤ B') : RdOps w B' A n c os := ⟨h.1, h.2.1, h.2.2.1, fun hn => by
  obtain ⟨b, off, e, hb, hc⟩ := h.2.2.2 hn
  exact ⟨b, off, e, by omega, hc⟩⟩
theorem RdOps.on (h : RdOps w w.heap.size A n c os) (hb : Below w.heap.size w w') : RdOps w' w'.heap.size A n c os := (h.below hb).more hb.size
theorem RdOps.at_ {i : Nat} (h : RdOps w B A n c os) (hi : i < os.length) : ∃ b off, A = some ⟨b, off, none⟩ ∧ b < B ∧ w.cell? ⟨b, off + i * 4, none⟩ = some (.int .u64 (os[i].term : Int)) ∧ w.cell? ⟨b, off + i * 4 + 1, none⟩ = some (.string ⟨os[i].doc.id.toArray⟩) ∧
    w.cell? ⟨b, off + i * 4 + 2, none⟩ = some (.int .i64 os[i].doc.time) ∧ w.cell? ⟨b, off + i * 4 + 3, none⟩ = some (.string ⟨os[i].doc.text.toArray⟩) := by
  obtain ⟨b, off, e, hb, hc⟩ := h.2.2.2 (by have := h.1; omega)
  exact ⟨b, off, e, hb, hc i hi⟩
theorem RdOps.none_ : RdOps w B none 0 0 [] := ⟨rfl, Nat.le_refl _, Nat.zero_le _, fun h => absurd h (by omega)⟩
end
def xval (x : M.X) (A : Option Addr) (n c : Nat) : Value := .agg #[.int .u8 (x.kind.toNat : Int), .int .u64 (x.term : Int), .int .u64 (x.same : Int), .slice A n c]
/-- new bytes, as a step's law wants it -/
def GivAt (l : List UInt8) (W : World) (v : Value) (w' : World) : Prop := Own w' W.heap.size 5 v l ∧ Below W.heap.size W w'
theorem uv_at (v : Nat) (w : World) (hv : v < 18446744073709551616) : Calls Tryd.prog 46 #[.int .u64 (v : Int)] w (fun e w' => ∃ x, e = .returned x ∧ GivAt (M.uv v) w x w') := uvarint_any v w hv
theorem uv_pos (v : Nat) : 0 < (M.uv v).length := by
  unfold M.uv M.uvF
  split <;> simp
/-- bytes in a row of their own, at a place -/
theorem own_at {w : World} {base : Nat} {v : Value} {l : List UInt8} (h : Own w base 5 v l) (hl : 0 < l.length) : ∃ g c, v = .slice (some ⟨g, 0, none⟩) l.length c ∧ ∀ j u, (bcells l)[j]? = some u → w.cell? ((⟨g, 0, none⟩ : Addr).add j) = some u := by
  obtain ⟨g, c, rfl, -⟩ := h.form hl
  obtain ⟨A, c', hv, hr⟩ := h.open_
  injection hv with e1 e2 e3
  subst e1
  exact ⟨g, c, rfl, fun j u hu => hr.cells.2 _ rfl (by omega) j u hu⟩
theorem step_call' {P : Program} {ops : Array Oper} {o : Oper} {a : Act} {w : World} {K : Act → World → Prop} {Q : Exit → Act → World → Prop} {E : Prop} (hgd : o.guard = none) (f : FuncId) (args : Array Value) (hrun : (execOp a.eval o).run P w = .ok (.enter f args) w)
    (S : Value → World → Prop) (hc : Calls P f args w (fun e w' => ∃ x, e = .returned x ∧ S x w')) (h : ∀ x w', S x w' → K (a.put o.dst x) w') :
    if Region.wanted o (yielded ops a.tmps) = true then Oper.wp P o a w K Q else E := step_call hgd f args hrun (fun x => x) S hc h

theorem below_d {w w' : World} (h : Below w.drew.heap.size w.drew w') : Below w.heap.size w w' := ⟨h.os, h.tape, h.output, h.size, h.block⟩
theorem below_da {w w' : World} {o : Obj} (h : Below (w.alloc o).drew.heap.size (w.alloc o).drew w') : Below w.heap.size w w' := ((Below.refl _ w).alloc (Nat.le_refl _) o).trans ((below_d h).mono (by simp))
theorem own_one (w : World) (base : Nat) (k : UInt8) (K : Int) (hk : (k.toNat : Int) = K) (hb : base ≤ w.heap.size) : Own (w.alloc (.cells #[.int .u8 K] 5)) base 5 (.slice (some ⟨w.heap.size, 0, none⟩) 1 1) [k] := by
  subst hk
  exact Own.fresh w base 5 #[.int .u8 (k.toNat : Int)] [k] (by simp [bcells, bcell]) hb (by simp)
theorem row_one {w : World} {base g : Nat} {k : UInt8} {K : Int} (h : Own w base 5 (.slice (some ⟨g, 0, none⟩) 1 1) [k]) (hk : (k.toNat : Int) = K) : w.ownsRow base 5 1 (.slice (some ⟨g, 0, none⟩) 1 1) 1 [.int .u8 K] := by
  subst hk
  unfold Own at h
  simpa [bcells, bcell] using h
/-- a byte, and bytes behind it -/
theorem head_own {w3 : World} {base g c n : Nat} {k : UInt8} {K : Int} {l : List UInt8} (hk : (k.toNat : Int) = K) (hn : 1 + l.length = n) (h : w3.ownsRow base 5 1 (.slice (some ⟨g, 0, none⟩) n c) n ([.int .u8 K] ++ bcells l)) : Own w3 base 5 (.slice (some ⟨g, 0, none⟩) n c) ([k] ++ l) := by
  have e : ([k] ++ l).length = n := by rw [List.length_append]; exact hn
  subst hk
  unfold Own
  rw [bcells_app, e]
  exact h

set_option maxHeartbeats 4000000 in
theorem record_head (x : M.X) (w : World) (hk : ¬ x.kind = 210) (ht : x.term < 18446744073709551616) (A : Option Addr) (n c : Nat) :
    Calls Tryd.prog 65 #[xval x A n c] w (GivesP w (M.recB x)) := by
  have HR := Lib.hid (show M.recB x = [x.kind] ++ M.uv x.term by unfold M.recB; rw [if_neg hk]; simp)
  obtain ⟨i0, hi0, hz0, hz1, hz2⟩ := info_parts Tryd.info_byte
  have HI := Lib.hid hi0; have HZ0 := Lib.hid hz0; have HZ1 := Lib.hid hz1; have HZ2 := Lib.hid hz2
  clear hi0 hz0 hz1 hz2
  have HU := Lib.hid (fun W => uv_at x.term W ht)
  have HL := Lib.hid (show (M.uv x.term).length ≤ 10 by have := M.uv_len x.term; omega)
  have HP := Lib.hid (uv_pos x.term)
  obtain ⟨kind, term, same, more⟩ := x
  unfold xval
  simp only at HR HU HL HP hk ⊢
  have hk2 : ¬ kind.toNat = 210 := fun e => hk (by rw [← UInt8.toNat_inj]; exact e)
  obtain ⟨kn, hkn⟩ : ∃ kn, kind.toNat = kn := ⟨_, rfl⟩
  have hk3 : ((kn : Int) != 210) = true := by rw [hkn] at hk2; simp; omega
  have HKN := Lib.hid (show (kind.toNat : Int) = (kn : Int) by rw [hkn])
  rw [hkn]
  obtain ⟨w1, hw1⟩ : ∃ w1, w1 = w.alloc (.cells #[.int .u8 (kn : Int), .int .u64 (term : Int), .int .u64 (same : Int), .slice A n c] 92) := ⟨_, rfl⟩
  have hx : w1.heap[w.heap.size]? = some (.cells #[.int .u8 (kn : Int), .int .u64 (term : Int), .int .u64 (same : Int), .slice A n c] 92 (0, 0)) := by rw [hw1]; exact heap_alloc_new w _
  have HB1 := Lib.hid (show Below w.heap.size w w1 by rw [hw1]; exact (Below.refl _ _).alloc (Nat.le_refl _) _)
  have HX := Lib.hid hx
  have x0 : w1.cell? ⟨w.heap.size, 0, none⟩ = some (.int .u8 (kn : Int)) := cellAt 0 hx
  have x1 : w1.cell? ⟨w.heap.size, 1, none⟩ = some (.int .u64 (term : Int)) := cellAt 1 hx
  have xd0 : w1.drew.cell? ⟨w.heap.size, 0, none⟩ = some (.int .u8 (kn : Int)) := x0
  have xd1 : w1.drew.cell? ⟨w.heap.size, 1, none⟩ = some (.int .u64 (term : Int)) := x1
  have hs1 : w1.heap.size = w.heap.size + 1 := by rw [hw1]; simp
  have HS1 := Lib.hid hs1
  have hlt : w.heap.size < w1.heap.size := by omega
  generalize M.uv term = uvt at *
  clear hk hk2 hkn hx hs1
  go_enter Tryd.func65, Tryd.ntmps65
  go_wp2_with fail
  rw [← hw1]
  clear hw1
  go_region_law (first
    | (refine step_call' (by rfl) 46 #[.int .u64 (term : Int)] (by simp [Act.eval, go_sem]) (GivAt uvt _) (HU.out _) ?_; rintro v2 w2 ⟨ho2, hb2⟩
       obtain ⟨g2, c2, hv2, hat2⟩ := own_at ho2 HP.out
       subst hv2
       have hbx : Below w1.heap.size w1 w2 := by first | exact below_d hb2 | exact below_da hb2
       have hx2 : w2.heap[w.heap.size]? = some (.cells #[.int .u8 (kn : Int), .int .u64 (term : Int), .int .u64 (same : Int), .slice A n c] 92 (0, 0)) := (hbx.block _ hlt).trans HX.out
       have y0 : w2.cell? ⟨w.heap.size, 0, none⟩ = some (.int .u8 (kn : Int)) := cellAt 0 hx2
       have hs2 : w1.heap.size ≤ w2.heap.size := hbx.size
       have HBX := Lib.hid hbx; have HX2 := Lib.hid hx2; have HB2 := Lib.hid hb2; have HAT2 := Lib.hid hat2
       clear hbx hx2 hb2 ho2 hat2)
    | (refine step_append_lies _ (by rfl) _ _ _ (by rfl) w.heap.size 5 i0 _ 1 1 Tryd.underlying27 HI.out HZ0.out HZ1.out HZ2.out rfl (by omega) (.slice (some ⟨w1.heap.size, 0, none⟩) 1 1) 1 [.int .u8 (kn : Int)] (by rfl)
         (row_one ((own_one w1 w.heap.size kind (kn : Int) HKN.out HB1.out.size).below (below_d HB2.out)) HKN.out) ⟨g2, 0, none⟩ uvt.length c2 (bcells uvt) (by rfl) (by rw [bcells_len]; omega) HAT2.out (bcells_one _) HP.out (by have := HL.out; simp only [maxLen]; omega) (by have := HL.out; omega) (by have := HS1.out; omega) w2.heap.size rfl ?_; intro g3 c3 w3 hown3 hgrow3 hat3 hlt3
       have ho3 : Own w3 w.heap.size 5 (.slice (some ⟨g3, 0, none⟩) (1 + uvt.length) c3) ([kind] ++ uvt) := head_own HKN.out rfl hown3
       have HO3 := Lib.hid ho3
       have HB3 := Lib.hid ((HB1.out.trans (HBX.out.mono HB1.out.size)).grown hgrow3 (by have := HB1.out.size; omega) (fun k hk => by simp [Value.ownBlock] at hk; have := HS1.out; omega))
       have hx3 : w3.heap[w.heap.size]? = _ := (hgrow3.block w.heap.size (by omega) (fun e => by simp [Value.ownBlock] at e; have := HS1.out; omega)).trans HX2.out
       have z0 : w3.cell? ⟨w.heap.size, 0, none⟩ = some (.int .u8 (kn : Int)) := cellAt 0 hx3
       clear hown3 hgrow3 hat3 hx3 ho3)
    | (refine step_append_lies _ (by rfl) _ _ _ (by rfl) w.heap.size 5 i0 _ 1 1 Tryd.underlying27 HI.out HZ0.out HZ1.out HZ2.out rfl (by omega) (.slice (some ⟨w2.heap.size, 0, none⟩) 1 1) 1 [.int .u8 (kn : Int)] (by rfl)
         (row_one (own_one w2 w.heap.size kind (kn : Int) HKN.out (by have := HB1.out.size; omega)) HKN.out) ⟨g2, 0, none⟩ uvt.length c2 (bcells uvt) (by rfl) (by rw [bcells_len]; omega) (fun j u hu => cell_on ((Below.refl _ w2).alloc (Nat.le_refl _) _) (HAT2.out j u hu)) (bcells_one _) HP.out (by have := HL.out; simp only [maxLen]; omega) (by have := HL.out; omega) (by have := HS1.out; simp; omega) (w2.heap.size + 1) (by simp) ?_; intro g3 c3 w3 hown3 hgrow3 hat3 hlt3
       have ho3 : Own w3 w.heap.size 5 (.slice (some ⟨g3, 0, none⟩) (1 + uvt.length) c3) ([kind] ++ uvt) := head_own HKN.out rfl hown3
       have HO3 := Lib.hid ho3
       have HB3 := Lib.hid (((HB1.out.trans (HBX.out.mono HB1.out.size)).alloc (by have := HB1.out.size; omega) _).grown hgrow3 (by have := HB1.out.size; simp; omega) (fun k hk => by simp [Value.ownBlock] at hk; have := HS1.out; omega))
       have hx3 : w3.heap[w.heap.size]? = _ := (hgrow3.block w.heap.size (by simp; omega) (fun e => by simp [Value.ownBlock] at e; have := HS1.out; omega)).trans (heapOld HX2.out)
       have z0 : w3.cell? ⟨w.heap.size, 0, none⟩ = some (.int .u8 (kn : Int)) := cellAt 0 hx3
       clear hown3 hgrow3 hat3 hx3 ho3)
    | fail)
  all_goals
    go_wp2
    go_ret
    rw [HR.out]
    exact ⟨_, rfl, HO3.out, HB3.out⟩
end Go.Proofs.YtjdkpcibdjhdoaaDoor

namespace Go.Proofs.YtjdkpcibdjhdoaaDoor
open Go.RowKit Mem
set_option linter.unusedVariables false
set_option maxRecDepth 100000

theorem map_flat_next (f : M.O → List UInt8) (l : List M.O) (i : Nat) (hi : i < l.length) : ((l.take (i + 1)).map f).flatten = ((l.take i).map f).flatten ++ f l[i] := by
  rw [List.take_succ_eq_append_getElem hi, List.map_append, List.flatten_append]
  simp
theorem map_flat_le (f : M.O → List UInt8) (l : List M.O) (i : Nat) : (((l.take i).map f).flatten).length ≤ ((l.map f).flatten).length := by
  have e : (l.map f).flatten = ((l.take i).map f).flatten ++ ((l.drop i).map f).flatten := by rw [← List.flatten_append, ← List.map_append, List.take_append_drop]
  rw [e, List.length_append]; omega

set_option maxHeartbeats 4000000 in
theorem record_adopt (x : M.X) (w : World) (hk : x.kind = 210) (ht : x.term < 18446744073709551616) (hsm : x.same < 18446744073709551616) (A : Option Addr) (n c : Nat) (hm : RdOps w w.heap.size A n c x.more) (hok : ∀ o ∈ x.more, o.Ok) (hlen : (M.recB x).length ≤ 1000000) :
    Calls Tryd.prog 65 #[xval x A n c] w (GivesP w (M.recB x)) := by
  have HR := Lib.hid (show M.recB x = [x.kind] ++ M.uv x.term ++ M.uv x.same ++ (x.more.map M.opB).flatten by unfold M.recB; rw [if_pos hk]; simp)
  obtain ⟨i0, hi0, hz0, hz1, hz2⟩ := info_parts Tryd.info_byte
  have HI := Lib.hid hi0; have HZ0 := Lib.hid hz0; have HZ1 := Lib.hid hz1; have HZ2 := Lib.hid hz2
  clear hi0 hz0 hz1 hz2
  have HU := Lib.hid (fun W => uv_at x.term W ht)
  have HU2 := Lib.hid (fun W => uvarint_any x.same W hsm)
  have HM := Lib.hid hm; have HN := Lib.hid hm.1; have HOK := Lib.hid hok; have HLN := Lib.hid hlen
  have hc := hm.2.1; have hcm := hm.2.2.1
  have HOP := Lib.hid (fun (o : M.O) (ho : o ∈ x.more) W => opBytes_any o W (hok o ho))
  clear hm hok hlen
  have HL := Lib.hid (show (M.uv x.term).length ≤ 10 by have := M.uv_len x.term; omega)
  have HP := Lib.hid (uv_pos x.term)
  obtain ⟨kind, term, same, more⟩ := x
  unfold xval
  simp only at HR HU HL HP hk HU2 HM HN HOK HLN HOP ⊢
  subst hk
  obtain ⟨kind, hkd⟩ : ∃ kind : UInt8, kind = 210 := ⟨_, rfl⟩
  have HKN := Lib.hid (show (kind.toNat : Int) = 210 by rw [hkd]; rfl)
  rw [← hkd] at HR HLN ⊢
  show Calls _ _ #[.agg #[.int .u8 (kind.toNat : Int), .int .u64 (term : Int), .int .u64 (same : Int), .slice A n c]] w _
  rw [HKN.out]
  obtain ⟨w1, hw1⟩ : ∃ w1, w1 = w.alloc (.cells #[.int .u8 (210 : Int), .int .u64 (term : Int), .int .u64 (same : Int), .slice A n c] 92) := ⟨_, rfl⟩
  have hx : w1.heap[w.heap.size]? = some (.cells #[.int .u8 (210 : Int), .int .u64 (term : Int), .int .u64 (same : Int), .slice A n c] 92 (0, 0)) := by rw [hw1]; exact heap_alloc_new w _
  have HB1 := Lib.hid (show Below w.heap.size w w1 by rw [hw1]; exact (Below.refl _ _).alloc (Nat.le_refl _) _)
  have HX := Lib.hid hx
  have x0 : w1.cell? ⟨w.heap.size, 0, none⟩ = some (.int .u8 (210 : Int)) := cellAt 0 hx
  have x1 : w1.cell? ⟨w.heap.size, 1, none⟩ = some (.int .u64 (term : Int)) := cellAt 1 hx
  have xd0 : w1.drew.cell? ⟨w.heap.size, 0, none⟩ = some (.int .u8 (210 : Int)) := x0
  have xd1 : w1.drew.cell? ⟨w.heap.size, 1, none⟩ = some (.int .u64 (term : Int)) := x1
  have hs1 : w1.heap.size = w.heap.size + 1 := by rw [hw1]; simp
  have HS1 := Lib.hid hs1
  have hlt : w.heap.size < w1.heap.size := by omega
  generalize M.uv term = uvt at *
  have HU2L := Lib.hid (show (M.uv same).length ≤ 10 by have := M.uv_len same; omega)
  generalize M.uv same = uvs at *
  have HFN := Lib.hid (fun (i : Nat) (hi : i < more.length) => map_flat_next M.opB more i hi)
  have HFL := Lib.hid (fun (i : Nat) => map_flat_le M.opB more i)
  clear hkd hx hs1
  go_enter Tryd.func65, Tryd.ntmps65
  go_wp2_with fail
  rw [← hw1]
  clear hw1
  go_region_law (first
    | (refine step_call' (by rfl) 46 #[.int .u64 (term : Int)] (by simp [Act.eval, go_sem]) (GivAt uvt _) (HU.out _) ?_; rintro v2 w2 ⟨ho2, hb2⟩
       obtain ⟨g2, c2, hv2, hat2⟩ := own_at ho2 HP.out
       subst hv2
       have hbx : Below w1.heap.size w1 w2 := by first | exact below_d hb2 | exact below_da hb2
       have hx2 : w2.heap[w.heap.size]? = some (.cells #[.int .u8 (210 : Int), .int .u64 (term : Int), .int .u64 (same : Int), .slice A n c] 92 (0, 0)) := (hbx.block _ hlt).trans HX.out
       have y0 : w2.cell? ⟨w.heap.size, 0, none⟩ = some (.int .u8 (210 : Int)) := cellAt 0 hx2
       have hs2 : w1.heap.size ≤ w2.heap.size := hbx.size
       have HBX := Lib.hid hbx; have HX2 := Lib.hid hx2; have HB2 := Lib.hid hb2; have HAT2 := Lib.hid hat2
       clear hbx hx2 hb2 ho2 hat2)
    | (refine step_append_lies _ (by rfl) _ _ _ (by rfl) w.heap.size 5 i0 _ 1 1 Tryd.underlying27 HI.out HZ0.out HZ1.out HZ2.out rfl (by omega) (.slice (some ⟨w1.heap.size, 0, none⟩) 1 1) 1 [.int .u8 (210 : Int)] (by rfl)
         (row_one ((own_one w1 w.heap.size kind 210 HKN.out HB1.out.size).below (below_d HB2.out)) HKN.out) ⟨g2, 0, none⟩ uvt.length c2 (bcells uvt) (by rfl) (by rw [bcells_len]; omega) HAT2.out (bcells_one _) HP.out (by have := HL.out; simp only [maxLen]; omega) (by have := HL.out; omega) (by have := HS1.out; omega) w2.heap.size rfl ?_; intro g3 c3 w3 hown3 hgrow3 hat3 hlt3
       have ho3 : Own w3 w.heap.size 5 (.slice (some ⟨g3, 0, none⟩) (1 + uvt.length) c3) ([kind] ++ uvt) := head_own HKN.out rfl hown3
       have HO3 := Lib.hid ho3
       have HB3 := Lib.hid ((HB1.out.trans (HBX.out.mono HB1.out.size)).grown hgrow3 (by have := HB1.out.size; omega) (fun k hk => by simp [Value.ownBlock] at hk; have := HS1.out; omega))
       have hx3 : w3.heap[w.heap.size]? = _ := (hgrow3.block w.heap.size (by omega) (fun e => by simp [Value.ownBlock] at e; have := HS1.out; omega)).trans HX2.out
       have z0 : w3.cell? ⟨w.heap.size, 0, none⟩ = some (.int .u8 (210 : Int)) := cellAt 0 hx3
       have z2 : w3.cell? ⟨w.heap.size, 2, none⟩ = some (.int .u64 (same : Int)) := cellAt 2 hx3
       have HX3 := Lib.hid hx3
       clear hown3 hgrow3 hat3 hx3 ho3)
    | (refine step_append_lies _ (by rfl) _ _ _ (by rfl) w.heap.size 5 i0 _ 1 1 Tryd.underlying27 HI.out HZ0.out HZ1.out HZ2.out rfl (by omega) (.slice (some ⟨w2.heap.size, 0, none⟩) 1 1) 1 [.int .u8 (210 : Int)] (by rfl)
         (row_one (own_one w2 w.heap.size kind 210 HKN.out (by have := HB1.out.size; omega)) HKN.out) ⟨g2, 0, none⟩ uvt.length c2 (bcells uvt) (by rfl) (by rw [bcells_len]; omega) (fun j u hu => cell_on ((Below.refl _ w2).alloc (Nat.le_refl _) _) (HAT2.out j u hu)) (bcells_one _) HP.out (by have := HL.out; simp only [maxLen]; omega) (by have := HL.out; omega) (by have := HS1.out; simp; omega) (w2.heap.size + 1) (by simp) ?_; intro g3 c3 w3 hown3 hgrow3 hat3 hlt3
       have ho3 : Own w3 w.heap.size 5 (.slice (some ⟨g3, 0, none⟩) (1 + uvt.length) c3) ([kind] ++ uvt) := head_own HKN.out rfl hown3
       have HO3 := Lib.hid ho3
       have HB3 := Lib.hid (((HB1.out.trans (HBX.out.mono HB1.out.size)).alloc (by have := HB1.out.size; omega) _).grown hgrow3 (by have := HB1.out.size; simp; omega) (fun k hk => by simp [Value.ownBlock] at hk; have := HS1.out; omega))
       have hx3 : w3.heap[w.heap.size]? = _ := (hgrow3.block w.heap.size (by simp; omega) (fun e => by simp [Value.ownBlock] at e; have := HS1.out; omega)).trans (heapOld HX2.out)
       have z0 : w3.cell? ⟨w.heap.size, 0, none⟩ = some (.int .u8 (210 : Int)) := cellAt 0 hx3
       have z2 : w3.cell? ⟨w.heap.size, 2, none⟩ = some (.int .u64 (same : Int)) := cellAt 2 hx3
       have HX3 := Lib.hid hx3
       clear hown3 hgrow3 hat3 hx3 ho3)
    | fail)
  all_goals
    have hsz3 := HB3.out.size
    go_wp2_with fail
    refine (HU2.out _).mono ?_
    rintro e w4 ⟨v4, rfl, ho4, hb4⟩
    obtain ⟨A4, c4, rfl, hr4⟩ := ho4.open_
    have HO34 := Lib.hid (HO3.out.below hb4)
    have HR4 := Lib.hid hr4
    have HB4 := Lib.hid (HB3.out.trans (hb4.mono hsz3))
    have HX4 := Lib.hid ((hb4.block w.heap.size (heapLt HX3.out)).trans HX3.out)
    have hsz4 := HB4.out.size
    have hl10 := HL.out; have hl11 := HU2L.out
    clear ho4 hb4 hr4
    go_wp2_with (at_builtin; go_must (refine wpList_app _ rfl (.tmp 17) (.tmp 20) _ rfl w.heap.size w4.heap.size _ i0 Tryd.underlying27 HI.out HZ0.out HZ1.out HZ2.out (.slice (some ⟨g3, 0, none⟩) (1 + uvt.length) c3) ([kind] ++ uvt) HO34.out rfl A4 uvs.length c4 uvs HR4.out rfl ?_ hsz4 ?_))
    · simp; omega
    intro v5 w5 hO5 hg5 hat5
    obtain ⟨n5, A5, c5, hv5⟩ : ∃ n5 A5 c5, v5 = .slice A5 n5 c5 := by obtain ⟨A5, c5, e, -⟩ := hO5.open_; exact ⟨_, _, _, e⟩
    have HB5 := Lib.hid (HB4.out.trans (below_own HO34.out hsz4 hg5))
    have hx5 : w5.heap[w.heap.size]? = some (.cells #[.int .u8 (210 : Int), .int .u64 (term : Int), .int .u64 (same : Int), .slice A n c] 92 (0, 0)) := by
      have h1 := below_own HO34.out hsz4 hg5
      refine (hg5.block w.heap.size (heapLt HX4.out) (fun e => ?_)).trans HX4.out
      obtain ⟨cur, hh⟩ : ∃ cur, w4.heap[w.heap.size]? = some (.cells cur 5 (0, 0)) := by
        rcases HO34.out.2 with ⟨e2, _⟩ | ⟨g, cap, cur, e2, _, hh, _⟩
        · cases e2
        · injection e2 with e3; injection e3 with e4; injection e4 with e5
          simp [Value.ownBlock] at e
          exact ⟨cur, by rw [e, e5]; exact hh⟩
      rw [HX4.out] at hh
      simp at hh
    have q3 : w5.cell? ⟨w.heap.size, 3, none⟩ = some (.slice A n c) := cellAt 3 hx5
    have HO5 := Lib.hid (show Own w5 w.heap.size 5 v5 ([kind] ++ uvt ++ uvs ++ ((more.take 0).map M.opB).flatten) by simpa using hO5)
    subst hv5
    clear hO5 hg5 hat5 z0 z2
    go_wp2
    go_loopw [3, 25] (fun o p wr => ∃ (k n7 c7 : Nat) (A7 : Option Addr), p = .int .i64 k ∧ o = .slice A7 n7 c7 ∧ k ≤ n ∧ Hid (Own wr w.heap.size 5 (.slice A7 n7 c7) ([kind] ++ uvt ++ uvs ++ ((more.take k).map M.opB).flatten)) ∧ Hid (Below w.heap.size w wr)) (fun _ p _ => n - (intOf p).toNat)
    case atStart => exact ⟨0, _, c5, A5, rfl, rfl, Nat.zero_le _, HO5, HB5⟩
    case round =>
      obtain ⟨k, n7, c7, A7, rfl, rfl, hk, HO, HB⟩ := hrel
      rename World => wr
      by_cases hlt : k < n
      · have hkx : k < more.length := by have := HN.out; omega
        have hki : (k : Int) < (n : Int) := by omega
        obtain ⟨b, off, rfl, hb, q0, q1, q2, q3'⟩ := HM.out.at_ hkx
        have p0 := (HB.out.cell (p := ⟨b, off + k * 4, none⟩) hb).trans q0
        have p1 := (HB.out.cell (p := ⟨b, off + k * 4 + 1, none⟩) hb).trans q1
        have p2 := (HB.out.cell (p := ⟨b, off + k * 4 + 2, none⟩) hb).trans q2
        have p3 := (HB.out.cell (p := ⟨b, off + k * 4 + 3, none⟩) hb).trans q3'
        have HPO := Lib.hid (fun W => HOP.out more[k] (List.getElem_mem hkx) W)
        have HNX := Lib.hid (HFN.out k hkx)
        have hrm : ([kind] ++ uvt ++ uvs ++ ((more.take k).map M.opB).flatten).length + (M.opB more[k]).length ≤ 1000000 := by
          have h1 := HFL.out (k + 1)
          rw [HNX.out, List.length_append] at h1
          have h2 := HLN.out
          rw [HR.out] at h2
          simp only [List.length_append] at h2 ⊢
          omega
        have HRM := Lib.hid hrm
        clear q0 q1 q2 q3' hrm
        generalize more[k] = o at *
        obtain ⟨ot, ⟨did, dtm, dtx⟩⟩ := o
        unfold oval at HPO
        simp only at HPO p0 p1 p2 p3
        obtain ⟨wx, hwx⟩ : ∃ wx, wx = wr.alloc (.cells #[.int .u64 (ot : Int), .string ⟨did.toArray⟩, .int .i64 dtm, .string ⟨dtx.toArray⟩] 26) := ⟨_, rfl⟩
        have HBX := Lib.hid (show Below wr.heap.size wr wx by rw [hwx]; exact (Below.refl _ _).alloc (Nat.le_refl _) _)
        have hxx : (wr.alloc (.cells #[.int .u64 (ot : Int), .string ⟨did.toArray⟩, .int .i64 dtm, .string ⟨dtx.toArray⟩] 26)).heap[wr.heap.size]? = some (.cells #[.int .u64 (ot : Int), .string ⟨did.toArray⟩, .int .i64 dtm, .string ⟨dtx.toArray⟩] 26 (0, 0)) := heap_alloc_new wr _
        have y0 := cellAt 0 hxx; have y1 := cellAt 1 hxx; have y2 := cellAt 2 hxx; have y3 := cellAt 3 hxx
        have hsr := HB.out.size
        clear hxx
        go_wp2_with fail
        rw [← hwx]
        refine (HPO.out _).mono ?_
        rintro e w8 ⟨v8, rfl, ho8, hb8⟩
        obtain ⟨A8, c8, rfl, hr8⟩ := ho8.open_
        have HO8 := Lib.hid ((HO.out.below HBX.out).below hb8)
        have HR8 := Lib.hid hr8
        have HB8 := Lib.hid ((HB.out.trans (HBX.out.mono hsr)).trans (hb8.mono (by have := HBX.out.size; omega)))
        have hs8 := HB8.out.size
        clear ho8 hb8 hr8 y0 y1 y2 y3
        go_wp2_with (at_builtin; go_must (refine wpList_app _ rfl (.tmp 29) (.tmp 31) _ rfl w.heap.size w8.heap.size _ i0 Tryd.underlying27 HI.out HZ0.out HZ1.out HZ2.out (.slice A7 n7 c7) _ HO8.out rfl A8 _ c8 _ HR8.out rfl ?_ hs8 ?_))
        · have := HRM.out; omega
        intro v9 w9 hO9 hg9 hat9
        obtain ⟨n9, A9, c9, hv9⟩ : ∃ n9 A9 c9, v9 = .slice A9 n9 c9 := by obtain ⟨A9, c9, e, -⟩ := hO9.open_; exact ⟨_, _, _, e⟩
        have HB9 := Lib.hid (HB8.out.trans (below_own HO8.out hs8 hg9))
        have HO9 := Lib.hid (show Own w9 w.heap.size 5 v9 ([kind] ++ uvt ++ uvs ++ ((more.take (k + 1)).map M.opB).flatten) by
          rw [HNX.out, ← List.append_assoc]; simpa using hO9)
        subst hv9
        clear hO9 hg9 hat9
        go_wp2
        go_roundw
        case rel => exact ⟨k + 1, n9, c9, A9, by go_num, rfl, by omega, HO9, HB9⟩
        case measure => simp [intOf]; omega
      · have HE := Lib.hid (show more.take k = more by rw [List.take_of_length_le (by have := HN.out; omega)])
        go_wp2
        go_ret
        have := HO.out
        rw [HE.out] at this
        rw [HR.out]
        exact ⟨_, rfl, this, HB.out⟩
end Go.Proofs.YtjdkpcibdjhdoaaDoor

namespace Go.Proofs.YtjdkpcibdjhdoaaDoor.M
/-- what a copy must not forget -/
structure K where
  h : Nat
  s : Nat
  a : Nat
  ops : List O
end Go.Proofs.YtjdkpcibdjhdoaaDoor.M
namespace Go.Proofs.YtjdkpcibdjhdoaaDoor
open Go.RowKit Mem FM
set_option linter.unusedVariables false
set_option maxRecDepth 100000

def ocell (o : M.O) : List Value := [.int .u64 (o.term : Int), .string ⟨o.doc.id.toArray⟩, .int .i64 o.doc.time, .string ⟨o.doc.text.toArray⟩]
def ocells (os : List M.O) : List Value := os.flatMap ocell
def kcells (k : M.K) (vo : Value) (G laid : Nat) (torn : Bool) : Array Value := #[.int .u64 (k.h : Int), .int .u64 (k.s : Int), .int .u64 (k.a : Int), vo, .pointer (some ⟨G, 0, none⟩), .int .i64 (laid : Int), .bool torn]
def CpF (F FL : Nat → Prop) (rs : List Rec) (vo : Value) (w : World) (D G C : Nat) (s : St) (nm : ByteArray) (k : M.K) (laid : Nat) (torn : Bool) (wr : World) : Prop :=
  DiskAt wr F D s ∧ LogAt wr FL G D nm rs ∧ (∀ j, FL j → ¬ F j) ∧ (∀ j, F j → w.heap.size ≤ j) ∧ (∀ j, FL j → w.heap.size ≤ j) ∧ Below w.heap.size w wr ∧
  wr.heap[C]? = some (.cells (kcells k vo G laid torn) 84 (0, 0)) ∧ w.heap.size ≤ C ∧ ¬ F C ∧ ¬ FL C ∧ wr.ownsRow w.heap.size 26 4 vo k.ops.length (ocells k.ops) ∧ ∀ j, vo.ownBlock = some j → ¬ F j ∧ ¬ FL j ∧ j ≠ C
def Cp (w : World) (D G C : Nat) (s : St) (nm : ByteArray) (ls : List (List UInt8)) (k : M.K) (laid : Nat) (torn : Bool) (wr : World) : Prop := ∃ F FL rs vo, recs rs = ls ∧ CpF F FL rs vo w D G C s nm k laid torn wr

section
variable {w wr w' : World} {F FL : Nat → Prop} {rs : List Rec} {vo : Value} {D G C laid : Nat} {s : St} {nm : ByteArray} {k : M.K} {torn : Bool}
theorem CpF.turn (h : CpF F FL rs vo w D G C s nm k laid torn wr) {F' FL' : Nat → Prop} {rs' : List Rec} {s' : St} (hd : DiskAt w' F' D s') (hl : LogAt w' FL' G D nm rs') (hap : ∀ j, FL' j → ¬ F' j) (ht : Turned (fun j => F j ∨ FL j) wr w') (hs : Spread F F' wr) (hsl : Spread FL FL' wr) :
    CpF F' FL' rs' vo w D G C s' nm k laid torn w' := by
  obtain ⟨h1, h2, h3, h4, h5, h6, h7, h8, h9, h10, h11, h12⟩ := h
  have hw := h6.size
  have hC : C < wr.heap.size := heapLt h7
  refine ⟨hd, hl, hap, fun j hj => (hs j hj).elim (h4 j) (fun h => by omega), fun j hj => (hsl j hj).elim (h5 j) (fun h => by omega), h6.trans (ht.below hw (fun j hj => hj.elim (h4 j) (h5 j))), (ht.block C hC (fun h => h.elim h9 h10)).trans h7, h8,
    fun hf => (hs C hf).elim h9 (fun h => by omega), fun hf => (hsl C hf).elim h10 (fun h => by omega), row_turned h11 ht (fun j hj h => h.elim (h12 j hj).1 (h12 j hj).2.1), fun j hj => ⟨fun hf => ?_, fun hf => ?_, (h12 j hj).2.2⟩⟩
  · exact (hs j hf).elim (h12 j hj).1 (fun h => by have := (World.ownsRow.lt h11 j hj).2; omega)
  · exact (hsl j hf).elim (h12 j hj).2.1 (fun h => by have := (World.ownsRow.lt h11 j hj).2; omega)
theorem CpF.below (h : CpF F FL rs vo w D G C s nm k laid torn wr) (hb : Below wr.heap.size wr w') : CpF F FL rs vo w D G C s nm k laid torn w' :=
  h.turn (h.1.below hb) (h.2.1.below hb) h.2.2.1 (Turned.of_below hb) (Spread.refl _ _) (Spread.refl _ _)
/-- the copy's own cells have turned, and may be its history -/
theorem CpF.cells (h : CpF F FL rs vo w D G C s nm k laid torn wr) {k' : M.K} {vo' : Value} {laid' : Nat} {torn' : Bool} (ht : Turned (fun j => j = C ∨ vo.ownBlock = some j) wr w') (hc : w'.heap[C]? = some (.cells (kcells k' vo' G laid' torn') 84 (0, 0)))
    (hr : w'.ownsRow w.heap.size 26 4 vo' k'.ops.length (ocells k'.ops)) (hv : ∀ j, vo'.ownBlock = some j → vo.ownBlock = some j ∨ wr.heap.size ≤ j) : CpF F FL rs vo' w D G C s nm k' laid' torn' w' := by
  obtain ⟨h1, h2, h3, h4, h5, h6, h7, h8, h9, h10, h11, h12⟩ := h
  have hw := h6.size
  have hC : C < wr.heap.size := heapLt h7
  refine ⟨h1.far ht (fun j hj hx => hx.elim (fun e => h9 (e ▸ hj)) (fun e => (h12 j e).1 hj)), h2.turned ht (fun j hj hx => hx.elim (fun e => h10 (e ▸ hj)) (fun e => (h12 j e).2.1 hj)), h3, h4, h5, h6.trans (ht.below hw (fun j hj => hj.elim (fun e => by omega) (fun e => (World.ownsRow.lt h11 j e).1))), hc, h8, h9, h10, hr, fun j hj => ?_⟩
  rcases hv j hj with h | h
  · exact h12 j h
  · exact ⟨fun hf => by have := h1.foot hf; omega, fun hf => by have := h2.foot hf; omega, by omega⟩
end

set_option maxHeartbeats 2000000 in
theorem lay_ok (F FL : Nat → Prop) (rs : List Rec) (vo : Value) (w : World) (D G C : Nat) (s s1 s2 : St) (nm : ByteArray) (k : M.K) (laid : Nat) (A : Option Addr) (n c : Nat) (l : List UInt8) (wr : World)
    (h : CpF F FL rs vo w D G C s nm k laid false wr) (hf : Firm F wr A n c l) (hn : n ≤ 65535) (hnm : nm.size ≤ 100) (hops : s.ops + 1 < 1099511627776) (hops1 : s1.ops + 1 < 1099511627776) (hrs : rs.length ≤ 1000000) (e1 : lappR s nm l = (0, s1)) (e2 : lsyncR s1 nm (rs.length + 1) = (0, s2)) :
    Calls Tryd.prog 64 #[.pointer (some ⟨C, 0, none⟩), .slice A n c] wr (fun e w' => e = .returned (.int .i64 0) ∧ Turned (fun j => F j ∨ FL j) wr w' ∧ ∃ F' FL' rs', recs rs' = recs rs ++ [l] ∧ CpF F' FL' rs' vo w D G C s2 nm k laid false w' ∧ Spread F F' wr ∧ Spread FL FL' wr) := by
  have hap := lappend_any D G 0 F FL s nm rs A n c l wr h.1 h.2.1 h.2.2.1 hnm hops hf hn (by omega)
  rw [e1, show lappLs (recs rs) ((0 : Int), s1).1 l = recs rs ++ [l] from if_pos rfl] at hap
  have HAP := Lib.hid hap
  have H := Lib.hid h
  have hcc := h.2.2.2.2.2.2.1
  unfold kcells at hcc
  have c4 : wr.cell? ⟨C, 4, none⟩ = some (.pointer (some ⟨G, 0, none⟩)) := cellAt 4 hcc
  have c6 : wr.cell? ⟨C, 6, none⟩ = some (.bool false) := cellAt 6 hcc
  have HE2 := Lib.hid e2
  clear hap h hcc e1 e2 hf
  go_enter Tryd.func64, Tryd.ntmps64
  go_wp2_with fail
  refine HAP.out.mono ?_
  rintro e w1 ⟨rfl, F1, FL1, rs1, b1, b2, b3, b4, b5, b6, b7⟩
  have h1 := H.out.turn b1 b2 b4 b5 b6 b7
  have H1 := Lib.hid h1
  have hrl : rs1.length = rs.length + 1 := by have e := congrArg List.length b3; simpa [recs] using e
  have hsy := lsync_any D G F1 FL1 s1 nm rs1 w1 b1 b2 b4 hnm hops1
  rw [hrl, HE2.out] at hsy
  have HSY := Lib.hid hsy
  have hcc := h1.2.2.2.2.2.2.1
  unfold kcells at hcc
  have d4 : w1.cell? ⟨C, 4, none⟩ = some (.pointer (some ⟨G, 0, none⟩)) := cellAt 4 hcc
  have HR1 := Lib.hid b3; have HT1 := Lib.hid b5; have HS1 := Lib.hid b6; have HS2 := Lib.hid b7; have HAP1 := Lib.hid b4; have HL1 := Lib.hid b2
  clear b1 b2 b3 b4 b5 b6 b7 h1 hcc hsy hrl c4 c6 HAP
  go_wp2_with fail
  refine HSY.out.mono ?_
  rintro e w2 ⟨rfl, F2, g1, g2, g3⟩
  have hsz : wr.heap.size ≤ w1.heap.size := HT1.out.size
  have hap2 : ∀ j, FL1 j → ¬ F2 j := fun j hj hf => (g3 j hf).elim (HAP1.out j hj) (fun h0 => by have := HL1.out.foot hj; omega)
  have h2 := H1.out.turn g1 (HL1.out.turned g2 HAP1.out) hap2 (g2.more (fun _ _ h => .inl h)) g3 (Spread.refl _ _)
  have H2 := Lib.hid h2; have HG2 := Lib.hid g2; have HG3 := Lib.hid g3
  clear g1 g2 g3 hap2 h2 d4
  go_wp2
  go_ret
  exact ⟨rfl, HT1.out.trans' (fun j hj => (HS1.out j hj).imp Or.inl id) HG2.out, F2, FL1, rs1, HR1.out, H2.out, HS1.out.trans hsz HG3.out, HS2.out⟩
end Go.Proofs.YtjdkpcibdjhdoaaDoor

namespace Go.Proofs.YtjdkpcibdjhdoaaDoor
open Go.RowKit Mem FM
set_option linter.unusedVariables false
set_option maxRecDepth 100000

theorem Tryd.infoOp : (Tryd.prog.info? 26).map (fun i => (i.zero, i.size, i.bytes)) = some (some (.agg #[.int .u64 0, .string ⟨#[]⟩, .int .i64 0, .string ⟨#[]⟩]), 4, 48) := by kernel_rfl

set_option maxHeartbeats 2000000 in
theorem do_serves (C h s a t same G laid : Nat) (torn : Bool) (vo : Value) (A : Option Addr) (n c : Nat) (w : World) (hc : w.heap[C]? = some (.cells #[.int .u64 (h : Int), .int .u64 (s : Int), .int .u64 (a : Int), vo, .pointer (some ⟨G, 0, none⟩), .int .i64 (laid : Int), .bool torn] 84 (0, 0))) :
    Calls Tryd.prog 62 #[.pointer (some ⟨C, 0, none⟩), .agg #[.int .u8 209, .int .u64 (t : Int), .int .u64 (same : Int), .slice A n c]] w (fun e w' => e = .returned (.tuple #[]) ∧ Turned (· = C) w w' ∧
      w'.heap[C]? = some (.cells #[.int .u64 (t : Int), .int .u64 (t : Int), .int .u64 (t : Int), vo, .pointer (some ⟨G, 0, none⟩), .int .i64 (laid : Int), .bool torn] 84 (0, 0))) := by
  have HC := Lib.hid hc
  have hlt : C < w.heap.size := heapLt hc
  have p0 : w.cell? ⟨C, 0, none⟩ = some (.int .u64 (h : Int)) := cellAt 0 hc
  have p1 : w.cell? ⟨C, 1, none⟩ = some (.int .u64 (s : Int)) := cellAt 1 hc
  have p2 : w.cell? ⟨C, 2, none⟩ = some (.int .u64 (a : Int)) := cellAt 2 hc
  have f0 : w.frozen? ⟨C, 0, none⟩ = false := freeAt 0 hc
  have f1 : w.frozen? ⟨C, 1, none⟩ = false := freeAt 1 hc
  have f2 : w.frozen? ⟨C, 2, none⟩ = false := freeAt 2 hc
  have hne : ¬ w.heap.size = C := by omega
  have hne2 : ¬ C = w.heap.size := by omega
  clear hc
  go_enter Tryd.func62, Tryd.ntmps62
  go_wp2_with fail
  go_region_law (fail)
  all_goals
    go_wp2
    refine bodyPost_end (results_none rfl _ _ _) rfl ?_
    refine ⟨rfl, ?_, ?_⟩
    · exact (((((show Turned (fun x => x = C) w w from Turned.refl _ w).setCell (p := ⟨C, 0, none⟩) (.inl rfl) _).setCell (p := ⟨C, 1, none⟩) (.inl rfl) _).setCell (p := ⟨C, 2, none⟩) (.inl rfl) _).alloc _).drew
    · exact heapOld (heapSet 2 _ (heapSet 1 _ (heapSet 0 _ HC.out)))

theorem ocells_len (l : List M.O) : (ocells l).length = l.length * 4 := by
  induction l with
  | nil => rfl
  | cons a r ih => show (ocell a ++ ocells r).length = _; rw [List.length_append, ih]; simp [ocell]; omega
theorem ocells_app (l r : List M.O) : ocells (l ++ r) = ocells l ++ ocells r := by simp [ocells]
theorem ocells_take (l : List M.O) (m : Nat) : (ocells l).take (m * 4) = ocells (l.take m) := by
  induction l generalizing m with
  | nil => simp [ocells]
  | cons a r ih =>
    cases m with
    | zero => simp [ocells]
    | succ m =>
      show (ocell a ++ ocells r).take ((m + 1) * 4) = ocell a ++ ocells (r.take m)
      rw [List.take_append, ← ih m]
      congr 1
      · rw [List.take_of_length_le (by simp [ocell]; omega)]
      · congr 1; simp [ocell]; omega
theorem ocells_one (l : List M.O) : ∀ u ∈ ocells l, u.oneCell' = true := by
  intro u hu
  obtain ⟨d, _, hd⟩ := List.mem_flatMap.1 hu
  simp [ocell] at hd
  rcases hd with rfl | rfl | rfl | rfl <;> rfl
theorem ocells_at {l : List M.O} {i : Nat} (hi : i < l.length) : (ocells l)[i * 4]? = some (.int .u64 (l[i].term : Int)) ∧ (ocells l)[i * 4 + 1]? = some (.string ⟨l[i].doc.id.toArray⟩) ∧ (ocells l)[i * 4 + 2]? = some (.int .i64 l[i].doc.time) ∧ (ocells l)[i * 4 + 3]? = some (.string ⟨l[i].doc.text.toArray⟩) := by
  induction l generalizing i with
  | nil => simp at hi
  | cons a r ih =>
    have e : ocells (a :: r) = .int .u64 (a.term : Int) :: .string ⟨a.doc.id.toArray⟩ :: .int .i64 a.doc.time :: .string ⟨a.doc.text.toArray⟩ :: ocells r := rfl
    rw [e]
    cases i with
    | zero => simp
    | succ j =>
      have := ih (i := j) (by simpa using hi)
      rw [show (j + 1) * 4 = j * 4 + 4 by omega]
      simpa using this
theorem RdOps.cells {w : World} {B n c : Nat} {A : Option Addr} {os : List M.O} (h : RdOps w B A n c os) : (A = none → n = 0) ∧ ∀ ad, A = some ad → ∀ j u, (ocells os)[j]? = some u → w.cell? (ad.add j) = some u := by
  refine ⟨fun hA => ?_, fun ad hA j u hu => ?_⟩
  · rcases Nat.eq_zero_or_pos n with h0 | h0
    · exact h0
    · obtain ⟨b, off, e, _⟩ := h.2.2.2 h0
      rw [hA] at e; cases e
  · have hj := (List.getElem?_eq_some_iff.1 hu).1
    rw [ocells_len] at hj
    have hi : j / 4 < os.length := by omega
    obtain ⟨b, off, e, hb, c0, c1, c2, c3⟩ := h.at_ hi
    rw [hA] at e
    injection e with e
    subst e
    rw [add_none]
    obtain ⟨a0, a1, a2, a3⟩ := ocells_at hi
    have hjj : j = j / 4 * 4 ∨ j = j / 4 * 4 + 1 ∨ j = j / 4 * 4 + 2 ∨ j = j / 4 * 4 + 3 := by omega
    generalize hq : j / 4 = q at *
    rcases hjj with e | e | e | e <;> subst e
    · rw [c0, ← hu, a0]
    · rw [← Nat.add_assoc, c1, ← hu, a1]
    · rw [← Nat.add_assoc, c2, ← hu, a2]
    · rw [← Nat.add_assoc, c3, ← hu, a3]
/-- the row's beginning -/
theorem orow_cut {w : World} {base c : Nat} {A : Option Addr} {os : List M.O} {m : Nat} (h : w.ownsRow base 26 4 (.slice A os.length c) os.length (ocells os)) (hm : m ≤ os.length) : w.ownsRow base 26 4 (.slice A m c) m (ocells (os.take m)) := by
  refine ⟨by rw [ocells_len, List.length_take, Nat.min_eq_left hm], ?_⟩
  rcases h.2 with ⟨h1, h0⟩ | ⟨g, cap, cur, h1, hg, hh, hn, hc, hs, ht⟩
  · injection h1 with e1 e2 e3
    obtain rfl : m = 0 := by omega
    subst e1 e3
    exact .inl ⟨rfl, rfl⟩
  · injection h1 with e1 e2 e3
    subst e1 e3
    refine .inr ⟨g, c, cur, rfl, hg, hh, by omega, hc, hs, ?_⟩
    rw [← ocells_take, ← ht, List.take_take, Nat.min_eq_left (by omega)]
section
variable {P : Program} (w : World)
theorem run_appO (base B : Nat) (t ty e : TypeId) (i : TypeInfo) (z : Value) (ht : P.underlying t = some (.slice e)) (hi : P.info? e = some i) (hz : i.zero = some z)
    (hsize : i.size = 4) (hby : i.bytes = 48) (hzs : z.cells.size = 4) (v : Value) (m0 : Nat) (xs : List Value) (hown : w.ownsRow base e 4 v m0 xs)
    (A : Option Addr) (m c : Nat) (ys : List M.O) (hr : RdOps w B A m c ys) (hroom : (m0 + m) * 48 ≤ 140737488355328) (hbase : base ≤ w.heap.size) :
    ∃ v' w', (Builtin.append_ #[t, t] ty #[v, .slice A m c]).run P w = .ok v' w' ∧ w'.ownsRow base e 4 v' (m0 + m) (xs ++ ocells ys) ∧ w.grownBy w' v.ownBlock ∧
      (v'.ownBlock = v.ownBlock ∨ v'.ownBlock = some w.heap.size) := by
  have hm := hr.1
  obtain ⟨hc0, hc1⟩ := hr.cells
  rcases A with _ | ad
  · have h0 := hc0 rfl
    subst h0
    have hn : ys = [] := List.eq_nil_of_length_eq_zero hm.symm
    subst hn
    refine ⟨v, w, ?_, by simpa [ocells] using hown, ⟨rfl, rfl, rfl, Nat.le_refl _, fun _ _ _ => rfl⟩, .inl rfl⟩
    rcases hown.2 with ⟨rfl, h00⟩ | ⟨g, cap, cur, rfl, _, _, hnc, _⟩
    · simp [Builtin.append_, run_underlying ht, sizeOf, typeInfo, hi, Builtin.lenOf, Builtin.firstCells]
    · simp [Builtin.append_, run_underlying ht, sizeOf, typeInfo, hi, Builtin.lenOf, Builtin.firstCells, hnc, storeCells]
  · obtain ⟨v', w', hrun, h2, h3, _, h5⟩ := run_append_own_at (P := P) w base t ty e i z 4 48 ht hi hz hsize hby hzs (by omega) v m0 xs hown ad m c (ocells ys) (by rw [ocells_len]; omega) (hc1 ad rfl) (ocells_one ys)
      (by simp only [maxLen]; omega) hroom hbase
    exact ⟨v', w', hrun, h2, h3, h5⟩
/-- the like, as a step of a region that draws its order -/
theorem step_appO {ops : Array Oper} {o : Oper} {a : Act} {K : Act → World → Prop} {Q : Exit → Act → World → Prop} {E : Prop} (hgd : o.guard = none) (s x : Operand) (t : TypeId)
    (ho : o.op = .call { callee := .builtin .append, args := #[s, x], argTypes := #[t, t] })
    (base B : Nat) (e : TypeId) (i : TypeInfo) (z : Value) (ht : P.underlying t = some (.slice e)) (hi : P.info? e = some i) (hz : i.zero = some z)
    (hsize : i.size = 4) (hby : i.bytes = 48) (hzs : z.cells.size = 4) (v : Value) (m0 : Nat) (xs : List Value) (hs : a.eval s = v) (hown : w.ownsRow base e 4 v m0 xs)
    (A : Option Addr) (m c : Nat) (ys : List M.O) (hx : a.eval x = .slice A m c) (hr : RdOps w B A m c ys) (hroom : (m0 + m) * 48 ≤ 140737488355328) (hbase : base ≤ w.heap.size)
    (h : ∀ v' w', w'.ownsRow base e 4 v' (m0 + m) (xs ++ ocells ys) → w.grownBy w' v.ownBlock → (v'.ownBlock = v.ownBlock ∨ v'.ownBlock = some w.heap.size) → K (a.put o.dst v') w') :
    if Region.wanted o (yielded ops a.tmps) = true then Oper.wp P o a w K Q else E := by
  have hw : Region.wanted o (yielded ops a.tmps) = true := by simp [Region.wanted, hgd]
  rw [if_pos hw]
  obtain ⟨v', w', hrun, h2, h3, h4⟩ := run_appO (P := P) w base B t o.type e i z ht hi hz hsize hby hzs v m0 xs hown A m c ys hr hroom hbase
  unfold Oper.wp execOp
  simp only [ho, resolve, invoke, builtin, Sem.run_bind, Sem.run_pure, Result.andThen_ok, List.map_toArray, List.map_cons, List.map_nil, hs, hx, hrun]
  exact h v' w' h2 h3 h4
end
end Go.Proofs.YtjdkpcibdjhdoaaDoor

namespace Go.Proofs.YtjdkpcibdjhdoaaDoor
open Go.RowKit Mem FM
set_option linter.unusedVariables false
set_option maxRecDepth 100000

theorem info_of16 {P : Program} {e : TypeId} {z : Value} {s b : Nat} (h : (P.info? e).map (fun i => (i.zero, i.size, i.bytes)) = some (some z, s, b)) : ∃ i, P.info? e = some i ∧ i.zero = some z ∧ i.size = s ∧ i.bytes = b := by
  cases hq : P.info? e with
  | none => simp [hq] at h
  | some i => rw [hq] at h; simp at h; exact ⟨i, rfl, h.1, h.2.1, h.2.2⟩

theorem ob_eq (A : Option Addr) (n c m d : Nat) : Value.ownBlock (.slice A n c) = Value.ownBlock (.slice A m d) := by cases A <;> rfl
set_option maxHeartbeats 4000000 in
theorem do_adopts (C h s a t same G laid base : Nat) (torn : Bool) (vo : Value) (os more : List M.O) (A : Option Addr) (n c : Nat) (w : World) (hc : w.heap[C]? = some (.cells #[.int .u64 (h : Int), .int .u64 (s : Int), .int .u64 (a : Int), vo, .pointer (some ⟨G, 0, none⟩), .int .i64 (laid : Int), .bool torn] 84 (0, 0)))
    (hro : w.ownsRow base 26 4 vo os.length (ocells os)) (hvC : vo.ownBlock ≠ some C) (hb : base ≤ w.heap.size) (hm : ∀ w', Turned (fun x => x = C) w w' → RdOps w' w'.heap.size A n c more) (hsm : same ≤ os.length) (hroom : (same + n) * 48 ≤ 140737488355328) :
    Calls Tryd.prog 62 #[.pointer (some ⟨C, 0, none⟩), .agg #[.int .u8 210, .int .u64 (t : Int), .int .u64 (same : Int), .slice A n c]] w (fun e w' => e = .returned (.tuple #[]) ∧ Turned (fun j => j = C ∨ vo.ownBlock = some j) w w' ∧
      ∃ vo', w'.heap[C]? = some (.cells #[.int .u64 (t : Int), .int .u64 (s : Int), .int .u64 (t : Int), vo', .pointer (some ⟨G, 0, none⟩), .int .i64 (laid : Int), .bool torn] 84 (0, 0)) ∧
        w'.ownsRow base 26 4 vo' (os.take same ++ more).length (ocells (os.take same ++ more)) ∧ ∀ j, vo'.ownBlock = some j → vo.ownBlock = some j ∨ w.heap.size ≤ j) := by
  obtain ⟨i0, hi0, hz0, hz1, hz2⟩ := info_of16 Tryd.infoOp
  have HI := Lib.hid hi0; have HZ0 := Lib.hid hz0; have HZ1 := Lib.hid hz1; have HZ2 := Lib.hid hz2
  have HC := Lib.hid hc
  have hlt : C < w.heap.size := heapLt hc
  obtain ⟨Av, cv, hv, hcv1, hcv2⟩ : ∃ Av cv, vo = .slice Av os.length cv ∧ os.length ≤ cv ∧ cv ≤ 9223372036854775807 := by
    rcases hro.2 with ⟨rfl, h0⟩ | ⟨g, cap, cur, rfl, _, _, h1, h2, _⟩
    · exact ⟨none, 0, by rw [h0], by omega, by omega⟩
    · exact ⟨_, cap, rfl, h1, by simpa only [maxLen] using h2⟩
  subst hv
  have HN := Lib.hid (hm w (Turned.refl _ w)).1
  have HM := Lib.hid hm
  have hnc := (hm w (Turned.refl _ w)).2.1; have hncm := (hm w (Turned.refl _ w)).2.2.1
  have HRO := Lib.hid (orow_cut hro hsm)
  have HVC := Lib.hid (show Value.ownBlock (.slice Av same cv) ≠ some C from fun e => hvC ((ob_eq _ _ _ _ _).trans e))
  have HOB := Lib.hid (show Value.ownBlock (.slice Av same cv) = Value.ownBlock (.slice Av os.length cv) from ob_eq _ _ _ _ _)
  have hsl : same ≤ cv := by omega
  have hsli : (same : Int) ≤ (cv : Int) := by omega
  have hsn : (0 : Int) ≤ (same : Int) := by omega
  have p0 : w.cell? ⟨C, 0, none⟩ = some (.int .u64 (h : Int)) := cellAt 0 hc
  have p2 : w.cell? ⟨C, 2, none⟩ = some (.int .u64 (a : Int)) := cellAt 2 hc
  have p3 : w.cell? ⟨C, 3, none⟩ = some (.slice Av os.length cv) := cellAt 3 hc
  have f0 : w.frozen? ⟨C, 0, none⟩ = false := freeAt 0 hc
  have f2 : w.frozen? ⟨C, 2, none⟩ = false := freeAt 2 hc
  have f3 : w.frozen? ⟨C, 3, none⟩ = false := freeAt 3 hc
  have hne : ¬ w.heap.size = C := by omega
  have hne2 : ¬ C = w.heap.size := by omega
  obtain ⟨w7, hw7⟩ : ∃ w7, w7 = ((w.setCell ⟨C, 0, none⟩ (.int .u64 (t : Int))).setCell ⟨C, 2, none⟩ (.int .u64 (t : Int))).alloc (.cells #[.int .u8 210, .int .u64 (t : Int), .int .u64 (same : Int), .slice A n c] 92) := ⟨_, rfl⟩
  have hT7 : Turned (fun x => x = C) w w7 := by rw [hw7]; exact ((((show Turned (fun x => x = C) w w from Turned.refl _ w).setCell (p := ⟨C, 0, none⟩) (.inl rfl) _).setCell (p := ⟨C, 2, none⟩) (.inl rfl) _).alloc _)
  have hc7 : w7.heap[C]? = some (.cells #[.int .u64 (t : Int), .int .u64 (s : Int), .int .u64 (t : Int), .slice Av os.length cv, .pointer (some ⟨G, 0, none⟩), .int .i64 (laid : Int), .bool torn] 84 (0, 0)) := by rw [hw7]; exact heapOld (heapSet 2 _ (heapSet 0 _ HC.out))
  have hs7 : w7.heap.size = w.heap.size + 1 := by rw [hw7]; simp [World.setCell]
  have hx7 : w7.heap[w.heap.size]? = some (.cells #[.int .u8 210, .int .u64 (t : Int), .int .u64 (same : Int), .slice A n c] 92 (0, 0)) := by
    have e : w.heap.size = ((w.setCell ⟨C, 0, none⟩ (.int .u64 (t : Int))).setCell ⟨C, 2, none⟩ (.int .u64 (t : Int))).heap.size := by simp [World.setCell]
    rw [hw7]
    conv => lhs; rw [e]
    exact heap_alloc_new _ _
  have HR7 := Lib.hid (show World.ownsRow w7.drew base 26 4 (.slice Av same cv) same (ocells (os.take same)) from row_turned HRO.out (hT7.drew) (fun j hj e => HVC.out (e ▸ hj)))
  have HM7 := Lib.hid (HM.out w7.drew hT7.drew)
  have HC7 := Lib.hid hc7; have HT7 := Lib.hid hT7; have HS7 := Lib.hid hs7
  have y3 : w7.drew.cell? ⟨C, 3, none⟩ = some (.slice Av os.length cv) := cellAt (w := w7) 3 hc7
  have x2 : w7.drew.cell? ⟨w.heap.size, 2, none⟩ = some (.int .u64 (same : Int)) := cellAt (w := w7) 2 hx7
  have x3 : w7.drew.cell? ⟨w.heap.size, 3, none⟩ = some (.slice A n c) := cellAt (w := w7) 3 hx7
  clear hc hro hvC hm hi0 hz0 hz1 hz2 hT7 hc7 hx7 hs7
  go_enter Tryd.func62, Tryd.ntmps62
  go_wp2_with fail
  rw [← hw7]
  clear hw7
  go_region_law (first
    | (refine step_appO _ (by rfl) _ _ _ (by rfl) base w7.heap.size 26 i0 _ Tryd.underlying46 HI.out HZ0.out HZ1.out HZ2.out rfl (.slice Av same cv) same (ocells (os.take same)) (by rfl) HR7.out A n c more (by rfl) HM7.out (by omega) (by have := HS7.out; simp; omega) ?_; intro v8 w8 hown8 hgrow8 hat8
       obtain ⟨A8, n8, c8, hv8⟩ : ∃ A8 n8 c8, v8 = .slice A8 n8 c8 := by
         rcases hown8.2 with ⟨e, _⟩ | ⟨g, cap, cur, e, _⟩ <;> exact ⟨_, _, _, e⟩
       subst hv8
       have hc8 : w8.heap[C]? = _ := (hgrow8.block C (by have := HS7.out; simp; omega) (fun e => HVC.out e.symm)).trans HC7.out
       have z3 : w8.cell? ⟨C, 3, none⟩ = some (.slice Av os.length cv) := cellAt 3 hc8
       have zf : w8.frozen? ⟨C, 3, none⟩ = false := freeAt 3 hc8
       have HOWN8 := Lib.hid hown8; have HGR8 := Lib.hid hgrow8; have HAT8 := Lib.hid hat8; have HC8 := Lib.hid hc8
       clear hown8 hgrow8 hat8 hc8)
    | fail)
  all_goals
    go_wp2
    refine bodyPost_end (results_none rfl _ _ _) rfl ?_
    have hT8 : Turned (fun j => j = C ∨ Value.ownBlock (.slice Av os.length cv) = some j) w w8 := (HT7.out.drew.more (fun j _ e => .inl e)).grown HGR8.out (fun k hk => .inl (.inr (by rw [← HOB.out]; exact hk)))
    refine ⟨rfl, hT8.setCell (p := ⟨C, 3, none⟩) (.inl (.inl rfl)) _, .slice A8 n8 c8, heapSet 3 _ HC8.out, ?_, fun j hj => ?_⟩
    · have e : (os.take same ++ more).length = same + n := by rw [List.length_append, List.length_take, Nat.min_eq_left hsm, HN.out]
      rw [e, ocells_app]
      refine row_turned HOWN8.out ((Turned.refl (fun x => x = C) w8).setCell (p := ⟨C, 3, none⟩) (.inl rfl) _) (fun j hj e => ?_)
      subst e
      rcases HAT8.out with h | h
      · rw [h] at hj; exact HVC.out hj
      · rw [h] at hj; injection hj with hj; have := HS7.out; simp at hj; omega
    · rcases HAT8.out with h | h
      · left; rw [← HOB.out, ← h]; exact hj
      · right; rw [h] at hj; injection hj with hj; have := HS7.out; simp at hj; omega
end Go.Proofs.YtjdkpcibdjhdoaaDoor

namespace Go.Proofs.YtjdkpcibdjhdoaaDoor
open Go.RowKit Mem FM
set_option linter.unusedVariables false
set_option maxRecDepth 100000

theorem xcells_far {F : Nat → Prop} {w w' : World} {g : Nat} {o : Obj} (h : w.heap[g]? = some o) (ht : Turned F w w') (hn : ¬ F g) : w'.heap[g]? = some o := (ht.block g (heapLt h) hn).trans h

set_option maxHeartbeats 4000000 in
theorem keep_serves (F FL : Nat → Prop) (rs : List Rec) (vo : Value) (w : World) (D G C : Nat) (s s1 s2 : St) (nm : ByteArray) (k : M.K) (laid t same : Nat) (A : Option Addr) (n c : Nat) (more : List M.O) (wr : World)
    (h : CpF F FL rs vo w D G C s nm k laid false wr) (ht : t < 18446744073709551616) (hl : laid ≤ 1000000) (hnm : nm.size ≤ 100) (hops : s.ops + 1 < 1099511627776) (hops1 : s1.ops + 1 < 1099511627776) (hrs : rs.length ≤ 1000000) (l : List UInt8) (hrec : M.recB ⟨209, t, same, more⟩ = l) (hlen : l.length ≤ 65535)
    (e1 : lappR s nm l = (0, s1)) (e2 : lsyncR s1 nm (rs.length + 1) = (0, s2)) :
    Calls Tryd.prog 40 #[.pointer (some ⟨C, 0, none⟩), .agg #[.int .u8 209, .int .u64 (t : Int), .int .u64 (same : Int), .slice A n c]] wr (fun e w' => e = .returned (.int .i64 0) ∧ Below w.heap.size w w' ∧
      ∃ F' FL' rs' vo', recs rs' = recs rs ++ [l] ∧ CpF F' FL' rs' vo' w D G C s2 nm ⟨t, t, t, k.ops⟩ (laid + 1) false w') := by
  have H := Lib.hid h
  have hC : C < wr.heap.size := heapLt h.2.2.2.2.2.2.1
  have hFs : ∀ j, F j → j < wr.heap.size := fun j hj => h.1.foot hj
  have hFLs : ∀ j, FL j → j < wr.heap.size := fun j hj => h.2.1.foot hj
  have HFS := Lib.hid hFs; have HFLS := Lib.hid hFLs
  obtain ⟨wa, hwa⟩ : ∃ wa, wa = wr.alloc (.cells #[.int .u8 209, .int .u64 (t : Int), .int .u64 (same : Int), .slice A n c] 92) := ⟨_, rfl⟩
  have hxa : wa.heap[wr.heap.size]? = some (.cells #[.int .u8 209, .int .u64 (t : Int), .int .u64 (same : Int), .slice A n c] 92 (0, 0)) := by rw [hwa]; exact heap_alloc_new wr _
  have HBA := Lib.hid (show Below wr.heap.size wr wa by rw [hwa]; exact (Below.refl _ _).alloc (Nat.le_refl _) _)
  have hsa : wa.heap.size = wr.heap.size + 1 := by rw [hwa]; simp
  have HSA := Lib.hid hsa; have HXA := Lib.hid hxa
  have HREC := Lib.hid (show Calls Tryd.prog 65 #[.agg #[.int .u8 209, .int .u64 (t : Int), .int .u64 (same : Int), .slice A n c]] wa (GivesP wa l) by rw [← hrec]; exact record_head ⟨209, t, same, more⟩ wa (show ¬ (209 : UInt8) = 210 by decide) ht A n c)
  have x0 : wa.cell? ⟨wr.heap.size, 0, none⟩ = some (.int .u8 209) := cellAt 0 hxa
  have x1 : wa.cell? ⟨wr.heap.size, 1, none⟩ = some (.int .u64 (t : Int)) := cellAt 1 hxa
  have x2 : wa.cell? ⟨wr.heap.size, 2, none⟩ = some (.int .u64 (same : Int)) := cellAt 2 hxa
  have x3 : wa.cell? ⟨wr.heap.size, 3, none⟩ = some (.slice A n c) := cellAt 3 hxa
  rw [hwa] at x0 x1 x2 x3
  have HE1 := Lib.hid e1; have HE2 := Lib.hid e2
  clear h hFs hFLs hxa hsa e1 e2 hrec
  go_enter Tryd.func40, Tryd.ntmps40
  go_wp2_with fail
  rw [← hwa]
  refine HREC.out.mono ?_
  rintro e w1 ⟨v1, rfl, ho1, hb1⟩
  obtain ⟨A1, c1, rfl, hr1⟩ := ho1.open_
  have hb01 := HBA.out.trans (hb1.mono HBA.out.size)
  have hcp1 := H.out.below hb01
  have hfm : Firm F w1 A1 l.length c1 l := by
    have := own_firm (F := F) (k := l.length) ho1 (fun j hj hf => by have h1 := (ho1.lt j hj).1; have h2 := HFS.out j hf; have := HSA.out; omega) (Nat.le_refl _)
    rwa [List.take_length] at this
  have HLAY := Lib.hid (lay_ok F FL rs vo w D G C s s1 s2 nm k laid A1 l.length c1 l w1 hcp1 hfm hlen hnm hops hops1 hrs HE1.out HE2.out)
  have HX1 := Lib.hid ((hb1.block _ (heapLt HXA.out)).trans HXA.out)
  have HB01 := Lib.hid hb01
  clear ho1 hb1 hr1 hb01 hcp1 hfm x0 x1 x2 x3 hwa HREC
  go_wp2_with fail
  refine HLAY.out.mono ?_
  rintro e w2 ⟨rfl, ht2, F2, FL2, rs2, hr2, hcp2, hsp1, hsp2⟩
  have hx2 := xcells_far HX1.out ht2 (fun e => e.elim (fun hf => by have := HFS.out _ hf; omega) (fun hf => by have := HFLS.out _ hf; omega))
  have hc2 := hcp2.2.2.2.2.2.2.1
  unfold kcells at hc2
  have hC2 : C < w2.heap.size := heapLt hc2
  have HCP2 := Lib.hid hcp2; have HR2 := Lib.hid hr2; have HC2 := Lib.hid hc2; have HX2 := Lib.hid hx2; have HT2 := Lib.hid ht2
  have HDO := Lib.hid (do_serves C k.h k.s k.a t same G laid false vo A n c w2.drew hc2)
  have x0 : w2.drew.cell? ⟨wr.heap.size, 0, none⟩ = some (.int .u8 209) := cellAt (w := w2) 0 hx2
  have x1 : w2.drew.cell? ⟨wr.heap.size, 1, none⟩ = some (.int .u64 (t : Int)) := cellAt (w := w2) 1 hx2
  have x2 : w2.drew.cell? ⟨wr.heap.size, 2, none⟩ = some (.int .u64 (same : Int)) := cellAt (w := w2) 2 hx2
  have x3 : w2.drew.cell? ⟨wr.heap.size, 3, none⟩ = some (.slice A n c) := cellAt (w := w2) 3 hx2
  have HV := Lib.hid (show w2.drew.cell? ⟨wr.heap.size, 0, none⟩ = some (.int .u8 209) ∧ w2.drew.cell? ⟨wr.heap.size, 1, none⟩ = some (.int .u64 (t : Int)) ∧ w2.drew.cell? ⟨wr.heap.size, 2, none⟩ = some (.int .u64 (same : Int)) ∧ w2.drew.cell? ⟨wr.heap.size, 3, none⟩ = some (.slice A n c) from ⟨x0, x1, x2, x3⟩)
  clear ht2 hr2 hcp2 hsp1 hsp2 hx2 hc2 HLAY x0 x1 x2 x3
  go_wp2_with fail
  go_region_held3 (fun W => W.cell? ⟨wr.heap.size, 0, none⟩ = some (.int .u8 209) ∧ W.cell? ⟨wr.heap.size, 1, none⟩ = some (.int .u64 (t : Int)) ∧ W.cell? ⟨wr.heap.size, 2, none⟩ = some (.int .u64 (same : Int)) ∧ W.cell? ⟨wr.heap.size, 3, none⟩ = some (.slice A n c))
    (first | exact hHeld | exact HV.out | exact s3 | fail)
    (first
      | (go_at_call 62; refine HDO.out.mono ?_; rintro e w3 ⟨rfl, ht3, hc3⟩
         have hx3 := xcells_far (w := w2.drew) HX2.out ht3 (fun e => by omega)
         have s3 : w3.cell? ⟨wr.heap.size, 0, none⟩ = some (.int .u8 209) ∧ w3.cell? ⟨wr.heap.size, 1, none⟩ = some (.int .u64 (t : Int)) ∧ w3.cell? ⟨wr.heap.size, 2, none⟩ = some (.int .u64 (same : Int)) ∧ w3.cell? ⟨wr.heap.size, 3, none⟩ = some (.slice A n c) := ⟨cellAt 0 hx3, cellAt 1 hx3, cellAt 2 hx3, cellAt 3 hx3⟩)
      | fail)
  all_goals
    have hC3 : C < w3.heap.size := heapLt hc3
    have c5 : w3.cell? ⟨C, 5, none⟩ = some (.int .i64 (laid : Int)) := cellAt 5 hc3
    have f5 : w3.frozen? ⟨C, 5, none⟩ = false := freeAt 5 hc3
    have hwl : IntKind.i64.wrap ((laid : Int) + 1) = ((laid + 1 : Nat) : Int) := by rw [IntKind.wrap_i64]; omega
    have HC3 := Lib.hid hc3; have HT3 := Lib.hid ht3
    clear hc3 ht3 hx3 s3
    go_wp2
    go_ret
    have ht0 : Turned (fun j => j = C ∨ vo.ownBlock = some j) w2 w3 := ((Turned.undrew HT3.out).more (fun j _ e => Or.inl e))
    have htt := ht0.setCell (p := ⟨C, 5, none⟩) (.inl (.inl rfl)) (.int .i64 ((laid + 1 : Nat) : Int))
    have hcf := HCP2.out.cells (k' := ⟨t, t, t, k.ops⟩) (vo' := vo) (laid' := laid + 1) (torn' := false) htt (heapSet 5 _ HC3.out) (row_turned (row_turned HCP2.out.2.2.2.2.2.2.2.2.2.2.1 (Turned.undrew HT3.out) (fun j hj e => (HCP2.out.2.2.2.2.2.2.2.2.2.2.2 j hj).2.2 e)) ((Turned.refl (fun x => x = C) w3).setCell (p := ⟨C, 5, none⟩) (.inl rfl) _) (fun j hj e => (HCP2.out.2.2.2.2.2.2.2.2.2.2.2 j hj).2.2 e)) (fun j hj => .inl hj)
    exact ⟨rfl, hcf.2.2.2.2.2.1, F2, FL2, rs2, vo, HR2.out, hcf⟩

set_option maxHeartbeats 4000000 in
theorem keep_adopts (F FL : Nat → Prop) (rs : List Rec) (vo : Value) (w : World) (D G C : Nat) (s s1 s2 : St) (nm : ByteArray) (k : M.K) (laid t same : Nat) (A : Option Addr) (n c : Nat) (more : List M.O) (wr : World)
    (h : CpF F FL rs vo w D G C s nm k laid false wr) (ht : t < 18446744073709551616) (hl : laid ≤ 1000000) (hnm : nm.size ≤ 100) (hops : s.ops + 1 < 1099511627776) (hops1 : s1.ops + 1 < 1099511627776) (hrs : rs.length ≤ 1000000) (l : List UInt8) (hrec : M.recB ⟨210, t, same, more⟩ = l) (hlen : l.length ≤ 65535)
    (e1 : lappR s nm l = (0, s1)) (e2 : lsyncR s1 nm (rs.length + 1) = (0, s2)) (hsame : same < 18446744073709551616) (hm : ∀ w', Turned (fun j => F j ∨ FL j ∨ j = C) wr w' → RdOps w' w'.heap.size A n c more) (hok : ∀ o ∈ more, o.Ok) (hsm : same ≤ k.ops.length) (hroom : k.ops.length + n ≤ 1000000) :
    Calls Tryd.prog 40 #[.pointer (some ⟨C, 0, none⟩), .agg #[.int .u8 210, .int .u64 (t : Int), .int .u64 (same : Int), .slice A n c]] wr (fun e w' => e = .returned (.int .i64 0) ∧ Below w.heap.size w w' ∧
      ∃ F' FL' rs' vo', recs rs' = recs rs ++ [l] ∧ CpF F' FL' rs' vo' w D G C s2 nm ⟨t, k.s, t, k.ops.take same ++ more⟩ (laid + 1) false w') := by
  have H := Lib.hid h
  have hC : C < wr.heap.size := heapLt h.2.2.2.2.2.2.1
  have hFs : ∀ j, F j → j < wr.heap.size := fun j hj => h.1.foot hj
  have hFLs : ∀ j, FL j → j < wr.heap.size := fun j hj => h.2.1.foot hj
  have HFS := Lib.hid hFs; have HFLS := Lib.hid hFLs
  obtain ⟨wa, hwa⟩ : ∃ wa, wa = wr.alloc (.cells #[.int .u8 210, .int .u64 (t : Int), .int .u64 (same : Int), .slice A n c] 92) := ⟨_, rfl⟩
  have hxa : wa.heap[wr.heap.size]? = some (.cells #[.int .u8 210, .int .u64 (t : Int), .int .u64 (same : Int), .slice A n c] 92 (0, 0)) := by rw [hwa]; exact heap_alloc_new wr _
  have HBA := Lib.hid (show Below wr.heap.size wr wa by rw [hwa]; exact (Below.refl _ _).alloc (Nat.le_refl _) _)
  have hsa : wa.heap.size = wr.heap.size + 1 := by rw [hwa]; simp
  have HSA := Lib.hid hsa; have HXA := Lib.hid hxa
  have HREC := Lib.hid (show Calls Tryd.prog 65 #[.agg #[.int .u8 210, .int .u64 (t : Int), .int .u64 (same : Int), .slice A n c]] wa (GivesP wa l) by rw [← hrec]; exact record_adopt ⟨210, t, same, more⟩ wa rfl ht hsame A n c (hm wa (Turned.of_below HBA.out)) hok (by rw [hrec]; omega))
  have x0 : wa.cell? ⟨wr.heap.size, 0, none⟩ = some (.int .u8 210) := cellAt 0 hxa
  have x1 : wa.cell? ⟨wr.heap.size, 1, none⟩ = some (.int .u64 (t : Int)) := cellAt 1 hxa
  have x2 : wa.cell? ⟨wr.heap.size, 2, none⟩ = some (.int .u64 (same : Int)) := cellAt 2 hxa
  have x3 : wa.cell? ⟨wr.heap.size, 3, none⟩ = some (.slice A n c) := cellAt 3 hxa
  rw [hwa] at x0 x1 x2 x3
  have HE1 := Lib.hid e1; have HE2 := Lib.hid e2; have HM := Lib.hid hm
  clear h hFs hFLs hxa hsa e1 e2 hrec hm
  go_enter Tryd.func40, Tryd.ntmps40
  go_wp2_with fail
  rw [← hwa]
  refine HREC.out.mono ?_
  rintro e w1 ⟨v1, rfl, ho1, hb1⟩
  obtain ⟨A1, c1, rfl, hr1⟩ := ho1.open_
  have hb01 := HBA.out.trans (hb1.mono HBA.out.size)
  have hcp1 := H.out.below hb01
  have hfm : Firm F w1 A1 l.length c1 l := by
    have := own_firm (F := F) (k := l.length) ho1 (fun j hj hf => by have h1 := (ho1.lt j hj).1; have h2 := HFS.out j hf; have := HSA.out; omega) (Nat.le_refl _)
    rwa [List.take_length] at this
  have HLAY := Lib.hid (lay_ok F FL rs vo w D G C s s1 s2 nm k laid A1 l.length c1 l w1 hcp1 hfm hlen hnm hops hops1 hrs HE1.out HE2.out)
  have HX1 := Lib.hid ((hb1.block _ (heapLt HXA.out)).trans HXA.out)
  have HB01 := Lib.hid hb01
  clear ho1 hb1 hr1 hb01 hcp1 hfm x0 x1 x2 x3 hwa HREC
  go_wp2_with fail
  refine HLAY.out.mono ?_
  rintro e w2 ⟨rfl, ht2, F2, FL2, rs2, hr2, hcp2, hsp1, hsp2⟩
  have hx2 := xcells_far HX1.out ht2 (fun e => e.elim (fun hf => by have := HFS.out _ hf; omega) (fun hf => by have := HFLS.out _ hf; omega))
  have hc2 := hcp2.2.2.2.2.2.2.1
  unfold kcells at hc2
  have hC2 : C < w2.heap.size := heapLt hc2
  have HCP2 := Lib.hid hcp2; have HR2 := Lib.hid hr2; have HC2 := Lib.hid hc2; have HX2 := Lib.hid hx2; have HT2 := Lib.hid ht2
  have HDO := Lib.hid (do_adopts C k.h k.s k.a t same G laid w.heap.size false vo k.ops more A n c w2.drew hc2 hcp2.2.2.2.2.2.2.2.2.2.2.1 (fun e => (hcp2.2.2.2.2.2.2.2.2.2.2.2 C e).2.2 rfl) hcp2.2.2.2.2.2.1.size (fun w' ht' => HM.out w' ((show Turned (fun j => F j ∨ FL j ∨ j = C) wr w1 from Turned.of_below HB01.out).trans ((ht2.more (fun _ _ e => e.elim Or.inl (fun h => Or.inr (Or.inl h)))).trans ((Turned.undrew ht').more (fun _ _ e => Or.inr (Or.inr e)))))) hsm (by omega))
  have x0 : w2.drew.cell? ⟨wr.heap.size, 0, none⟩ = some (.int .u8 210) := cellAt (w := w2) 0 hx2
  have x1 : w2.drew.cell? ⟨wr.heap.size, 1, none⟩ = some (.int .u64 (t : Int)) := cellAt (w := w2) 1 hx2
  have x2 : w2.drew.cell? ⟨wr.heap.size, 2, none⟩ = some (.int .u64 (same : Int)) := cellAt (w := w2) 2 hx2
  have x3 : w2.drew.cell? ⟨wr.heap.size, 3, none⟩ = some (.slice A n c) := cellAt (w := w2) 3 hx2
  have HV := Lib.hid (show w2.drew.cell? ⟨wr.heap.size, 0, none⟩ = some (.int .u8 210) ∧ w2.drew.cell? ⟨wr.heap.size, 1, none⟩ = some (.int .u64 (t : Int)) ∧ w2.drew.cell? ⟨wr.heap.size, 2, none⟩ = some (.int .u64 (same : Int)) ∧ w2.drew.cell? ⟨wr.heap.size, 3, none⟩ = some (.slice A n c) from ⟨x0, x1, x2, x3⟩)
  clear ht2 hr2 hcp2 hsp1 hsp2 hx2 hc2 HLAY x0 x1 x2 x3
  go_wp2_with fail
  go_region_held3 (fun W => W.cell? ⟨wr.heap.size, 0, none⟩ = some (.int .u8 210) ∧ W.cell? ⟨wr.heap.size, 1, none⟩ = some (.int .u64 (t : Int)) ∧ W.cell? ⟨wr.heap.size, 2, none⟩ = some (.int .u64 (same : Int)) ∧ W.cell? ⟨wr.heap.size, 3, none⟩ = some (.slice A n c))
    (first | exact hHeld | exact HV.out | exact s3 | fail)
    (first
      | (go_at_call 62; refine HDO.out.mono ?_; rintro e w3 ⟨rfl, ht3, vo3, hc3, hrow3, hob3⟩
         have hx3 := xcells_far (w := w2.drew) HX2.out ht3 (fun e => e.elim (fun e => by omega) (fun e => by
           obtain ⟨cur, hh⟩ : ∃ cur, w2.heap[wr.heap.size]? = some (.cells cur 26 (0, 0)) := by
             rcases HCP2.out.2.2.2.2.2.2.2.2.2.2.1.2 with ⟨e2, _⟩ | ⟨g, cap, cur, e2, _, hh, _⟩
             · rw [e2] at e; simp [Value.ownBlock] at e
             · rw [e2] at e; simp [Value.ownBlock] at e; exact ⟨cur, by rw [← e]; exact hh⟩
           rw [HX2.out] at hh
           simp at hh))
         have s3 : w3.cell? ⟨wr.heap.size, 0, none⟩ = some (.int .u8 210) ∧ w3.cell? ⟨wr.heap.size, 1, none⟩ = some (.int .u64 (t : Int)) ∧ w3.cell? ⟨wr.heap.size, 2, none⟩ = some (.int .u64 (same : Int)) ∧ w3.cell? ⟨wr.heap.size, 3, none⟩ = some (.slice A n c) := ⟨cellAt 0 hx3, cellAt 1 hx3, cellAt 2 hx3, cellAt 3 hx3⟩)
      | fail)
  all_goals
    have hC3 : C < w3.heap.size := heapLt hc3
    have c5 : w3.cell? ⟨C, 5, none⟩ = some (.int .i64 (laid : Int)) := cellAt 5 hc3
    have f5 : w3.frozen? ⟨C, 5, none⟩ = false := freeAt 5 hc3
    have hwl : IntKind.i64.wrap ((laid : Int) + 1) = ((laid + 1 : Nat) : Int) := by rw [IntKind.wrap_i64]; omega
    have HC3 := Lib.hid hc3; have HT3 := Lib.hid ht3; have HROW3 := Lib.hid hrow3; have HOB3 := Lib.hid hob3
    clear hc3 ht3 hx3 s3 hrow3 hob3
    go_wp2
    go_ret
    have ht0 : Turned (fun j => j = C ∨ vo.ownBlock = some j) w2 w3 := (Turned.undrew HT3.out)
    have htt := ht0.setCell (p := ⟨C, 5, none⟩) (.inl (.inl rfl)) (.int .i64 ((laid + 1 : Nat) : Int))
    have hcf := HCP2.out.cells (k' := ⟨t, k.s, t, k.ops.take same ++ more⟩) (vo' := vo3) (laid' := laid + 1) (torn' := false) htt (heapSet 5 _ HC3.out) (row_turned HROW3.out ((Turned.refl (fun x => x = C) w3).setCell (p := ⟨C, 5, none⟩) (.inl rfl) _) (fun j hj e => (HOB3.out j hj).elim (fun h => (HCP2.out.2.2.2.2.2.2.2.2.2.2.2 j h).2.2 e) (fun h => by have h : w2.heap.size ≤ j := h; omega))) (fun j hj => HOB3.out j hj)
    exact ⟨rfl, hcf.2.2.2.2.2.1, F2, FL2, rs2, vo3, HR2.out, hcf⟩
end Go.Proofs.YtjdkpcibdjhdoaaDoor

namespace Go.Proofs.YtjdkpcibdjhdoaaDoor
open Go.RowKit Mem FM
set_option linter.unusedVariables false
set_option maxRecDepth 100000

set_option maxHeartbeats 2000000 in
theorem serve_ok (F FL : Nat → Prop) (rs : List Rec) (vo : Value) (w : World) (D G C : Nat) (s s1 s2 : St) (nm : ByteArray) (k : M.K) (laid t : Nat) (wr : World)
    (h : CpF F FL rs vo w D G C s nm k laid false wr) (h1 : k.h ≤ t) (h2 : k.s < t) (ht : t < 18446744073709551616) (hl : laid ≤ 1000000) (hnm : nm.size ≤ 100) (hops : s.ops + 1 < 1099511627776) (hops1 : s1.ops + 1 < 1099511627776) (hrs : rs.length ≤ 1000000) (l : List UInt8) (hrec : M.recB ⟨209, t, 0, []⟩ = l) (hlen : l.length ≤ 65535)
    (e1 : lappR s nm l = (0, s1)) (e2 : lsyncR s1 nm (rs.length + 1) = (0, s2)) :
    Calls Tryd.prog 18 #[.pointer (some ⟨C, 0, none⟩), .int .u64 (t : Int)] wr (fun e w' => e = .returned (.int .i64 0) ∧ Below w.heap.size w w' ∧
      ∃ F' FL' rs' vo', recs rs' = recs rs ++ [l] ∧ CpF F' FL' rs' vo' w D G C s2 nm ⟨t, t, t, k.ops⟩ (laid + 1) false w') := by
  have HK := Lib.hid (keep_serves F FL rs vo w D G C s s1 s2 nm k laid t 0 none 0 0 [] wr h ht hl hnm hops hops1 hrs l hrec hlen e1 e2)
  have hc := h.2.2.2.2.2.2.1
  unfold kcells at hc
  have c0 : wr.cell? ⟨C, 0, none⟩ = some (.int .u64 (k.h : Int)) := cellAt 0 hc
  have c1 : wr.cell? ⟨C, 1, none⟩ = some (.int .u64 (k.s : Int)) := cellAt 1 hc
  have q1 : ¬ (t : Int) < (k.h : Int) := by omega
  have q2 : ¬ (t : Int) ≤ (k.s : Int) := by omega
  have q3 : decide (t < k.h) = false := decide_eq_false (by omega)
  have q4 : decide (t ≤ k.s) = false := decide_eq_false (by omega)
  clear h hc hrec e1 e2
  go_enter Tryd.func18, Tryd.ntmps18
  go_wp2_with fail
  refine HK.out.mono ?_
  rintro e w1 ⟨rfl, hb, hx⟩
  have HX := Lib.hid hx; have HB := Lib.hid hb
  clear hb hx
  go_wp2
  go_ret
  exact ⟨rfl, HB.out, HX.out⟩

theorem ap_on {W W' : World} {g C : Nat} {ot : Nat} {did dtx : M.T} {dtm : Int} {vo : Value} (hb : Below W.heap.size W W') (h : W.cell? ⟨g, 0, none⟩ = some (.int .u64 (ot : Int)) ∧ W.cell? ⟨g, 1, none⟩ = some (.string ⟨did.toArray⟩) ∧ W.cell? ⟨g, 2, none⟩ = some (.int .i64 dtm) ∧ W.cell? ⟨g, 3, none⟩ = some (.string ⟨dtx.toArray⟩) ∧ W.cell? ⟨C, 3, none⟩ = some vo) :
    W'.cell? ⟨g, 0, none⟩ = some (.int .u64 (ot : Int)) ∧ W'.cell? ⟨g, 1, none⟩ = some (.string ⟨did.toArray⟩) ∧ W'.cell? ⟨g, 2, none⟩ = some (.int .i64 dtm) ∧ W'.cell? ⟨g, 3, none⟩ = some (.string ⟨dtx.toArray⟩) ∧ W'.cell? ⟨C, 3, none⟩ = some vo :=
  ⟨cell_on hb h.1, cell_on hb h.2.1, cell_on hb h.2.2.1, cell_on hb h.2.2.2.1, cell_on hb h.2.2.2.2⟩

set_option maxHeartbeats 4000000 in
theorem append_ok (F FL : Nat → Prop) (rs : List Rec) (vo : Value) (w : World) (D G C : Nat) (s s1 s2 : St) (nm : ByteArray) (ks t : Nat) (os : List M.O) (laid : Nat) (d : M.D) (wr : World)
    (h : CpF F FL rs vo w D G C s nm ⟨t, ks, t, os⟩ laid false wr) (ho : M.O.Ok ⟨t, d⟩) (hf : M.formB d.id d.text = true) (hos : os.length ≤ 900000) (hl : laid ≤ 1000000) (hnm : nm.size ≤ 100) (hops : s.ops + 1 < 1099511627776) (hops1 : s1.ops + 1 < 1099511627776) (hrs : rs.length ≤ 1000000) (l : List UInt8) (hrec : M.recB ⟨210, t, os.length, [⟨t, d⟩]⟩ = l) (hlen : l.length ≤ 65535)
    (e1 : lappR s nm l = (0, s1)) (e2 : lsyncR s1 nm (rs.length + 1) = (0, s2)) :
    Calls Tryd.prog 19 #[.pointer (some ⟨C, 0, none⟩), oval ⟨t, d⟩] wr (fun e w' => e = .returned (.int .i64 0) ∧ Below w.heap.size w w' ∧
      ∃ F' FL' rs' vo', recs rs' = recs rs ++ [l] ∧ CpF F' FL' rs' vo' w D G C s2 nm ⟨t, ks, t, os ++ [⟨t, d⟩]⟩ (laid + 1) false w') := by
  have hfo := fun W => form_any d W
  rw [hf] at hfo
  have HFO := Lib.hid hfo
  have H := Lib.hid h
  have ht := ho.term
  have HO := Lib.hid ho
  obtain ⟨did, dtm, dtx⟩ := d
  unfold oval
  unfold dval at HFO
  simp only at HFO ht ⊢
  have hC : C < wr.heap.size := heapLt h.2.2.2.2.2.2.1
  obtain ⟨wa, hwa⟩ : ∃ wa, wa = wr.alloc (.cells #[.int .u64 (t : Int), .string ⟨did.toArray⟩, .int .i64 dtm, .string ⟨dtx.toArray⟩] 26) := ⟨_, rfl⟩
  have hxa : wa.heap[wr.heap.size]? = some (.cells #[.int .u64 (t : Int), .string ⟨did.toArray⟩, .int .i64 dtm, .string ⟨dtx.toArray⟩] 26 (0, 0)) := by rw [hwa]; exact heap_alloc_new wr _
  have HBA := Lib.hid (show Below wr.heap.size wr wa by rw [hwa]; exact (Below.refl _ _).alloc (Nat.le_refl _) _)
  have HXA := Lib.hid hxa
  have x0 : wa.cell? ⟨wr.heap.size, 0, none⟩ = some (.int .u64 (t : Int)) := cellAt 0 hxa
  have x1 : wa.cell? ⟨wr.heap.size, 1, none⟩ = some (.string ⟨did.toArray⟩) := cellAt 1 hxa
  have x2 : wa.cell? ⟨wr.heap.size, 2, none⟩ = some (.int .i64 dtm) := cellAt 2 hxa
  have x3 : wa.cell? ⟨wr.heap.size, 3, none⟩ = some (.string ⟨dtx.toArray⟩) := cellAt 3 hxa
  rw [hwa] at x0 x1 x2 x3
  obtain ⟨Av, cv, hv, hcv1, hcv2⟩ : ∃ Av cv, vo = .slice Av os.length cv ∧ os.length ≤ cv ∧ cv ≤ 9223372036854775807 := by
    rcases h.2.2.2.2.2.2.2.2.2.2.1.2 with ⟨rfl, h0⟩ | ⟨g, cap, cur, rfl, _, _, h1, h2, _⟩
    · have h0 : os.length = 0 := h0
      exact ⟨none, 0, by rw [h0], by omega, by omega⟩
    · exact ⟨_, cap, rfl, h1, by simpa only [maxLen] using h2⟩
  subst hv
  have hws : IntKind.u64.wrap (os.length : Int) = (os.length : Int) := by rw [IntKind.wrap_u64]; omega
  obtain ⟨nn, hnn⟩ : ∃ nn, os.length = nn := ⟨_, rfl⟩
  have HNN := Lib.hid hnn
  rw [hnn] at hws hcv1 hos
  have HE1 := Lib.hid e1; have HE2 := Lib.hid e2; have HREC := Lib.hid hrec
  clear h hf hfo ho hxa e1 e2 hrec hnn
  go_enter Tryd.func19, Tryd.ntmps19
  go_wp2_with fail
  rw [← hwa]
  refine (HFO.out _).mono ?_
  rintro e w1 ⟨rfl, hb1⟩
  have hb01 := HBA.out.trans (hb1.mono HBA.out.size)
  have hcp1 := H.out.below hb01
  have hc1 := hcp1.2.2.2.2.2.2.1
  unfold kcells at hc1
  simp only at hc1
  have hx1 := (hb1.block _ (heapLt HXA.out)).trans HXA.out
  have HCP1 := Lib.hid hcp1
  have hlt1 : wr.heap.size < w1.heap.size := heapLt hx1
  have HX1 := Lib.hid hx1; have HC1 := Lib.hid hc1; have HB01 := Lib.hid hb01
  have y0 : w1.cell? ⟨wr.heap.size, 0, none⟩ = some (.int .u64 (t : Int)) := cellAt (w := w1) 0 hx1
  have c0 : w1.cell? ⟨C, 0, none⟩ = some (.int .u64 (t : Int)) := cellAt (w := w1) 0 hc1
  have c2 : w1.cell? ⟨C, 2, none⟩ = some (.int .u64 (t : Int)) := cellAt (w := w1) 2 hc1
  clear x0 x1 x2 x3 hwa hb1 hb01 hcp1 hc1 hx1
  go_wp2_with fail
  go_quiet (fail)
  obtain ⟨wz, hwz⟩ : ∃ wz, wz = w1.drewN nq := ⟨_, rfl⟩
  have HCZ := Lib.hid (show CpF F FL rs (.slice Av os.length cv) w D G C s nm ⟨t, ks, t, os⟩ laid false wz by
    rw [hwz]; exact HCP1.out.below ⟨rfl, rfl, rfl, Nat.le_refl _, fun _ _ => rfl⟩)
  have hxz : wz.heap[wr.heap.size]? = some (.cells #[.int .u64 (t : Int), .string ⟨did.toArray⟩, .int .i64 dtm, .string ⟨dtx.toArray⟩] 26 (0, 0)) := by rw [hwz]; exact HX1.out
  have hcz : wz.heap[C]? = some (.cells #[.int .u64 (t : Int), .int .u64 (ks : Int), .int .u64 (t : Int), .slice Av nn cv, .pointer (some ⟨G, 0, none⟩), .int .i64 (laid : Int), .bool false] 84 (0, 0)) := by rw [hwz, ← HNN.out]; exact HC1.out
  have HZ := Lib.hid (show wz.drew.cell? ⟨wr.heap.size, 0, none⟩ = some (.int .u64 (t : Int)) ∧ wz.drew.cell? ⟨wr.heap.size, 1, none⟩ = some (.string ⟨did.toArray⟩) ∧ wz.drew.cell? ⟨wr.heap.size, 2, none⟩ = some (.int .i64 dtm) ∧ wz.drew.cell? ⟨wr.heap.size, 3, none⟩ = some (.string ⟨dtx.toArray⟩) ∧ wz.drew.cell? ⟨C, 3, none⟩ = some (.slice Av nn cv) from
    ⟨cellAt (w := wz) 0 hxz, cellAt (w := wz) 1 hxz, cellAt (w := wz) 2 hxz, cellAt (w := wz) 3 hxz, cellAt (w := wz) 3 hcz⟩)
  have hCz : C < wz.heap.size := heapLt hcz
  have hkp : ∀ Wk : World, Below wz.heap.size wz Wk → Wk.heap[wz.heap.size]? = some (.cells #[.int .u64 (t : Int), .string ⟨did.toArray⟩, .int .i64 dtm, .string ⟨dtx.toArray⟩] 26 (0, 0)) → Calls Tryd.prog 40 #[.pointer (some ⟨C, 0, none⟩), .agg #[.int .u8 210, .int .u64 (t : Int), .int .u64 (nn : Int), .slice (some ⟨wz.heap.size, 0, none⟩) 1 1]] Wk (fun e w' => ∃ x, e = .returned x ∧ (x = .int .i64 0 ∧ Below w.heap.size w w' ∧
      ∃ F' FL' rs' vo', recs rs' = recs rs ++ [l] ∧ CpF F' FL' rs' vo' w D G C s2 nm ⟨t, ks, t, os ++ [⟨t, ⟨did, dtm, dtx⟩⟩]⟩ (laid + 1) false w')) := by
    intro Wk hbk hxk
    have hcp := HCZ.out.below hbk
    have hk := keep_adopts F FL rs (.slice Av os.length cv) w D G C s s1 s2 nm ⟨t, ks, t, os⟩ laid t os.length (some ⟨wz.heap.size, 0, none⟩) 1 1 [⟨t, ⟨did, dtm, dtx⟩⟩] _ hcp ht hl hnm hops hops1 hrs l HREC.out hlen HE1.out HE2.out
      (by have := HNN.out; omega)
      (fun w' ht' => by
        have hx : w'.heap[wz.heap.size]? = some (.cells #[.int .u64 (t : Int), .string ⟨did.toArray⟩, .int .i64 dtm, .string ⟨dtx.toArray⟩] 26 (0, 0)) := xcells_far hxk ht' (fun e => by
          rcases e with e | e | e
          · have := HCZ.out.1.foot e; omega
          · have := HCZ.out.2.1.foot e; omega
          · omega)
        refine ⟨rfl, Nat.le_refl _, by omega, fun _ => ⟨wz.heap.size, 0, rfl, heapLt hx, fun i hi => ?_⟩⟩
        have hi' : i < 1 := hi
        obtain rfl : i = 0 := by omega
        exact ⟨cellAt 0 hx, cellAt 1 hx, cellAt 2 hx, cellAt 3 hx⟩)
      (fun o ho' => by simp only [List.mem_singleton] at ho'; rw [ho']; exact HO.out) (Nat.le_refl _) (by have := HNN.out; simp only; omega)
    rw [show (os.take os.length ++ [⟨t, ⟨did, dtm, dtx⟩⟩] : List M.O) = os ++ [⟨t, ⟨did, dtm, dtx⟩⟩] by rw [List.take_length]] at hk
    rw [← HNN.out]
    exact hk.mono (fun e w' h => ⟨_, h.1, rfl, h.2⟩)
  have HKP := Lib.hid hkp
  rw [← hwz]
  obtain ⟨z0, z1, z2, z3, zc⟩ := HZ.out
  have v0 : wz.cell? ⟨wr.heap.size, 0, none⟩ = some (.int .u64 (t : Int)) := z0
  have v1 : wz.cell? ⟨wr.heap.size, 1, none⟩ = some (.string ⟨did.toArray⟩) := z1
  have v2 : wz.cell? ⟨wr.heap.size, 2, none⟩ = some (.int .i64 dtm) := z2
  have v3 : wz.cell? ⟨wr.heap.size, 3, none⟩ = some (.string ⟨dtx.toArray⟩) := z3
  have vc : wz.cell? ⟨C, 3, none⟩ = some (.slice Av nn cv) := zc
  have hrz : wr.heap.size < wz.heap.size := heapLt hxz
  clear hwz hxz hcz y0 c0 c2 hkp
  go_wp2_with fail
  go_region_law (first
    | (refine step_call' (by rfl) 40 #[.pointer (some ⟨C, 0, none⟩), .agg #[.int .u8 210, .int .u64 (t : Int), .int .u64 (nn : Int), .slice (some ⟨wz.heap.size, 0, none⟩) 1 1]] (by simp [Act.eval, go_sem]) (fun x w' => x = .int .i64 0 ∧ Below w.heap.size w w' ∧
      ∃ F' FL' rs' vo', recs rs' = recs rs ++ [l] ∧ CpF F' FL' rs' vo' w D G C s2 nm ⟨t, ks, t, os ++ [⟨t, ⟨did, dtm, dtx⟩⟩]⟩ (laid + 1) false w')
        (HKP.out _ (by first | exact (bel_drewN (Below.refl _ wz) 1).alloc (Nat.le_refl _) _ | exact bel_drewN ((Below.refl _ wz).alloc (Nat.le_refl _) _) 1) (by first | exact heap_alloc_new wz.drew _ | exact heap_alloc_new wz _)) ?_; rintro v9 w9 ⟨rfl, hb9, hx9⟩)
    | fail)
  all_goals
    have HB9 := Lib.hid hb9; have HX9 := Lib.hid hx9
    clear hb9 hx9
    go_wp2
    go_ret
    exact ⟨rfl, HB9.out, HX9.out⟩
end Go.Proofs.YtjdkpcibdjhdoaaDoor
