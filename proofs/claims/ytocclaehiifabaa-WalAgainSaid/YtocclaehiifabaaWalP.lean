/-
  WalAgain: what the disk's states come to (mathematics alone), and the walk.
-/
import Derived.Test.YtocclaehiifabaaWalN
import Derived.BigQuiet
import Derived.Deep.QuietTactic
namespace Go.Proofs.Ytocclaehiifabaa
open Go.RowKit Mem FM
set_option linter.unusedVariables false

section
variable (p q f t x : List UInt8) (k j o n : Nat)
theorem wa0 : openedR (St.new 65536) nmLg = (0, cu [] 0) ∧ (M.scan (readR (St.new 65536) nmLg).1).1 = [] := by
  have hr : readR (St.new 65536) nmLg = ([], 8) := by unfold readR; rw [show (St.new 65536).off = false from rfl, if_pos rG]; rfl
  have hd : droppedR (St.new 65536) nmLg = (0, cu [] 0) := by
    unfold droppedR removed
    rw [nmN_lg, show (St.new 65536).off = false from rfl, if_pos rN]
    rfl
  have hs : M.scan [] = ([], 0) := M.scan_all [] (by simp)
  rw [hr, hs]
  refine ⟨?_, rfl⟩
  unfold openedR
  rw [hr, hd, hs, if_neg (by simp), if_neg (by simp), if_neg (by simp)]
theorem wa1 (h : (M.frame f).length ≤ 5000) : lappR (cu [] 0) nmLg f = (0, cu [fg (M.frame f) 0] 1) := ca1 (M.frame f) h
theorem wa2 : lsyncR (cu [fg p k] 1) nmLg n = (0, cu [fg p p.length] 2) := by
  unfold lsyncR
  rw [ca2, if_neg (by simp)]
theorem wa3 (h : p.length + (M.frame t).length ≤ 20000) : lappR (cu [fg p k] o) nmLg t = (0, cu [fg (p ++ M.frame t) k] (o + 1)) := by
  unfold lappR appended
  rw [show (cu [fg p k] o).off = false from rfl, if_pos rG]
  unfold wrote
  rw [if_neg (by show ¬ (65536 - (p.length + 0) < (M.frame t).length); omega)]
  rfl
theorem wa7 : lsyncR (cu [fg p k] o) nmLg n = (0, cu [fg p p.length] (o + 1)) := by
  have h : synced (cu [fg p k] o) nmLg = (0, cu [fg p p.length] (o + 1)) := by
    unfold synced
    rw [show (cu [fg p k] o).off = false from rfl, if_pos rG]
    rfl
  unfold lsyncR
  rw [h, if_neg (by simp)]
theorem wa4 (ks : List Int) : restarted (cu [fg p k] o) ks = cu [fg (p.take (left p.length k (ks[0]?.getD 0))) (left p.length k (ks[0]?.getD 0))] o := rfl
theorem wa8 (ks : List Int) : restarted (cu [fg p p.length] o) ks = cu [fg p p.length] o := by
  rw [wa4]
  have h := left_le (n := p.length) (sure := p.length) (keep := ks[0]?.getD 0) (Nat.le_refl _)
  have e : left p.length p.length (ks[0]?.getD 0) = p.length := by omega
  rw [e, List.take_length]
/-- nothing is cut off where the records fill the file -/
theorem wa9 (ls : List (List UInt8)) (hl : ∀ y ∈ ls, y.length ≤ 65535) : openedR (cu [fg (M.frames ls) k] o) nmLg = (0, cu [fg (M.frames ls) k] o) ∧ (M.scan (readR (cu [fg (M.frames ls) k] o) nmLg).1).1 = ls := by
  have hs := M.scan_all ls hl
  rw [cread1]
  refine ⟨?_, by rw [hs]⟩
  unfold openedR
  rw [cread1, cdr2, hs, if_neg (by simp), if_neg (by simp), if_neg (by simp)]
/-- what a fall leaves of a record that was synced and of one that wasn't -/
theorem wa5 (m : Nat) (hf : f.length ≤ 3000) (ht : t.length ≤ 3000) (h1 : (M.frame f).length ≤ m) (h2 : m ≤ (M.frame f ++ M.frame t).length) :
    ∃ ls o', (ls = [f] ∨ ls = [f, t]) ∧ o' ≤ o + 3 ∧ openedR (cu [fg ((M.frame f ++ M.frame t).take m) m] o) nmLg = (0, cu [fg (M.frames ls) (M.frames ls).length] o') ∧ (M.scan (readR (cu [fg ((M.frame f ++ M.frame t).take m) m] o) nmLg).1).1 = ls := by
  have e1 : M.frames [f] = M.frame f := by simp [M.frames]
  have e2 : M.frames [f, t] = M.frame f ++ M.frame t := by simp [M.frames]
  have hlf : ∀ y ∈ [f], y.length ≤ 65535 := by intro y hy; simp only [List.mem_singleton] at hy; subst hy; omega
  by_cases hm : m = (M.frame f ++ M.frame t).length
  · refine ⟨[f, t], o, .inr rfl, by omega, ?_⟩
    have := wa9 m o [f, t] (by intro y hy; simp only [List.mem_cons, List.not_mem_nil, or_false] at hy; rcases hy with rfl | rfl <;> omega)
    rw [e2] at this ⊢
    rw [hm, List.take_length]
    rw [hm] at this
    exact this
  · refine ⟨[f], ?_⟩
    have ht1 : (M.frame f ++ M.frame t).take m = M.frames [f] ++ (M.frame t).take (m - (M.frame f).length) := by
      rw [e1, List.take_append, List.take_of_length_le h1]
    have hk : m - (M.frame f).length < (M.frame t).length := by rw [List.length_append] at h2 hm; omega
    have hs := M.scan_frames [f] ((M.frame t).take (m - (M.frame f).length)) hlf (M.rdFrame_torn t (by omega) _ hk)
    have hfl := M.frame_len f; have hul := uv_small f.length
    have hlen : (M.frames [f] ++ (M.frame t).take (m - (M.frame f).length)).length = m := by rw [← ht1, List.length_take]; omega
    rw [ht1, cread1]
    by_cases hlt : (M.frame f).length < m
    · refine ⟨o + 3, .inl rfl, by omega, ?_, by rw [hs]⟩
      unfold openedR
      rw [cread1, cdr2, hs, if_neg (by simp), if_neg (by simp)]
      simp only
      have hmb : m ≤ 6100 := by have := M.frame_len t; have := uv_small t.length; rw [List.length_append] at h2; omega
      have hlen' := hlen
      rw [e1] at hlen'
      rw [hlen, e1, if_pos hlt, List.take_left, crep _ (M.frame f) m o (by rw [hlen']; omega)]
    · refine ⟨o, .inl rfl, by omega, ?_, by rw [hs]⟩
      have hmm : m = (M.frame f).length := by omega
      unfold openedR
      rw [cread1, cdr2, hs, if_neg (by simp), if_neg (by simp)]
      simp only
      rw [hlen, e1, if_neg hlt, hmm, Nat.sub_self, List.take_zero, List.append_nil]
end
end Go.Proofs.Ytocclaehiifabaa
namespace Go.Proofs.Ytocclaehiifabaa
open Go.RowKit Mem FM
set_option linter.unusedVariables false
set_option maxRecDepth 100000

theorem firm_low {F : Nat → Prop} {w : World} {B n c : Nat} {A : Option Addr} {l : List UInt8} (h : Rd w B A n c l) (hB : B ≤ w.heap.size) (hF : ∀ k, F k → B ≤ k) : Firm F w A n c l := fun w' ht =>
  (h.keep fun p hp => ht.cell (by omega) (fun hf => by have := hF _ hf; omega)).more (Nat.le_trans hB ht.size)
theorem frame_small (x : List UInt8) (h : x.length ≤ 3000) : (M.frame x).length ≤ 3100 := by have := M.frame_len x; have := uv_small x.length; omega

set_option maxHeartbeats 4000000 in
theorem walAgain_any (A1 : Option Addr) (n1 c1 : Nat) (f : List UInt8) (A2 : Option Addr) (n2 c2 : Nat) (t : List UInt8) (A3 : Option Addr) (n3 c3 : Nat) (x : List UInt8) (keep : Int) (w : World)
    (h1 : Rd w w.heap.size A1 n1 c1 f) (hz1 : c1 ≤ 140737488351232) (h2 : Rd w w.heap.size A2 n2 c2 t) (hz2 : c2 ≤ 140737488351232) (h3 : Rd w w.heap.size A3 n3 c3 x) (hz3 : c3 ≤ 140737488351232) (hk1 : -9223372036854775808 ≤ keep) (hk2 : keep ≤ 9223372036854775807) :
    Calls Try.prog 5 #[.slice A1 n1 c1, .slice A2 n2 c2, .slice A3 n3 c3, .int .i64 keep] w (fun e w' => e = .returned (.bool true) ∧ Below w.heap.size w w') := by
  have hc1 := h1.cap; have hc2 := h2.cap; have hc3 := h3.cap
  have HAW := Lib.hid (fun w => awake_any w)
  have HR1 := Lib.hid h1; have HR2 := Lib.hid h2; have HR3 := Lib.hid h3
  have HN1 := Lib.hid h1.len; have HN2 := Lib.hid h2.len; have HN3 := Lib.hid h3.len
  clear h1 h2 h3
  by_cases hbig : 3000 < n1 + n2 + n3
  · have hq : (3000 : Int) < (n1 : Int) + (n2 : Int) + (n3 : Int) := by omega
    go_enter Try.func5, Try.ntmps5
    go_wp2_with fail
    refine (HAW.out _).mono ?_
    rintro e w1 ⟨rfl, hb1⟩
    have HB1 := Lib.hid hb1
    clear hb1
    go_wp2_with fail
    refine (HAW.out _).mono ?_
    rintro e w2 ⟨rfl, hb2⟩
    have HB2 := Lib.hid (HB1.out.trans (hb2.mono HB1.out.size))
    clear hb2
    go_wp2
    go_ret
    exact ⟨rfl, HB2.out⟩
  have hq : ¬ (3000 : Int) < (n1 : Int) + (n2 : Int) + (n3 : Int) := by omega
  have HF := Lib.hid (show f.length ≤ 3000 by have := HN1.out; omega)
  have HT := Lib.hid (show t.length ≤ 3000 by have := HN2.out; omega)
  have HX := Lib.hid (show x.length ≤ 3000 by have := HN3.out; omega)
  have HFF := Lib.hid (frame_small f HF.out)
  have HFT := Lib.hid (frame_small t HT.out)
  have HFX := Lib.hid (frame_small x HX.out)
  go_enter Try.func5, Try.ntmps5
  go_wp2_with fail
  refine (HAW.out _).mono ?_
  rintro e w1 ⟨rfl, hb1⟩
  have HB1 := Lib.hid hb1
  clear hb1
  go_wp2_with fail
  refine (new_any 65536 w1 (by omega)).mono ?_
  rintro e w2 ⟨D, F, rfl, hd, hF, hb2⟩
  have HB2 := Lib.hid (HB1.out.trans (hb2.mono HB1.out.size))
  have HF2 := Lib.hid (show ∀ k, F k → w.heap.size ≤ k from fun k hk => Nat.le_trans HB1.out.size (hF k hk))
  have ho := open_ok D F (St.new 65536) nmLg w2 hd (by decide) (by decide) (by decide) (by rw [wa0.1])
  rw [wa0.1, wa0.2] at ho
  have HO := Lib.hid ho
  clear hd hF hb2 ho
  go_wp2_with fail
  refine HO.out.mono ?_
  rintro e w3 hopd
  obtain ⟨G, rfl, hwal⟩ := Wal.of_opened hopd HF2.out HB2.out
  obtain ⟨F3, FL3, rs3, a1, a2, a3, a4, a5, a6, a7⟩ := hwal
  have hrl3 : rs3.length = 0 := by have := congrArg List.length a3; simpa [recs] using this
  have hap := lappend_any D G 0 F3 FL3 (cu [] 0) nmLg rs3 A1 n1 c1 f w3 a1 a2 a4 (by decide) (by decide) (firm_low (HR1.out.below a7) a7.size a5) (by have := HN1.out; have := HF.out; omega) (by omega)
  rw [wa1 f (by have := HFF.out; omega), a3] at hap
  have HAP := Lib.hid hap; have H5 := Lib.hid a5; have H6 := Lib.hid a6; have H7 := Lib.hid a7
  clear hopd a1 a2 a3 a4 a5 a6 a7 hap HO
  go_wp2_with fail
  refine HAP.out.mono ?_
  rintro e w4 hdid
  obtain ⟨rfl, hwal⟩ := Wal.of_did hdid H5.out H6.out H7.out
  have hwal : Wal w D G (cu [fg (M.frame f) 0] 1) nmLg [f] w4 := hwal
  obtain ⟨F4, FL4, rs4, a1, a2, a3, a4, a5, a6, a7⟩ := hwal
  have hsy := lsync_any D G F4 FL4 (cu [fg (M.frame f) 0] 1) nmLg rs4 w4 a1 a2 a4 (by decide) (by show 1 + 1 < _; decide)
  rw [wa2] at hsy
  have HSY := Lib.hid hsy
  have HL4 := Lib.hid a2; have H44 := Lib.hid a4; have H5' := Lib.hid a5; have H6' := Lib.hid a6; have H7' := Lib.hid a7; have H3' := Lib.hid a3
  clear hdid a1 a2 a3 a4 a5 a6 a7 hsy HAP H5 H6 H7
  go_wp2_with fail
  refine HSY.out.mono ?_
  rintro e w5 hdid
  obtain ⟨rfl, hwal⟩ := Wal.of_disk hdid HL4.out H44.out H5'.out H6'.out H7'.out
  rw [H3'.out] at hwal
  obtain ⟨F5, FL5, rs5, a1, a2, a3, a4, a5, a6, a7⟩ := hwal
  have hrl5 : rs5.length = 1 := by have := congrArg List.length a3; simpa [recs] using this
  have hap := lappend_any D G 0 F5 FL5 _ nmLg rs5 A2 n2 c2 t w5 a1 a2 a4 (by decide) (by show 2 + 1 < _; decide) (firm_low (HR2.out.below a7) a7.size a5) (by have := HN2.out; have := HT.out; omega) (by omega)
  rw [wa3 (M.frame f) t _ 2 (by have := HFF.out; have := HFT.out; omega), a3] at hap
  have HAP := Lib.hid hap; have H5 := Lib.hid a5; have H6 := Lib.hid a6; have H7 := Lib.hid a7
  clear hdid a1 a2 a3 a4 a5 a6 a7 hap HSY HL4 H44 H5' H6' H7' H3'
  go_wp2_with fail
  refine HAP.out.mono ?_
  rintro e w6 hdid
  obtain ⟨rfl, hwal⟩ := Wal.of_did hdid H5.out H6.out H7.out
  obtain ⟨F6, FL6, rs6, a1, a2, a3, a4, a5, a6, a7⟩ := hwal
  have hre := restart_any D (w6.heap.size + 1) F6 _ _ 1 1 [keep] _ (a1.alloc (.cells #[.int .i64 keep] 3)) (rdv_one w6 3 (.int .i64 keep)) (by simp) (fun a ha hk => by injection ha with ha; subst ha; exact absurd (a1.foot hk) (by simp)) (by simp; omega)
  rw [wa4] at hre
  have HRE := Lib.hid hre
  have H5' := Lib.hid a5; have H7' := Lib.hid (a7.alloc a7.size (.cells #[.int .i64 keep] 3))
  clear hdid a1 a2 a3 a4 a5 a6 a7 HAP H5 H6 H7 hre
  have hlf := left_le (n := (M.frame f ++ M.frame t).length) (sure := (M.frame f).length) (keep := ([keep] : List Int)[0]?.getD 0) (by simp)
  generalize left (M.frame f ++ M.frame t).length (M.frame f).length (([keep] : List Int)[0]?.getD 0) = mm at *
  obtain ⟨ls, o', hls, ho', hop, hsc⟩ := wa5 f t 3 mm HF.out HT.out hlf.1 hlf.2
  go_wp2_with fail
  refine HRE.out.mono ?_
  rintro e w7 hdid
  obtain ⟨rfl, F7, hd7, hF7, hb7⟩ := hdid.step H5'.out H7'.out
  have ho := open_ok D F7 _ nmLg w7 hd7 (by decide) (by decide) (by show 3 + 20 < _; decide) (by rw [show (2 + 1 : Nat) = 3 from rfl, hop])
  rw [show (2 + 1 : Nat) = 3 from rfl, hop, hsc] at ho
  have HO := Lib.hid ho; have HF7 := Lib.hid hF7; have HB7 := Lib.hid hb7
  clear hdid hd7 hF7 hb7 ho HRE H5' H7' hop hsc
  go_wp2_with fail
  refine HO.out.mono ?_
  rintro e w8 hopd
  obtain ⟨G8, rfl, hwal⟩ := Wal.of_opened hopd HF7.out HB7.out
  obtain ⟨F8, FL8, rs8, a1, a2, a3, a4, a5, a6, a7⟩ := hwal
  have hln8 : rs8.length = ls.length := by have := congrArg List.length a3; simpa [recs] using this
  have hlsl : ls.length = 1 ∨ ls.length = 2 := by rcases hls with rfl | rfl <;> simp
  have HLSB := Lib.hid (show ∀ y ∈ ls ++ [x], y.length ≤ 65535 by
    intro y hy
    have hy1 := HF.out; have hy2 := HT.out; have hy3 := HX.out
    rcases hls with rfl | rfl <;> simp only [List.cons_append, List.nil_append, List.mem_cons, List.not_mem_nil, or_false] at hy
    · rcases hy with rfl | rfl <;> omega
    · rcases hy with rfl | rfl | rfl <;> omega)
  have HLSF := Lib.hid (show (M.frames ls).length + (M.frame x).length ≤ 20000 by
    have h1 := HFF.out; have h2 := HFT.out; have h3 := HFX.out
    rcases hls with rfl | rfl <;> simp [M.frames] <;> omega)
  have hle := len_any G8 D FL8 nmLg rs8 w8 a2
  rw [hln8] at hle
  have HLE := Lib.hid hle
  have hap := lappend_any D G8 0 F8 FL8 _ nmLg rs8 A3 n3 c3 x w8 a1 a2 a4 (by decide) (by show o' + 1 < _; omega) (firm_low (HR3.out.below a7) a7.size a5) (by have := HN3.out; have := HX.out; omega) (by omega)
  rw [wa3 (M.frames ls) x _ o' HLSF.out, a3] at hap
  have HAP := Lib.hid hap; have H5 := Lib.hid a5; have H6 := Lib.hid a6; have H7 := Lib.hid a7
  have HLS := Lib.hid hls
  clear hopd a1 a2 a3 a4 a5 a6 a7 hap HO hle hls hln8
  obtain ⟨nl, hnl⟩ : ∃ nl, ls.length = nl := ⟨_, rfl⟩
  have HNL := Lib.hid hnl
  rw [hnl] at HLE hlsl
  clear hnl
  go_wp2_with fail
  refine HLE.out.mono ?_
  rintro e w9 ⟨rfl, rfl⟩
  go_wp2_with fail
  refine HAP.out.mono ?_
  rintro e w10 hdid
  obtain ⟨rfl, hwal⟩ := Wal.of_did hdid H5.out H6.out H7.out
  obtain ⟨F10, FL10, rs10, a1, a2, a3, a4, a5, a6, a7⟩ := hwal
  have hsy := lsync_any D G8 F10 FL10 _ nmLg rs10 w10 a1 a2 a4 (by decide) (by show o' + 1 + 1 < _; omega)
  rw [wa7] at hsy
  have HSY := Lib.hid hsy
  have HL10 := Lib.hid a2; have H44 := Lib.hid a4; have H5' := Lib.hid a5; have H6' := Lib.hid a6; have H7' := Lib.hid a7
  clear hdid a1 a2 a3 a4 a5 a6 a7 hsy HAP H5 H6 H7
  go_wp2_with fail
  refine HSY.out.mono ?_
  rintro e w11 hdid
  obtain ⟨rfl, hwal⟩ := Wal.of_disk hdid HL10.out H44.out H5'.out H6'.out H7'.out
  obtain ⟨F11, FL11, rs11, a1, a2, a3, a4, a5, a6, a7⟩ := hwal
  have hre := restart_any D 0 F11 _ none 0 0 [] w11 a1 RdV.none_ (Nat.zero_le _) (fun a ha => by cases ha) (by simp)
  rw [wa8] at hre
  have HRE := Lib.hid hre
  have H5 := Lib.hid a5; have H7 := Lib.hid a7
  clear hdid a1 a2 a3 a4 a5 a6 a7 hre HSY HL10 H44 H5' H6' H7'
  go_wp2_with fail
  refine HRE.out.mono ?_
  rintro e w12 hdid
  obtain ⟨rfl, F12, hd12, hF12, hb12⟩ := hdid.step H5.out H7.out
  have hop9 := wa9 (M.frames ls ++ M.frame x).length (o' + 1 + 1) (ls ++ [x]) HLSB.out
  rw [M.frames_snoc] at hop9
  have ho := open_ok D F12 _ nmLg w12 hd12 (by decide) (by decide) (by show o' + 1 + 1 + 20 < _; omega) (by rw [hop9.1])
  rw [hop9.1, hop9.2] at ho
  have HO := Lib.hid ho; have HF12 := Lib.hid hF12; have HB12 := Lib.hid hb12
  clear hdid hd12 hF12 hb12 ho HRE H5 H7 hop9
  go_wp2_with fail
  refine HO.out.mono ?_
  rintro e w13 hopd
  obtain ⟨G13, rfl, hwal⟩ := Wal.of_opened hopd HF12.out HB12.out
  obtain ⟨F13, FL13, rs13, a1, a2, a3, a4, a5, a6, a7⟩ := hwal
  have hrl13 : rs13.length = nl + 1 := by have := congrArg List.length a3; rw [List.length_append, HNL.out] at this; simpa [recs] using this
  have HAL := Lib.hid (all_any G13 D FL13 nmLg rs13 w13 a2 (by omega))
  have HE13 := Lib.hid a3; have HB13 := Lib.hid a7
  clear hopd a1 a2 a3 a4 a5 a6 a7 HO
  go_wp2_with fail
  refine HAL.out.mono ?_
  rintro e w14 ⟨A14, n14, c14, ls14, rfl, hr14, he14, hb14⟩
  have k14 := hr14.rdl
  rw [he14, HE13.out] at k14
  have HB14 := Lib.hid (HB13.out.trans (hb14.mono HB13.out.size))
  have hn14 : n14 = nl + 1 := by rw [k14.1, List.length_append, HNL.out]; rfl
  have hc14 := k14.2.1
  have hm14 := k14.2.2.1
  have HK := Lib.hid k14
  clear hr14 he14 hb14 k14 HAL
  subst hn14
  rcases HLS.out with hls | hls
  · have hnl : nl = 1 := by rw [← HNL.out, hls]; rfl
    subst hnl
    rw [hls] at HK
    simp only [List.cons_append, List.nil_append] at HK
    clear hls hlsl
    obtain ⟨g0, o0, B0, m0, e0, x0, q0, r0⟩ := HK.out.2.2.2 0 (by simp)
    have y0 := fun k => run_str (P := Try.prog) (w14.drewN k) _ 22 9 5 Try.underlying22 Try.underlying5 Try.underlying9 _ _ _ _ (r0.drewN k)
    have z0 := fun k => run_str (P := Try.prog) (w14.drewN k) _ 22 9 5 Try.underlying22 Try.underlying5 Try.underlying9 _ _ _ _ (((HR1.out.below HB14.out)).drewN k)
    obtain ⟨g1, o1, B1, m1, e1, x1, q1, r1⟩ := HK.out.2.2.2 1 (by simp)
    have y1 := fun k => run_str (P := Try.prog) (w14.drewN k) _ 22 9 5 Try.underlying22 Try.underlying5 Try.underlying9 _ _ _ _ (r1.drewN k)
    have z1 := fun k => run_str (P := Try.prog) (w14.drewN k) _ 22 9 5 Try.underlying22 Try.underlying5 Try.underlying9 _ _ _ _ (((HR3.out.below HB14.out)).drewN k)
    subst x0
    injection x1 with x1
    injection x1 with xa1 xb1 _
    subst xa1 xb1
    simp only [List.getElem_cons_zero, List.getElem_cons_succ, Nat.add_zero] at q0 r0 y0 q1 r1 y1
    generalize (⟨f.toArray⟩ : ByteArray) = T0 at y0 z0
    generalize (⟨x.toArray⟩ : ByteArray) = T1 at y1 z1
    clear r0 r1
    go_wp2_with fail
    go_quiet (fail)
    go_wp2
    go_ret
    exact ⟨rfl, ⟨HB14.out.os, HB14.out.tape, HB14.out.output, HB14.out.size, HB14.out.block⟩⟩
  · have hnl : nl = 2 := by rw [← HNL.out, hls]; rfl
    subst hnl
    rw [hls] at HK
    simp only [List.cons_append, List.nil_append] at HK
    clear hls hlsl
    obtain ⟨g0, o0, B0, m0, e0, x0, q0, r0⟩ := HK.out.2.2.2 0 (by simp)
    have y0 := fun k => run_str (P := Try.prog) (w14.drewN k) _ 22 9 5 Try.underlying22 Try.underlying5 Try.underlying9 _ _ _ _ (r0.drewN k)
    have z0 := fun k => run_str (P := Try.prog) (w14.drewN k) _ 22 9 5 Try.underlying22 Try.underlying5 Try.underlying9 _ _ _ _ (((HR1.out.below HB14.out)).drewN k)
    obtain ⟨g1, o1, B1, m1, e1, x1, q1, r1⟩ := HK.out.2.2.2 1 (by simp)
    have y1 := fun k => run_str (P := Try.prog) (w14.drewN k) _ 22 9 5 Try.underlying22 Try.underlying5 Try.underlying9 _ _ _ _ (r1.drewN k)
    have z1 := fun k => run_str (P := Try.prog) (w14.drewN k) _ 22 9 5 Try.underlying22 Try.underlying5 Try.underlying9 _ _ _ _ (((HR2.out.below HB14.out)).drewN k)
    obtain ⟨g2, o2, B2, m2, e2, x2, q2, r2⟩ := HK.out.2.2.2 2 (by simp)
    have y2 := fun k => run_str (P := Try.prog) (w14.drewN k) _ 22 9 5 Try.underlying22 Try.underlying5 Try.underlying9 _ _ _ _ (r2.drewN k)
    have z2 := fun k => run_str (P := Try.prog) (w14.drewN k) _ 22 9 5 Try.underlying22 Try.underlying5 Try.underlying9 _ _ _ _ (((HR3.out.below HB14.out)).drewN k)
    subst x0
    injection x1 with x1
    injection x1 with xa1 xb1 _
    subst xa1 xb1
    injection x2 with x2
    injection x2 with xa2 xb2 _
    subst xa2 xb2
    simp only [List.getElem_cons_zero, List.getElem_cons_succ, Nat.add_zero] at q0 r0 y0 q1 r1 y1 q2 r2 y2
    generalize (⟨f.toArray⟩ : ByteArray) = T0 at y0 z0
    generalize (⟨t.toArray⟩ : ByteArray) = T1 at y1 z1
    generalize (⟨x.toArray⟩ : ByteArray) = T2 at y2 z2
    clear r0 r1 r2
    go_wp2_with fail
    go_quiet (fail)
    go_wp2
    go_ret
    exact ⟨rfl, ⟨HB14.out.os, HB14.out.tape, HB14.out.output, HB14.out.size, HB14.out.block⟩⟩
end Go.Proofs.Ytocclaehiifabaa
