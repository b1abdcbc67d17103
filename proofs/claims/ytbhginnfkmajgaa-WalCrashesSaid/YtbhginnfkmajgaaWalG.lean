/-
  awake of layer 4, by the contracts.
-/
import Derived.Test.YtbhginnfkmajgaaWalF
import Derived.Lib.SlBytesConst
namespace Go.Proofs.Ytbhginnfkmajgaa
open Go.RowKit Mem FM
set_option linter.unusedVariables false
set_option maxRecDepth 100000

def ws0 : St := St.new 1000
def ws1 : St := (openedR ws0 nmA).2
def ws2 : St := (lappR ws1 nmA [120]).2
def ws3 : St := (lsyncR ws2 nmA 1).2
def ws4 : St := (lappR ws3 nmA [121]).2
def ws5 : St := restarted ws4 [3]
theorem wo1 : (openedR ws0 nmA).1 = 0 := by decide +kernel
theorem wr1 : (M.scan (readR ws0 nmA).1).1 = [] := by decide +kernel
theorem wo2 : (lappR ws1 nmA [120]).1 = 0 := by decide +kernel
theorem wo3 : (lsyncR ws2 nmA 1).1 = 0 := by decide +kernel
theorem wo4 : (lappR ws3 nmA [121]).1 = 0 := by decide +kernel
theorem wo6 : (openedR ws5 nmA).1 = 0 := by decide +kernel
theorem wr6 : (M.scan (readR ws5 nmA).1).1.length = 1 := by decide +kernel
theorem wops : ws0.ops + 20 < 1099511627776 ∧ ws1.ops + 1 < 1099511627776 ∧ ws2.ops + 1 < 1099511627776 ∧ ws3.ops + 1 < 1099511627776 ∧ ws5.ops + 20 < 1099511627776 := by decide +kernel

/-- bytes that have just been laid -/
theorem firm_fresh {F : Nat → Prop} (w : World) (cs : Array Value) (e : TypeId) (m : Nat × Nat) (l : List UInt8) (hl : cs.toList = bcells l) (hn : l.length ≤ 9223372036854775807) (hF : ∀ k, F k → k < w.heap.size) :
    Firm F (w.alloc (.cells cs e m)) (some ⟨w.heap.size, 0, none⟩) l.length l.length l := fun w' ht => by
  have h := Rd.fresh w cs e m l hl hn
  refine ⟨h.1, h.2.1, h.2.2.1, fun h0 => ?_⟩
  obtain ⟨b, off, e1, hb, hc⟩ := h.2.2.2 h0
  injection e1 with e1
  injection e1 with e2 e3 e4
  subst e2 e3
  refine ⟨w.heap.size, 0, rfl, by have := ht.size; simp at this; omega, fun j hj => ?_⟩
  rw [ht.cell (p := ⟨w.heap.size, 0 + j, none⟩) (by simp) (fun hf => by have := hF _ hf; have h2 : w.heap.size < w.heap.size := this; omega)]
  exact hc j hj

/-- the disk and the log, seen from the world in which their owner began -/
def Wal (w : World) (D G : Nat) (s : St) (nm : ByteArray) (ls : List (List UInt8)) (wr : World) : Prop :=
  ∃ F FL rs, DiskAt wr F D s ∧ LogAt wr FL G D nm rs ∧ recs rs = ls ∧ (∀ k, FL k → ¬ F k) ∧ (∀ k, F k → w.heap.size ≤ k) ∧ (∀ k, FL k → w.heap.size ≤ k) ∧ Below w.heap.size w wr

theorem Wal.of_opened {w wr w' : World} {F : Nat → Prop} {D : Nat} {s' : St} {nm : ByteArray} {ls : List (List UInt8)} {e : Ending} (h : Opened F D s' nm ls wr e w') (hF : ∀ k, F k → w.heap.size ≤ k) (hb : Below w.heap.size w wr) : ∃ G, e = .returned (.tuple #[.pointer (some ⟨G, 0, none⟩), .int .i64 0]) ∧ Wal w D G s' nm ls w' := by
  obtain ⟨G, FL, rs, F', h1, h2, h3, h4, h5, h6, h7, h8⟩ := h
  exact ⟨G, h1, F', FL, rs, h4, h2, h3, h6, fun k hk => (h8 k hk).elim (hF k) (fun h => Nat.le_trans hb.size h), fun k hk => Nat.le_trans hb.size (h5 k hk), hb.trans (h7.below hb.size hF)⟩
theorem Wal.of_did {w wr w' : World} {F FL : Nat → Prop} {D G : Nat} {x : Int} {s' : St} {nm : ByteArray} {ls : List (List UInt8)} {e : Ending} (h : WalDid F FL D G x s' nm ls wr e w') (hF : ∀ k, F k → w.heap.size ≤ k) (hFL : ∀ k, FL k → w.heap.size ≤ k) (hb : Below w.heap.size w wr) : e = .returned (.int .i64 x) ∧ Wal w D G s' nm ls w' := by
  obtain ⟨h1, F', FL', rs, h2, h3, h4, h5, h6, h7, h8⟩ := h
  exact ⟨h1, F', FL', rs, h2, h3, h4, h5, fun k hk => (h7 k hk).elim (hF k) (fun h => Nat.le_trans hb.size h), fun k hk => (h8 k hk).elim (hFL k) (fun h => Nat.le_trans hb.size h), hb.trans (h6.below hb.size (fun k hk => hk.elim (hF k) (hFL k)))⟩
/-- a call of the disk beside the log -/
theorem Wal.of_disk {w wr w' : World} {F FL : Nat → Prop} {D G : Nat} {x : Int} {s' : St} {nm : ByteArray} {rs : List Rec} {e : Ending} (h : Did F D x s' wr e w') (hl : LogAt wr FL G D nm rs) (hap : ∀ k, FL k → ¬ F k) (hF : ∀ k, F k → w.heap.size ≤ k) (hFL : ∀ k, FL k → w.heap.size ≤ k) (hb : Below w.heap.size w wr) : e = .returned (.int .i64 x) ∧ Wal w D G s' nm (recs rs) w' := by
  obtain ⟨h1, F', h2, h3, h4⟩ := h
  exact ⟨h1, F', FL, rs, h2, hl.turned h3 hap, rfl, fun k hk hf => (h4 k hf).elim (hap k hk) (fun h => by have := hl.foot hk; omega), fun k hk => (h4 k hk).elim (hF k) (fun h => Nat.le_trans hb.size h), hFL, hb.trans (h3.below hb.size hF)⟩
theorem Wal.alloc {w wr : World} {D G : Nat} {s : St} {nm : ByteArray} {ls : List (List UInt8)} (h : Wal w D G s nm ls wr) (o : Obj) : Wal w D G s nm ls (wr.alloc o) := by
  obtain ⟨F, FL, rs, h1, h2, h3, h4, h5, h6, h7⟩ := h
  exact ⟨F, FL, rs, h1.alloc o, h2.below ((Below.refl _ wr).alloc (Nat.le_refl _) o), h3, h4, h5, h6, h7.alloc h7.size o⟩

set_option maxHeartbeats 2000000 in
theorem awake_any (w : World) : Calls Try.prog 4 #[] w (Yes w) := by
  have kc := fun (w : World) (C : Array Value) (n c : Nat) => Lib.run_convert_bytes_const (P := Try.prog) w 34 5 C n c Try.underlying34 Try.underlying5
  obtain ⟨o1, o2, o3, o4, o5⟩ := wops
  have O1 := Lib.hid o1; have O2 := Lib.hid o2; have O3 := Lib.hid o3; have O4 := Lib.hid o4; have O5 := Lib.hid o5
  clear o1 o2 o3 o4 o5
  go_enter Try.func4, Try.ntmps4
  go_wp2_with fail
  refine (new_any 1000 w (by omega)).mono ?_
  rintro e w1 ⟨D, F, rfl, hd, hF, hb1⟩
  have HOP := Lib.hid (open_ok D F ws0 nmA w1 hd (by decide) (by decide) O1.out wo1)
  have HF := Lib.hid hF; have HB := Lib.hid hb1
  clear hd hF hb1
  go_wp2_with fail
  refine HOP.out.mono ?_
  rintro e w2 hop
  rw [wr1] at hop
  obtain ⟨G, rfl, hwal⟩ := Wal.of_opened hop HF.out HB.out
  obtain ⟨F2, FL2, rs2, a1, a2, a3, a4, a5, a6, a7⟩ := hwal
  have hrl : rs2.length = 0 := by have := congrArg List.length a3; simpa [recs] using this
  have HAP := Lib.hid (lappend_any D G 0 F2 FL2 ws1 nmA rs2 _ 1 1 [120] _ (a1.alloc (.cells #[.int .u8 120] 5 (1, 2))) (a2.below ((Below.refl _ w2).alloc (Nat.le_refl _) _)) a4 (by decide) O2.out (firm_fresh w2 #[.int .u8 120] 5 (1, 2) [120] rfl (by decide) (fun k hk => a1.foot hk)) (by decide) (by omega))
  have H5 := Lib.hid a5; have H6 := Lib.hid a6; have H7 := Lib.hid (a7.alloc a7.size (.cells #[.int .u8 120] 5 (1, 2))); have H3 := Lib.hid a3
  clear hop a1 a2 a3 a4 a5 a6 a7 HOP HF HB
  go_wp2_with fail
  refine HAP.out.mono ?_
  rintro e w3 hdid
  rw [wo2, H3.out] at hdid
  obtain ⟨rfl, hwal⟩ := Wal.of_did hdid H5.out H6.out H7.out
  have hwal : Wal w D G ws2 nmA [[120]] w3 := hwal
  obtain ⟨F3, FL3, rs3, a1, a2, a3, a4, a5, a6, a7⟩ := hwal
  have hrl3 : rs3.length = 1 := by have := congrArg List.length a3; simpa [recs] using this
  have hsy := lsync_any D G F3 FL3 ws2 nmA rs3 w3 a1 a2 a4 (by decide) O3.out
  rw [hrl3] at hsy
  have HSY := Lib.hid hsy
  have HL3 := Lib.hid a2; have H4 := Lib.hid a4; have H5' := Lib.hid a5; have H6' := Lib.hid a6; have H7' := Lib.hid a7; have H3' := Lib.hid a3
  clear hdid a1 a2 a3 a4 a5 a6 a7 hsy HAP H5 H6 H7 H3 hrl hrl3
  go_wp2_with fail
  refine HSY.out.mono ?_
  rintro e w4 hdid
  rw [wo3] at hdid
  obtain ⟨rfl, hwal⟩ := Wal.of_disk hdid HL3.out H4.out H5'.out H6'.out H7'.out
  rw [H3'.out] at hwal
  have hwal : Wal w D G ws3 nmA [[120]] w4 := hwal
  obtain ⟨F4, FL4, rs4, a1, a2, a3, a4, a5, a6, a7⟩ := hwal
  have hrl : rs4.length = 1 := by have := congrArg List.length a3; simpa [recs] using this
  have HAP := Lib.hid (lappend_any D G 0 F4 FL4 ws3 nmA rs4 _ 1 1 [121] _ (a1.alloc (.cells #[.int .u8 121] 5 (1, 2))) (a2.below ((Below.refl _ w4).alloc (Nat.le_refl _) _)) a4 (by decide) O4.out (firm_fresh w4 #[.int .u8 121] 5 (1, 2) [121] rfl (by decide) (fun k hk => a1.foot hk)) (by decide) (by omega))
  have H5 := Lib.hid a5; have H6 := Lib.hid a6; have H7 := Lib.hid (a7.alloc a7.size (.cells #[.int .u8 121] 5 (1, 2))); have H3 := Lib.hid a3
  clear hdid a1 a2 a3 a4 a5 a6 a7 HSY HL3 H4 H5' H6' H7' H3'
  go_wp2_with fail
  refine HAP.out.mono ?_
  rintro e w5 hdid
  rw [wo4, H3.out] at hdid
  obtain ⟨rfl, hwal⟩ := Wal.of_did hdid H5.out H6.out H7.out
  have hwal : Wal w D G ws4 nmA [[120], [121]] w5 := hwal
  obtain ⟨F5, FL5, rs5, a1, a2, a3, a4, a5, a6, a7⟩ := hwal
  have HRE := Lib.hid (restart_any D (w5.heap.size + 1) F5 ws4 _ 1 1 [3] _ (a1.alloc (.cells #[.int .i64 3] 3)) (rdv_one w5 3 (.int .i64 3)) (by simp) (fun a ha hk => by injection ha with ha; subst ha; exact absurd (a1.foot hk) (by simp)) (by simp))
  have H5' := Lib.hid a5; have H7' := Lib.hid (a7.alloc a7.size (.cells #[.int .i64 3] 3))
  clear hdid a1 a2 a3 a4 a5 a6 a7 HAP H5 H6 H7 H3 hrl
  go_wp2_with fail
  refine HRE.out.mono ?_
  rintro e w6 hdid
  obtain ⟨rfl, F6, hd6, hF6, hb6⟩ := hdid.step H5'.out H7'.out
  have hd6 : DiskAt w6 F6 D ws5 := hd6
  have HOP := Lib.hid (open_ok D F6 ws5 nmA w6 hd6 (by decide) (by decide) O5.out wo6)
  have HF6 := Lib.hid hF6; have HB6 := Lib.hid hb6
  clear hdid hd6 hF6 hb6 HRE H5' H7'
  go_wp2_with fail
  refine HOP.out.mono ?_
  rintro e w7 hop
  obtain ⟨G7, rfl, hwal⟩ := Wal.of_opened hop HF6.out HB6.out
  obtain ⟨F7, FL7, rs7, a1, a2, a3, a4, a5, a6, a7⟩ := hwal
  have hrl7 : rs7.length = 1 := by have := congrArg List.length a3; rw [wr6] at this; simpa [recs] using this
  have hln := len_any G7 D FL7 nmA rs7 w7 a2
  rw [hrl7] at hln
  have HLN := Lib.hid hln; have HB7 := Lib.hid a7
  clear hop a1 a2 a3 a4 a5 a6 a7 hln HOP
  go_wp2_with fail
  refine HLN.out.mono ?_
  rintro e w8 ⟨rfl, rfl⟩
  go_wp2
  go_ret
  exact ⟨rfl, HB7.out⟩
end Go.Proofs.Ytbhginnfkmajgaa
