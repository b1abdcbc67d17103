/-
  A copy's Len and Terms, all of a nil one, and a copy that is opened on a new disk: by contracts.
-/
import Derived.Test.YtjdkpcibdjhdoaaDoorCopyZ
import Derived.Test.YtjdkpcibdjhdoaaDoorWalZ
namespace Go.Proofs.YtjdkpcibdjhdoaaDoor
open Go.RowKit Mem FM
set_option linter.unusedVariables false
set_option maxRecDepth 100000

theorem results_rowT {P : Program} {fn : Func} {p : Tmp} {ty : TypeId} (h : fn.results = #[.cell p ty]) (tmps : Array Value) (w : World) (g : Nat) (t : TypeId) (cs : Array Value) (fr : Nat × Nat) (d : TypeDesc)
    (hp : tmps.getD p undef = .pointer (some ⟨g, 0, none⟩)) (hg : w.heap[g]? = some (.cells cs t fr))
    (hu : P.underlying ty = some d) (hd : (match d with | .struct _ | .array _ _ => true | _ => false) = true) (hi : (P.info? ty).map (·.size) = some cs.size) :
    (results fn tmps).run P w = .ok (.agg cs) w := by
  have hp' : tmps[p]?.getD undef = .pointer (some ⟨g, 0, none⟩) := by simpa using hp
  simp [results, h, hp', asAddr, run_loadVar_row w g t ty cs fr d hg hu hd hi]
theorem Tryd.termsSize : (Tryd.prog.info? 52).map (·.size) = some 3 := by kernel_rfl
theorem hear_nil (t : Nat) (w : World) : Calls Tryd.prog 17 #[.pointer none, .int .u64 (t : Int)] w (fun e w' => e = .returned (.int .i64 8) ∧ w' = w) := by
  go_enter Tryd.func17, Tryd.ntmps17
  go_wp2
  go_ret
  exact ⟨rfl, rfl⟩
theorem serve_nil (t : Nat) (w : World) : Calls Tryd.prog 18 #[.pointer none, .int .u64 (t : Int)] w (fun e w' => e = .returned (.int .i64 8) ∧ w' = w) := by
  go_enter Tryd.func18, Tryd.ntmps18
  go_wp2
  go_ret
  exact ⟨rfl, rfl⟩
theorem adopt_nil (t : Nat) (w : World) : Calls Tryd.prog 20 #[.pointer none, .int .u64 (t : Int), .slice none 0 0] w (fun e w' => e = .returned (.int .i64 8) ∧ w' = w) := by
  go_enter Tryd.func20, Tryd.ntmps20
  go_wp2
  go_ret
  exact ⟨rfl, rfl⟩
theorem append_nil (o : M.O) (w : World) : Calls Tryd.prog 19 #[.pointer none, oval o] w (fun e w' => e = .returned (.int .i64 8) ∧ Below w.heap.size w w') := by
  obtain ⟨t, did, dtm, dtx⟩ := o
  unfold oval
  simp only
  go_enter Tryd.func19, Tryd.ntmps19
  go_wp2
  go_ret
  exact ⟨rfl, (Below.refl _ w).alloc (Nat.le_refl _) _⟩
theorem len_nil (w : World) : Calls Tryd.prog 16 #[.pointer none] w (fun e w' => e = .returned (.int .i64 0) ∧ w' = w) := by
  go_enter Tryd.func16, Tryd.ntmps16
  go_wp2
  go_ret
  exact ⟨rfl, rfl⟩
theorem ops_nil (w : World) : Calls Tryd.prog 14 #[.pointer none] w (fun e w' => e = .returned (.slice none 0 0) ∧ w' = w) := by
  go_enter Tryd.func14, Tryd.ntmps14
  go_wp2
  go_ret
  exact ⟨rfl, rfl⟩
theorem terms_nil (w : World) : Calls Tryd.prog 13 #[.pointer none] w (fun e w' => e = .returned (.agg #[.int .u64 0, .int .u64 0, .int .u64 0]) ∧ Below w.heap.size w w') := by
  go_enter Tryd.func13, Tryd.ntmps13
  go_wp2
  refine bodyPost_ret (results_rowT rfl _ _ w.heap.size 52 #[.int .u64 0, .int .u64 0, .int .u64 0] (0, 0) _ rfl (heap_alloc_new w _) Tryd.underlying52 rfl Tryd.termsSize) rfl ?_
  exact ⟨rfl, (Below.refl _ w).alloc (Nat.le_refl _) _⟩

/-- how many entries a copy has -/
theorem copyLen_any {F FL : Nat → Prop} {rs : List Rec} {vo : Value} {w : World} {D G C : Nat} {s : St} {nm : ByteArray} {k : M.K} {laid : Nat} {torn : Bool} {wr : World} (h : CpF F FL rs vo w D G C s nm k laid torn wr) :
    Calls Tryd.prog 16 #[.pointer (some ⟨C, 0, none⟩)] wr (fun e w' => e = .returned (.int .i64 (k.ops.length : Int)) ∧ w' = wr) := by
  have hcc := h.2.2.2.2.2.2.1
  unfold kcells at hcc
  obtain ⟨Av, cv, hv, hcv1, hcv2⟩ : ∃ Av cv, vo = .slice Av k.ops.length cv ∧ k.ops.length ≤ cv ∧ cv ≤ 9223372036854775807 := by
    rcases h.2.2.2.2.2.2.2.2.2.2.1.2 with ⟨rfl, h0⟩ | ⟨g, cap, cur, rfl, _, _, h1, h2, _⟩
    · exact ⟨none, 0, by rw [h0], by omega, by omega⟩
    · exact ⟨_, cap, rfl, h1, by simpa only [maxLen] using h2⟩
  subst hv
  obtain ⟨nn, hnn⟩ : ∃ nn, k.ops.length = nn := ⟨_, rfl⟩
  rw [hnn] at hcc ⊢
  have c3 : wr.cell? ⟨C, 3, none⟩ = some (.slice Av nn cv) := cellAt 3 hcc
  clear h hcc hnn hcv1
  go_enter Tryd.func16, Tryd.ntmps16
  go_wp2
  go_ret
  exact ⟨rfl, rfl⟩

theorem copyTerms_any {F FL : Nat → Prop} {rs : List Rec} {vo : Value} {w : World} {D G C : Nat} {s : St} {nm : ByteArray} {k : M.K} {laid : Nat} {torn : Bool} {wr : World} (h : CpF F FL rs vo w D G C s nm k laid torn wr) :
    Calls Tryd.prog 13 #[.pointer (some ⟨C, 0, none⟩)] wr (fun e w' => e = .returned (.agg #[.int .u64 (k.h : Int), .int .u64 (k.s : Int), .int .u64 (k.a : Int)]) ∧ Below wr.heap.size wr w') := by
  have hcc := h.2.2.2.2.2.2.1
  unfold kcells at hcc
  have hC : C < wr.heap.size := heapLt hcc
  have c0 : wr.cell? ⟨C, 0, none⟩ = some (.int .u64 (k.h : Int)) := cellAt 0 hcc
  have c1 : wr.cell? ⟨C, 1, none⟩ = some (.int .u64 (k.s : Int)) := cellAt 1 hcc
  have c2 : wr.cell? ⟨C, 2, none⟩ = some (.int .u64 (k.a : Int)) := cellAt 2 hcc
  obtain ⟨kh, hkh⟩ : ∃ n, k.h = n := ⟨_, rfl⟩
  obtain ⟨ks, hks⟩ : ∃ n, k.s = n := ⟨_, rfl⟩
  obtain ⟨ka, hka⟩ : ∃ n, k.a = n := ⟨_, rfl⟩
  rw [hkh] at c0 ⊢; rw [hks] at c1 ⊢; rw [hka] at c2 ⊢
  clear h hcc hkh hks hka
  go_enter Tryd.func13, Tryd.ntmps13
  go_wp2
  refine bodyPost_ret (results_rowT rfl _ _ wr.heap.size 52 #[.int .u64 (kh : Int), .int .u64 (ks : Int), .int .u64 (ka : Int)] (0, 0) _ rfl (heap_alloc_new wr _) Tryd.underlying52 rfl Tryd.termsSize) rfl ?_
  exact ⟨rfl, (Below.refl _ wr).alloc (Nat.le_refl _) _⟩

/- "0" -/
def s0 : ByteArray := ⟨#[48]⟩
def nm0 : ByteArray := ⟨#[115, 104, 97, 114, 100, 45, 48]⟩
theorem small0 (w : World) : Calls Tryd.prog 87 #[.int .i64 0] w (fun e w' => e = .returned (.string s0) ∧ w' = w) := by
  go_enter Tryd.func87, Tryd.ntmps87
  go_wp2
  go_ret
  exact ⟨rfl, rfl⟩
theorem format0 (w : World) : Calls Tryd.prog 75 #[.int .i64 0, .int .i64 10] w (fun e w' => e = .returned (.string s0) ∧ w' = w) := by
  go_enter Tryd.func75, Tryd.ntmps75
  go_wp2_with fail
  refine (small0 w).mono ?_
  rintro e w1 ⟨rfl, rfl⟩
  go_wp2
  go_ret
  exact ⟨rfl, rfl⟩
theorem itoaI0 (w : World) : Calls Tryd.prog 57 #[.int .i64 0] w (fun e w' => e = .returned (.string s0) ∧ w' = w) := by
  go_enter Tryd.func57, Tryd.ntmps57
  go_wp2_with fail
  refine (format0 w).mono ?_
  rintro e w1 ⟨rfl, rfl⟩
  go_wp2
  go_ret
  exact ⟨rfl, rfl⟩
theorem itoa0 (w : World) : Calls Tryd.prog 32 #[.int .i64 0] w (fun e w' => e = .returned (.string s0) ∧ w' = w) := by
  go_enter Tryd.func32, Tryd.ntmps32
  go_wp2_with fail
  refine (itoaI0 w).mono ?_
  rintro e w1 ⟨rfl, rfl⟩
  go_wp2
  go_ret
  exact ⟨rfl, rfl⟩

/-- nothing is told of a new one -/
theorem recall_none {F FL : Nat → Prop} {rs : List Rec} {vo : Value} {w : World} {D G C : Nat} {s : St} {nm : ByteArray} {k : M.K} {laid : Nat} {torn : Bool} {wr : World} (h : CpF F FL rs vo w D G C s nm k laid torn wr) (h0 : rs.length = 0) :
    Calls Tryd.prog 33 #[.pointer (some ⟨C, 0, none⟩)] wr (fun e w' => e = .returned (.bool true) ∧ w' = wr) := by
  have hcc := h.2.2.2.2.2.2.1
  unfold kcells at hcc
  have c4 : wr.cell? ⟨C, 4, none⟩ = some (.pointer (some ⟨G, 0, none⟩)) := cellAt 4 hcc
  have HL := len_any G D FL nm rs wr h.2.1
  rw [h0] at HL
  have HL := Lib.hid HL
  clear h hcc h0
  go_enter Tryd.func33, Tryd.ntmps33
  go_wp2_with fail
  refine HL.out.mono ?_
  rintro e w1 ⟨rfl, rfl⟩
  go_wp2_with fail
  go_loopw [13] (fun i wq => i = .int .i64 0 ∧ wq = w1) (fun _ _ => 0)
  · exact ⟨rfl, rfl⟩
  · obtain ⟨rfl, rfl⟩ := hrel
    go_wp2
    go_ret
    exact ⟨rfl, rfl⟩

theorem open_new (F : Nat → Prop) (D : Nat) (s s1 s2 : St) (w wr : World) (sh : Int) (sn nm : ByteArray) (hit : ∀ w, Calls Tryd.prog 32 #[.int .i64 sh] w (fun e w' => e = .returned (.string sn) ∧ w' = w)) (h0 : 0 ≤ sh) (h8 : sh < 8) (hsn : sn.size ≤ 20)
    (hnm : (⟨#[115, 104, 97, 114, 100, 45]⟩ : ByteArray) ++ sn = nm) (h : DiskAt wr F D s) (hF : ∀ j, F j → w.heap.size ≤ j) (hb : Below w.heap.size w wr) (hok : nameOk nm = true) (hn : nm.size ≤ 28) (hops : s.ops + 20 < 1099511627776) (hops1 : s1.ops + 1 < 1099511627776)
    (e1 : openedR s nm = (0, s1)) (e2 : (M.scan (readR s nm).1).1 = []) (e3 : lsyncR s1 nm 0 = (0, s2)) :
    Calls Tryd.prog 12 #[.pointer (some ⟨D, 0, none⟩), .int .i64 sh] wr (fun e w' => ∃ C G F' FL rs vo, e = .returned (.tuple #[.pointer (some ⟨C, 0, none⟩), .int .i64 0]) ∧ recs rs = [] ∧ CpF F' FL rs vo w D G C s2 nm ⟨0, 0, 0, []⟩ 0 false w') := by
  have hop := open_ok D F s nm wr h hok hn hops (by rw [e1])
  rw [e1, e2] at hop
  have HOP := Lib.hid hop
  have HIT := Lib.hid (hit wr)
  have HNM := Lib.hid hnm; have HN := Lib.hid hn; have HF := Lib.hid hF; have HB := Lib.hid hb; have HE3 := Lib.hid e3
  have q1 : ¬ sh < 0 := by omega
  have q2 : ¬ 8 ≤ sh := by omega
  have q3 : ¬ 9223372036854775807 < 6 + sn.size := by omega
  clear hop hit hnm hn hF hb e1 e2 e3 h hok
  go_enter Tryd.func12, Tryd.ntmps12
  go_wp2_with fail
  refine HIT.out.mono ?_
  rintro e w1 ⟨rfl, rfl⟩
  go_wp2_with fail
  rw [HNM.out]
  refine HOP.out.mono ?_
  rintro e w2 hop
  obtain ⟨G, rfl, hwal⟩ := Wal.of_opened hop HF.out HB.out
  obtain ⟨F2, FL2, rs2, a1, a2, a3, a4, a5, a6, a7⟩ := hwal
  have hrl : rs2.length = 0 := by have := congrArg List.length a3; simpa [recs] using this
  have hcp : CpF F2 FL2 rs2 (.slice none 0 0) w D G w2.heap.size s1 nm ⟨0, 0, 0, []⟩ 0 false (w2.alloc (.cells #[.int .u64 0, .int .u64 0, .int .u64 0, .slice none 0 0, .pointer (some ⟨G, 0, none⟩), .int .i64 0, .bool false] 84)) :=
    ⟨a1.alloc _, a2.below ((Below.refl _ w2).alloc (Nat.le_refl _) _), a4, a5, a6, a7.alloc a7.size _, heap_alloc_new w2 _, a7.size, fun hf => Nat.lt_irrefl _ (a1.foot hf), fun hf => Nat.lt_irrefl _ (a2.foot hf), World.ownsRow_nil _ _ _ _, fun j hj => by cases hj⟩
  have HRC := Lib.hid (recall_none hcp hrl)
  have HCP := Lib.hid hcp; have HR := Lib.hid hrl; have H3 := Lib.hid a3
  clear hop hcp hrl a1 a2 a3 a4 a5 a6 a7 HIT HOP HF HB
  go_wp2_with fail
  refine HRC.out.mono ?_
  rintro e w3 ⟨rfl, hw3⟩
  have hcp3 := HCP.out
  rw [← hw3] at hcp3
  have hsy := lsync_any D G F2 FL2 s1 nm rs2 w3 hcp3.1 hcp3.2.1 hcp3.2.2.1 (by have := HN.out; omega) hops1
  rw [HR.out, HE3.out] at hsy
  have HSY := Lib.hid hsy; have HCP3 := Lib.hid hcp3
  clear hcp3 hsy hw3 HCP HRC
  go_wp2_with fail
  refine HSY.out.mono ?_
  rintro e w4 ⟨rfl, F4, hd4, ht4, hs4⟩
  have hcp4 := HCP3.out.turn hd4 (HCP3.out.2.1.turned ht4 HCP3.out.2.2.1) (fun k hk hf => (hs4 k hf).elim (HCP3.out.2.2.1 k hk) (fun h => by have := HCP3.out.2.1.foot hk; omega)) (ht4.more (fun j _ hj => .inl hj)) hs4 (Spread.refl _ _)
  have HCP4 := Lib.hid hcp4
  clear hd4 ht4 hs4 hcp4 HSY HCP3
  go_wp2
  go_ret2
  exact ⟨_, _, _, _, _, _, rfl, H3.out, HCP4.out⟩

def ds0 : St := St.new 1000
def ds1 : St := (openedR ds0 nm0).2
def ds2 : St := (lsyncR ds1 nm0 0).2
def rcA : List UInt8 := [209, 1]
def rcB : List UInt8 := [210, 1, 0, 1, 1, 97, 0, 0]
def ds3 : St := (lappR ds2 nm0 rcA).2
def ds4 : St := (lsyncR ds3 nm0 1).2
def ds5 : St := (lappR ds4 nm0 rcB).2
def ds6 : St := (lsyncR ds5 nm0 2).2
theorem dp1 : (openedR ds0 nm0).1 = 0 := by decide +kernel
theorem dr1 : (M.scan (readR ds0 nm0).1).1 = [] := by decide +kernel
theorem dp2 : (lsyncR ds1 nm0 0).1 = 0 := by decide +kernel
theorem dp3 : (lappR ds2 nm0 rcA).1 = 0 := by decide +kernel
theorem dp4 : (lsyncR ds3 nm0 1).1 = 0 := by decide +kernel
theorem dp5 : (lappR ds4 nm0 rcB).1 = 0 := by decide +kernel
theorem dp6 : (lsyncR ds5 nm0 2).1 = 0 := by decide +kernel
theorem drA : M.recB ⟨209, 1, 0, []⟩ = rcA := by decide +kernel
theorem drB : M.recB ⟨210, 1, 0, [⟨1, ⟨[97], 0, []⟩⟩]⟩ = rcB := by decide +kernel
theorem dops : ds0.ops + 20 < 1099511627776 ∧ ds1.ops + 1 < 1099511627776 ∧ ds2.ops + 1 < 1099511627776 ∧ ds3.ops + 1 < 1099511627776 ∧ ds4.ops + 1 < 1099511627776 ∧ ds5.ops + 1 < 1099511627776 := by decide +kernel
theorem dform : M.formB [97] [] = true := by decide +kernel
theorem pairI {α : Type} {p : Int × α} (h : p.1 = 0) : p = (0, p.2) := by cases p; simp_all

set_option maxHeartbeats 2000000 in
theorem awake16_any (w : World) : Calls Tryd.prog 6 #[] w (Yes w) := by
  obtain ⟨o0, o1, o2, o3, o4, o5⟩ := dops
  have O0 := Lib.hid o0; have O1 := Lib.hid o1; have O2 := Lib.hid o2; have O3 := Lib.hid o3; have O4 := Lib.hid o4; have O5 := Lib.hid o5
  clear o0 o1 o2 o3 o4 o5
  go_enter Tryd.func6, Tryd.ntmps6
  go_wp2_with fail
  refine (new_any 1000 w (by omega)).mono ?_
  rintro e w1 ⟨D, F, rfl, hd, hF, hb1⟩
  have HOP := Lib.hid (open_new F D ds0 ds1 ds2 w w1 0 s0 nm0 itoa0 (by decide) (by decide) (by decide) rfl hd hF hb1 (by decide) (by decide) O0.out O1.out (pairI dp1) dr1 (pairI dp2))
  clear hd hF hb1
  go_wp2_with fail
  refine HOP.out.mono ?_
  rintro e w2 ⟨C, G, F2, FL2, rs2, vo2, rfl, hr2, hcp2⟩
  have hrl : rs2.length = 0 := by have := congrArg List.length hr2; simpa [recs] using this
  have hsv := serve_ok F2 FL2 rs2 vo2 w D G C ds2 ds3 ds4 nm0 ⟨0, 0, 0, []⟩ 0 1 w2 hcp2 (by decide) (by decide) (by decide) (by decide) (by decide) O2.out O3.out (by omega) rcA drA (by decide) (pairI dp3) (by rw [hrl]; exact pairI dp4)
  rw [hr2] at hsv
  have HSV := Lib.hid hsv
  clear hcp2 hsv hrl hr2 HOP
  go_wp2_with fail
  refine HSV.out.mono ?_
  rintro e w3 ⟨rfl, hb3, F3, FL3, rs3, vo3, hr3, hcp3⟩
  have hrl : rs3.length = 1 := by have := congrArg List.length hr3; simpa [recs] using this
  have hap := append_ok F3 FL3 rs3 vo3 w D G C ds4 ds5 ds6 nm0 1 1 [] 1 ⟨[97], 0, []⟩ w3 hcp3 ⟨by decide, by decide, by decide, by decide, by decide⟩ dform (by decide) (by decide) (by decide) O4.out O5.out (by omega) rcB drB (by decide) (pairI dp5) (by rw [hrl]; exact pairI dp6)
  rw [hr3] at hap
  unfold oval at hap
  simp only at hap
  have HAP := Lib.hid hap
  clear hcp3 hap hrl hr3 HSV hb3
  go_wp2_with fail
  refine HAP.out.mono ?_
  rintro e w4 ⟨rfl, hb4, F4, FL4, rs4, vo4, hr4, hcp4⟩
  have HLN := Lib.hid (copyLen_any hcp4)
  have HTM := Lib.hid (copyTerms_any hcp4)
  have HB4 := Lib.hid hb4
  clear hcp4 hb4 hr4 HAP
  go_wp2_with fail
  refine HLN.out.mono ?_
  rintro e w5 ⟨rfl, rfl⟩
  go_wp2_with fail
  refine HTM.out.mono ?_
  rintro e w6 ⟨rfl, hb6⟩
  have HB6 := Lib.hid (HB4.out.trans (hb6.mono HB4.out.size))
  have hfd : ∀ W : World, (Instr.field 52 (.agg #[.int .u64 1, .int .u64 1, .int .u64 1]) 2).run Tryd.prog W = .ok (.int .u64 1) W := fun _ => by kernel_rfl
  clear hb6
  go_wp2
  go_ret
  exact ⟨rfl, HB6.out⟩
end Go.Proofs.YtjdkpcibdjhdoaaDoor
