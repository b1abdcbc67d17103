/-
  What replace does, by a contract.
-/
import Derived.Test.YtbhginnfkmajgaaWalB
namespace Go.Proofs.Ytbhginnfkmajgaa
open Go.RowKit Mem FM
set_option linter.unusedVariables false
set_option maxRecDepth 100000
attribute [local go_sem ↓] Go.wp_at_zero Go.wp_at_succ

def repl3 (s : St) (nm : ByteArray) : Int × St := if (synced s (nmN nm)).1 ≠ 0 then synced s (nmN nm) else renamed (synced s (nmN nm)).2 (nmN nm) nm
def repl2 (s : St) (nm : ByteArray) (l : List UInt8) : Int × St := if (putR s (nmN nm) l).1 ≠ 0 then putR s (nmN nm) l else repl3 (putR s (nmN nm) l).2 nm
def replacedR (s : St) (nm : ByteArray) (l : List UInt8) : Int × St := if (droppedR s nm).1 ≠ 0 then droppedR s nm else repl2 (droppedR s nm).2 nm l

theorem removed_ops (s : St) (nm : ByteArray) : (removed s nm).2.ops ≤ s.ops + 1 := by
  unfold removed withDel
  split
  · split
    · simp
    · split <;> simp [St.op]
  · simp
theorem dropped_ops (s : St) (nm : ByteArray) : (droppedR s nm).2.ops ≤ s.ops + 1 := by
  unfold droppedR
  split <;> exact removed_ops s _
theorem wrote_ops (s : St) (n l : List UInt8) : (wrote s n l).2.ops ≤ s.ops + 1 := by
  unfold wrote
  split <;> simp [St.op]
theorem putR_ops (s : St) (nm : ByteArray) (l : List UInt8) : (putR s nm l).2.ops ≤ s.ops + 1 := by
  unfold putR putNew
  split
  · split
    · simp
    · exact wrote_ops _ _ _
  · simp
theorem synced_ops (s : St) (nm : ByteArray) : (synced s nm).2.ops ≤ s.ops + 1 := by
  unfold synced withSync
  split
  · split
    · simp
    · split <;> simp [St.op]
  · simp

/-- a slice that no change of the blocks of F touches -/
def Firm (F : Nat → Prop) (w : World) (A : Option Addr) (n c : Nat) (l : List UInt8) : Prop := ∀ w', Turned F w w' → Rd w' w'.heap.size A n c l
theorem Firm.step {F F' : Nat → Prop} {w w' : World} {A : Option Addr} {n c : Nat} {l : List UInt8} (h : Firm F w A n c l) (ht : Turned F w w') (hs : Spread F F' w) : Firm F' w' A n c l := fun w2 h2 => h w2 (ht.trans' hs h2)

theorem not_spread {F F' : Nat → Prop} {w : World} {G : Nat} (hG : ¬ F G) (hlt : G < w.heap.size) (hs : Spread F F' w) : ¬ F' G := fun h => (hs G h).elim hG (fun h2 => by omega)
theorem Did.then_ {F F1 : Nat → Prop} {D : Nat} {x : Int} {s : St} {w w1 w2 : World} {e : Ending} (ht : Turned F w w1) (hs : Spread F F1 w) (h : Did F1 D x s w1 e w2) : Did F D x s w e w2 := by
  obtain ⟨h1, F', h2, h3, h4⟩ := h
  exact ⟨h1, F', h2, ht.trans' hs h3, hs.trans ht.size h4⟩

set_option maxHeartbeats 2000000 in
theorem replace_any (D G : Nat) (F : Nat → Prop) (s : St) (nm : ByteArray) (v : Value) (A : Option Addr) (n c : Nat) (l : List UInt8) (w : World) (h : DiskAt w F D s) (hl : LB w G D nm v) (hG : ¬ F G) (hn : nm.size ≤ 100) (hops : s.ops + 10 < 1099511627776) (hf : Firm F w A n c l) :
    Calls Try.prog 21 #[.pointer (some ⟨G, 0, none⟩), .slice A n c] w (Did F D (replacedR s nm l).1 (replacedR s nm l).2 w) := by
  have c1 := hl.c1
  have hsz : (nmN nm).size ≤ 9223372036854775807 := by unfold nmN; rw [ByteArray.size_append]; show nm.size + 4 ≤ _; omega
  have HD := Lib.hid (dropNew_any D G F s nm v w h hl hG hn (by omega))
  have HG := Lib.hid hG; have HF := Lib.hid hf; have HLB := Lib.hid hl; have HSZ := Lib.hid hsz
  have hGl := hl.lt
  have hsz2 : ¬ 9223372036854775807 < nm.size + 4 := by omega
  have hadd : nm ++ (⟨#[46, 110, 101, 119]⟩ : ByteArray) = nmN nm := rfl
  have HE := Lib.hid (show replacedR s nm l = if (droppedR s nm).1 ≠ 0 then droppedR s nm else repl2 (droppedR s nm).2 nm l from rfl)
  have hop1 := dropped_ops s nm
  clear h hl hsz hG hf
  generalize hd1 : droppedR s nm = d1 at *
  clear hd1
  obtain ⟨x1, s1⟩ := d1
  simp only at HE HD hop1
  by_cases hx1 : x1 = 0
  case neg =>
    have hq : (x1 != 0) = true := by simpa using hx1
    have HE2 := Lib.hid (show replacedR s nm l = (x1, s1) by rw [HE.out, if_pos hx1])
    go_enter Try.func21, Try.ntmps21
    go_wp2_with fail
    refine HD.out.mono ?_
    rintro e w1 hdid
    have HDID := Lib.hid hdid
    obtain ⟨rfl, -⟩ := hdid
    go_wp2
    go_ret
    rw [HE2.out]
    exact HDID.out
  subst hx1
  have HE2 := Lib.hid (show replacedR s nm l = repl2 s1 nm l by rw [HE.out]; rfl)
  have HP := Lib.hid (show repl2 s1 nm l = if (putR s1 (nmN nm) l).1 ≠ 0 then putR s1 (nmN nm) l else repl3 (putR s1 (nmN nm) l).2 nm from rfl)
  have hop2 := putR_ops s1 (nmN nm) l
  have HPUT := Lib.hid (fun (w1 : World) (F1 : Nat → Prop) (hd : DiskAt w1 F1 D s1) (hr : Rd w1 w1.heap.size A n c l) => put_any D w1.heap.size F1 s1 (nmN nm) A n c l w1 hd HSZ.out hr (Nat.le_refl _) (by omega))
  clear HE
  generalize hd2 : putR s1 (nmN nm) l = d2 at *
  clear hd2
  obtain ⟨x2, s2⟩ := d2
  simp only at HP HPUT hop2
  by_cases hx2 : x2 = 0
  case neg =>
    have hq : (x2 != 0) = true := by simpa using hx2
    have HE3 := Lib.hid (show replacedR s nm l = (x2, s2) by rw [HE2.out, HP.out, if_pos hx2])
    go_enter Try.func21, Try.ntmps21
    go_wp2_with fail
    refine HD.out.mono ?_
    rintro e w1 ⟨rfl, F1, hd1, ht1, hs1⟩
    have q0 := (HLB.out.turned ht1 HG.out).c0
    have HC := Lib.hid (HPUT.out w1 F1 hd1 (HF.out w1 ht1))
    have HT1 := Lib.hid ht1; have HS1 := Lib.hid hs1
    clear hd1 ht1 hs1
    go_wp2_with fail
    refine HC.out.mono ?_
    rintro e w2 hdid
    have HDID := Lib.hid (Did.then_ HT1.out HS1.out hdid)
    obtain ⟨rfl, -⟩ := hdid
    go_wp2
    go_ret
    rw [HE3.out]
    exact HDID.out
  subst hx2
  have HE3 := Lib.hid (show replacedR s nm l = repl3 s2 nm by rw [HE2.out, HP.out]; rfl)
  have HY := Lib.hid (show repl3 s2 nm = if (synced s2 (nmN nm)).1 ≠ 0 then synced s2 (nmN nm) else renamed (synced s2 (nmN nm)).2 (nmN nm) nm from rfl)
  have hop3 := synced_ops s2 (nmN nm)
  have HSY := Lib.hid (fun (w1 : World) (F1 : Nat → Prop) (hd : DiskAt w1 F1 D s2) => sync_any D F1 s2 (nmN nm) w1 hd HSZ.out (by omega))
  clear HE2 HP
  generalize hd3 : synced s2 (nmN nm) = d3 at *
  clear hd3
  obtain ⟨x3, s3⟩ := d3
  simp only at HY HSY hop3
  by_cases hx3 : x3 = 0
  case neg =>
    have hq : (x3 != 0) = true := by simpa using hx3
    have HE4 := Lib.hid (show replacedR s nm l = (x3, s3) by rw [HE3.out, HY.out, if_pos hx3])
    go_enter Try.func21, Try.ntmps21
    go_wp2_with fail
    refine HD.out.mono ?_
    rintro e w1 ⟨rfl, F1, hd1, ht1, hs1⟩
    have hlb1 := HLB.out.turned ht1 HG.out
    have q0 := hlb1.c0
    have HC := Lib.hid (HPUT.out w1 F1 hd1 (HF.out w1 ht1))
    have HG1 := Lib.hid (not_spread HG.out hGl hs1)
    have HLB1 := Lib.hid hlb1
    have HT1 := Lib.hid ht1; have HS1 := Lib.hid hs1
    clear hd1 ht1 hs1 hlb1
    go_wp2_with fail
    refine HC.out.mono ?_
    rintro e w2 ⟨rfl, F2, hd2, ht2, hs2⟩
    have q2 := (HLB1.out.turned ht2 HG1.out).c0
    have HC2 := Lib.hid (HSY.out w2 F2 hd2)
    have HT2 := Lib.hid (HT1.out.trans' HS1.out ht2); have HS2 := Lib.hid (HS1.out.trans HT1.out.size hs2)
    clear hd2 ht2 hs2
    go_wp2_with fail
    refine HC2.out.mono ?_
    rintro e w3 hdid
    have HDID := Lib.hid (Did.then_ HT2.out HS2.out hdid)
    obtain ⟨rfl, -⟩ := hdid
    go_wp2
    go_ret
    rw [HE4.out]
    exact HDID.out
  subst hx3
  have HE4 := Lib.hid (show replacedR s nm l = renamed s3 (nmN nm) nm by rw [HE3.out, HY.out]; rfl)
  have HRN := Lib.hid (fun (w1 : World) (F1 : Nat → Prop) (hd : DiskAt w1 F1 D s3) => rename_any D F1 s3 (nmN nm) nm w1 hd HSZ.out (by omega) (by omega))
  clear HE3 HY
  generalize hd4 : renamed s3 (nmN nm) nm = d4 at *
  clear hd4
  obtain ⟨x4, s4⟩ := d4
  simp only at HRN
  go_enter Try.func21, Try.ntmps21
  go_wp2_with fail
  refine HD.out.mono ?_
  rintro e w1 ⟨rfl, F1, hd1, ht1, hs1⟩
  have hlb1 := HLB.out.turned ht1 HG.out
  have q0 := hlb1.c0
  have HC := Lib.hid (HPUT.out w1 F1 hd1 (HF.out w1 ht1))
  have HG1 := Lib.hid (not_spread HG.out hGl hs1)
  have HLB1 := Lib.hid hlb1
  have hGl1 := hlb1.lt
  have HT1 := Lib.hid ht1; have HS1 := Lib.hid hs1
  clear hd1 ht1 hs1 hlb1
  go_wp2_with fail
  refine HC.out.mono ?_
  rintro e w2 ⟨rfl, F2, hd2, ht2, hs2⟩
  have hlb2 := HLB1.out.turned ht2 HG1.out
  have q2 := hlb2.c0
  have hGl2 := hlb2.lt
  have HG2 := Lib.hid (not_spread HG1.out hGl1 hs2)
  have HLB2 := Lib.hid hlb2
  have HC2 := Lib.hid (HSY.out w2 F2 hd2)
  have HT2 := Lib.hid (HT1.out.trans' HS1.out ht2); have HS2 := Lib.hid (HS1.out.trans HT1.out.size hs2)
  clear hd2 ht2 hs2 hlb2
  go_wp2_with fail
  refine HC2.out.mono ?_
  rintro e w3 ⟨rfl, F3, hd3, ht3, hs3⟩
  have hlb3 := HLB2.out.turned ht3 HG2.out
  have q30 := hlb3.c0; have q31 := hlb3.c1
  have hGl3 := hlb3.lt
  have HG3 := Lib.hid (not_spread HG2.out hGl2 hs3)
  have HC3 := Lib.hid (HRN.out w3.drew F3 hd3.drew)
  have HT3 := Lib.hid (HT2.out.trans' HS2.out ht3); have HS3 := Lib.hid (HS2.out.trans HT2.out.size hs3)
  clear hd3 ht3 hs3 hlb3
  go_wp2_with fail
  go_region_held3 (fun w' => w'.cell? ⟨G, 0, none⟩ = some (.pointer (some ⟨D, 0, none⟩)) ∧ w'.cell? ⟨G, 1, none⟩ = some (.string nm)) (go_keep)
    ((go_at_call 35; refine HC3.out.mono ?_; rintro e w4 ⟨rfl, F4, hd4, ht4, hs4⟩
      have y0 := (ht4.cell (p := ⟨G, 0, none⟩) hGl3 HG3.out).trans q30; have y1 := (ht4.cell (p := ⟨G, 1, none⟩) hGl3 HG3.out).trans q31
      have HD4 := Lib.hid hd4; have HT4 := Lib.hid ht4; have HS4 := Lib.hid hs4; clear hd4 ht4 hs4))
  go_wp2
  go_ret
  rw [HE4.out]
  exact Did.then_ HT3.out HS3.out ⟨rfl, F4, HD4.out, HT4.out.undrew, HS4.out⟩
end Go.Proofs.Ytbhginnfkmajgaa
