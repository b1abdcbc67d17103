/-
  What Open does, by a contract.
-/
import Derived.Test.YtbhginnfkmajgaaWalC
namespace Go.Proofs.Ytbhginnfkmajgaa
open Go.RowKit Mem FM
set_option linter.unusedVariables false
set_option maxRecDepth 100000

/-- block G is a log with these records, on the disk D; its blocks are of F -/
def LogAt (w : World) (F : Nat → Prop) (G D : Nat) (nm : ByteArray) (rs : List Rec) : Prop := ∃ v, LB w G D nm v ∧ F G ∧ RecsAt w F v rs ∧ ∀ k, F k → k < w.heap.size
theorem LogAt.turned {w w' : World} {F P : Nat → Prop} {G D : Nat} {nm : ByteArray} {rs : List Rec} (h : LogAt w F G D nm rs) (ht : Turned P w w') (hd : ∀ k, F k → ¬ P k) : LogAt w' F G D nm rs := by
  obtain ⟨v, h1, h2, h3, h4⟩ := h
  exact ⟨v, h1.turned ht (hd G h2), h2, h3.turned ht hd, fun k hk => Nat.lt_of_lt_of_le (h4 k hk) ht.size⟩
theorem LogAt.foot {w : World} {F : Nat → Prop} {G D : Nat} {nm : ByteArray} {rs : List Rec} (h : LogAt w F G D nm rs) {k : Nat} (hk : F k) : k < w.heap.size := by
  obtain ⟨v, h1, h2, h3, h4⟩ := h
  exact h4 k hk
theorem LogAt.below {w w' : World} {F : Nat → Prop} {G D : Nat} {nm : ByteArray} {rs : List Rec} (h : LogAt w F G D nm rs) (hb : Below w.heap.size w w') : LogAt w' F G D nm rs := h.turned (P := fun _ => False) (Turned.of_below hb) (fun _ _ h => h)

/-- the state behind Open, and its error -/
def openedR (s : St) (nm : ByteArray) : Int × St :=
  if (readR s nm).2 ≠ 0 ∧ (readR s nm).2 ≠ 8 then ((readR s nm).2, s)
  else if (droppedR s nm).1 ≠ 0 then droppedR s nm
  else if (M.scan (readR s nm).1).2 < (readR s nm).1.length then replacedR (droppedR s nm).2 nm ((readR s nm).1.take (M.scan (readR s nm).1).2)
  else (0, (droppedR s nm).2)

/-- a log was opened: its records are those at the file's front, in new memory -/
def Opened (F : Nat → Prop) (D : Nat) (s' : St) (nm : ByteArray) (ls : List (List UInt8)) (w : World) (e : Ending) (w' : World) : Prop :=
  ∃ G FL rs F', e = .returned (.tuple #[.pointer (some ⟨G, 0, none⟩), .int .i64 0]) ∧ LogAt w' FL G D nm rs ∧ recs rs = ls ∧ DiskAt w' F' D s' ∧ (∀ k, FL k → w.heap.size ≤ k) ∧ (∀ k, FL k → ¬ F' k) ∧ Turned F w w' ∧ Spread F F' w

theorem scan_le (l : List UInt8) : (M.scan l).2 ≤ l.length := by
  have key : ∀ (f k : Nat), k ≤ l.length → (M.scanN f l k).2 ≤ l.length := by
    intro f
    induction f with
    | zero => intro k hk; exact hk
    | succ f ih =>
      intro k hk
      rw [M.scanN]
      split
      · rename_i h
        exact ih _ (M.rdFrame_adv h).2.1
      · exact hk
  exact key _ 0 (Nat.zero_le _)

theorem own_firm {F : Nat → Prop} {w : World} {b : Nat} {e : TypeId} {A : Option Addr} {n c k : Nat} {l : List UInt8} (h : Own w b e (.slice A n c) l) (hn : ∀ j, (Value.slice A n c).ownBlock = some j → ¬ F j) (hk : k ≤ n) : Firm F w A k c (l.take k) := fun w' ht => by
  obtain ⟨A', c', hv, hr⟩ := (h.turned ht hn).open_
  injection hv with e1 e2 e3
  subst e1 e2 e3
  exact hr.upto hk

theorem RecsAt.bound {w : World} {F : Nat → Prop} {v : Value} {rs : List Rec} (h : RecsAt w F v rs) : RecsAt w (fun k => F k ∧ k < w.heap.size) v rs :=
  ⟨h.1, fun k hk => ⟨h.2.1 k hk, (h.1.lt k hk).2⟩, fun r hr => ⟨(h.2.2 r hr).1, fun k hk => ⟨(h.2.2 r hr).2.1 k hk, ((h.2.2 r hr).1.lt k hk).2⟩, (h.2.2 r hr).2.2⟩⟩

/-- the log's block takes up its records -/
theorem log_made {w5 w6 : World} {G D b5 : Nat} {nm : ByteArray} {v0 v : Value} {rs : List Rec} (hl : LB w6 G D nm v0) (hr : RecsAt w6 (fun k => b5 ≤ k ∧ k < w5.heap.size) v rs) (h56 : w5.heap.size ≤ w6.heap.size) (hGb : G < b5) (hb5 : b5 ≤ w5.heap.size) :
    LogAt (w6.setCell ⟨G, 2, none⟩ v) (fun k => k = G ∨ (b5 ≤ k ∧ k < w5.heap.size)) G D nm rs := by
  have hs : (w6.setCell ⟨G, 2, none⟩ v).heap.size = w6.heap.size := by simp [World.setCell]
  have hT : Turned (· = G) w6 (w6.setCell ⟨G, 2, none⟩ v) := (Turned.refl (· = G) w6).setCell (p := ⟨G, 2, none⟩) (.inl rfl) _
  refine ⟨v, hl.s2 v, .inl rfl, (hr.turned hT (fun k hk e => by omega)).more (fun k hk => .inr hk), fun k hk => ?_⟩
  rw [hs]
  rcases hk with rfl | hk
  · exact hl.lt
  · omega

set_option maxHeartbeats 4000000 in
theorem open_ok (D : Nat) (F : Nat → Prop) (s : St) (nm : ByteArray) (w : World) (h : DiskAt w F D s) (hok : nameOk nm = true) (hn : nm.size ≤ 28) (hops : s.ops + 20 < 1099511627776) (ho : (openedR s nm).1 = 0) :
    Calls Try.prog 7 #[.pointer (some ⟨D, 0, none⟩), .string nm] w (Opened F D (openedR s nm).2 nm (M.scan (readR s nm).1).1 w) := by
  have HNM := Lib.hid (name_any nm w (by omega))
  have HRD := Lib.hid (read_any D F s nm w h (by omega))
  have HE := Lib.hid (show openedR s nm = if (readR s nm).2 ≠ 0 ∧ (readR s nm).2 ≠ 8 then ((readR s nm).2, s) else if (droppedR s nm).1 ≠ 0 then droppedR s nm else if (M.scan (readR s nm).1).2 < (readR s nm).1.length then replacedR (droppedR s nm).2 nm ((readR s nm).1.take (M.scan (readR s nm).1).2) else (0, (droppedR s nm).2) from rfl)
  have hop1 := dropped_ops s nm
  have hroom : (readR s nm).1.length ≤ 67108864 := by
    unfold readR
    split
    · obtain ⟨b, nn, cs, _, _, _, _, _, hu, hr, _⟩ := h
      split
      · simp
      · rename_i f hf
        have := used_mem (find_name hf).2
        simp only
        omega
    · simp
  have HD0 := Lib.hid h
  clear h
  generalize hrr : readR s nm = rr at *
  clear hrr
  obtain ⟨p, e0⟩ := rr
  simp only at HE HRD hroom
  have he0 : e0 = 0 ∨ e0 = 8 := by
    by_cases h1 : e0 = 0
    · exact .inl h1
    · by_cases h2 : e0 = 8
      · exact .inr h2
      · rw [HE.out, if_pos ⟨h1, h2⟩] at ho
        exact absurd ho h1
  have HE1 := Lib.hid (show openedR s nm = if (droppedR s nm).1 ≠ 0 then droppedR s nm else if (M.scan p).2 < p.length then replacedR (droppedR s nm).2 nm (p.take (M.scan p).2) else (0, (droppedR s nm).2) by
    rw [HE.out, if_neg (by rcases he0 with rfl | rfl <;> simp)])
  clear HE
  have HDR := Lib.hid (fun (w1 : World) (G : Nat) (v : Value) (hd : DiskAt w1 F D s) (hl : LB w1 G D nm v) (hG : ¬ F G) => dropNew_any D G F s nm v w1 hd hl hG (by omega) (by omega))
  generalize hdd : droppedR s nm = dd at *
  clear hdd
  obtain ⟨x1, s1⟩ := dd
  simp only at HE1 HDR hop1
  obtain rfl : x1 = 0 := by
    by_cases h1 : x1 = 0
    · exact h1
    · rw [HE1.out, if_pos h1] at ho
      exact absurd ho h1
  have HE2 := Lib.hid (show openedR s nm = if (M.scan p).2 < p.length then replacedR s1 nm (p.take (M.scan p).2) else (0, s1) by rw [HE1.out]; rfl)
  clear HE1
  have hsl := scan_le p
  have hne : ∀ x : Int, (x = 0 ∨ x = 8) → ((x != 0) && (x != 8)) = false := by rintro x (rfl | rfl) <;> rfl
  by_cases hcut : (M.scan p).2 < p.length
  all_goals rcases he0 with rfl | rfl
  · go_enter Try.func7, Try.ntmps7
    go_wp2_with fail
    refine HNM.out.mono ?_
    rintro e w1 ⟨rfl, hw1⟩
    rw [hw1, hok]
    clear hw1 w1
    go_wp2_with fail
    refine HRD.out.mono ?_
    rintro e w2 ⟨q, rfl, hq, hb2, hd2⟩
    have hq : Own w2 w.heap.size 5 q p := hq
    obtain ⟨A2, c2, hv2, hr2⟩ := hq.open_
    have hc2 := hr2.cap; have hc2m := hr2.max
    have hfoot : ∀ k, F k → k < w.heap.size := fun k hk => HD0.out.foot hk
    have hqF : ∀ k, q.ownBlock = some k → ¬ F k := fun k hk hf => by have := (hq.lt k hk).1; have := hfoot k hf; omega
    have hw2 : w.heap.size ≤ w2.heap.size := hb2.size
    subst hv2
    have hGF : ¬ F w2.heap.size := fun hf => by have := hfoot _ hf; omega
    have hlb3 : LB (w2.alloc (.cells #[.pointer (some ⟨D, 0, none⟩), .string nm, .slice none 0 0] 51)) w2.heap.size D nm (.slice none 0 0) := heapNew (w := w2) _
    have HC3 := Lib.hid (HDR.out _ w2.heap.size _ (hd2.alloc (.cells #[.pointer (some ⟨D, 0, none⟩), .string nm, .slice none 0 0] 51)) hlb3 hGF)
    have HQ := Lib.hid (hq.alloc (.cells #[.pointer (some ⟨D, 0, none⟩), .string nm, .slice none 0 0] 51)); have HQF := Lib.hid hqF; have HB2 := Lib.hid hb2; have HGF := Lib.hid hGF; have HLB3 := Lib.hid hlb3
    have HFT := Lib.hid hfoot
    have HQL := Lib.hid (show ∀ k, (Value.slice A2 p.length c2).ownBlock = some k → k < w2.heap.size from fun k hk => (hq.lt k hk).2)
    clear hq hb2 hd2 hr2 hfoot hqF hGF hlb3
    go_wp2_with fail
    refine HC3.out.mono ?_
    rintro e w4 ⟨rfl, F1, hd4, ht4, hs4⟩
    have hq4 := HQ.out.turned ht4 HQF.out
    obtain ⟨A2', c2', hv2', hr4⟩ := hq4.open_
    injection hv2' with e1 e2 e3
    subst e1 e3
    have hlb4 := HLB3.out.turned ht4 HGF.out
    have hGF4 : ¬ F1 w2.heap.size := not_spread HGF.out (by simp) hs4
    have hw4 : w2.heap.size + 1 ≤ w4.heap.size := by have := ht4.size; simpa using this
    have hq4F : ∀ k, (Value.slice A2 p.length c2).ownBlock = some k → ¬ F1 k := fun k hk hf => (hs4 k hf).elim (HQF.out k hk) (fun h2 => by have := HQL.out k hk; simp at h2; omega)
    have HSC := Lib.hid (scan_any A2 p.length c2 w4.heap.size p w4 hr4 (Nat.le_refl _) (by omega))
    have HQ4 := Lib.hid hq4; have HQ4F := Lib.hid hq4F; have HLB4 := Lib.hid hlb4; have HGF4 := Lib.hid hGF4; have HD4 := Lib.hid hd4
    have HT4 := Lib.hid ((((Turned.of_below HB2.out) : Turned F w w2).alloc _).trans ht4); have HS4 := Lib.hid (show Spread F F1 w from fun k hk => (hs4 k hk).imp id (fun h2 => by simp at h2; omega))
    clear hq4 hr4 hlb4 hGF4 hd4 ht4 hs4 hq4F e2 HQ HQF HLB3 HGF
    go_wp2_with fail
    refine HSC.out.mono ?_
    rintro e w5 ⟨v5, rs, rfl, hrec5, hrs, hb5⟩
    obtain ⟨A5, c5, hv5, hc5, hc5m⟩ := hrec5.form
    subst hv5
    have hw5 : w4.heap.size ≤ w5.heap.size := hb5.size
    have HREC5 := Lib.hid hrec5.bound
    have HRS := Lib.hid hrs
    have HF1 := Lib.hid (show ∀ k, F1 k → k < w4.heap.size from fun k hk => HD4.out.foot hk)
    have HD5 := Lib.hid (HD4.out.below hb5)
    have HLB5 := Lib.hid (HLB4.out.turned (P := fun _ => False) (Turned.of_below hb5) (fun h => h))
    have HQ5 := Lib.hid (HQ4.out.below hb5)
    have HT5 := Lib.hid (HT4.out.trans' HS4.out (Turned.of_below hb5))
    clear hrec5 hrs hb5
    generalize hen : (M.scan p).2 = en at *
    have HEN := Lib.hid hen
    clear hen
    generalize rs.length = nr at *
    have hrp := replace_any D w2.heap.size F1 s1 nm (.slice none 0 0) A2 en c2 (p.take en) w5 HD5.out HLB5.out HGF4.out (by omega) (by omega) (own_firm HQ5.out HQ4F.out (by omega))
    have HE3 := Lib.hid (show openedR s nm = replacedR s1 nm (p.take en) by rw [HE2.out, if_pos hcut])
    rw [HE3.out] at ho
    generalize replacedR s1 nm (p.take en) = r6 at *
    obtain ⟨x6, s6⟩ := r6
    simp only at hrp ho
    subst ho
    have HRP := Lib.hid hrp
    clear hrp
    generalize hnp : p.length = np at *
    clear hnp
    go_wp2_with fail
    refine HRP.out.mono ?_
    rintro e w6 ⟨rfl, F6, hd6, ht6, hs6⟩
    have hlb6 := HLB5.out.turned ht6 HGF4.out
    have l2 := hlb6.c2; have lf := hlb6.f2
    have hGF6 : ¬ F6 w2.heap.size := not_spread HGF4.out (by omega) hs6
    have hrec6 := HREC5.out.turned ht6 (fun k hk hf => by have := HF1.out k hf; omega)
    have HFIN := Lib.hid (log_made hlb6 hrec6 ht6.size (by omega) hw5)
    have HD7 := Lib.hid (hd6.far (G := (· = w2.heap.size)) ((Turned.refl (· = w2.heap.size) w6).setCell (p := ⟨w2.heap.size, 2, none⟩) (.inl rfl) (.slice A5 nr c5)) (fun k hk e => hGF6 (e ▸ hk)))
    have HT7 := Lib.hid ((HT5.out.trans' (F' := F1) HS4.out ht6).setCell (p := ⟨w2.heap.size, 2, none⟩) (.inr hw2) (.slice A5 nr c5))
    have HS7 := Lib.hid (HS4.out.trans HT5.out.size hs6)
    have HAP := Lib.hid (show ∀ k, (k = w2.heap.size ∨ (w4.heap.size ≤ k ∧ k < w5.heap.size)) → ¬ F6 k from fun k hk hf => by
      rcases hk with rfl | hk
      · exact hGF6 hf
      · rcases hs6 k hf with h1 | h1
        · have := HF1.out k h1; omega
        · omega)
    clear hd6 ht6 hs6 hlb6 hGF6 hrec6
    go_wp2
    go_ret2
    rw [HE3.out]
    exact ⟨w2.heap.size, _, rs, F6, rfl, HFIN.out, HRS.out, HD7.out, fun k hk => by omega, HAP.out, HT7.out, HS7.out⟩
  · go_enter Try.func7, Try.ntmps7
    go_wp2_with fail
    refine HNM.out.mono ?_
    rintro e w1 ⟨rfl, hw1⟩
    rw [hw1, hok]
    clear hw1 w1
    go_wp2_with fail
    refine HRD.out.mono ?_
    rintro e w2 ⟨q, rfl, hq, hb2, hd2⟩
    have hq : Own w2 w.heap.size 5 q p := hq
    obtain ⟨A2, c2, hv2, hr2⟩ := hq.open_
    have hc2 := hr2.cap; have hc2m := hr2.max
    have hfoot : ∀ k, F k → k < w.heap.size := fun k hk => HD0.out.foot hk
    have hqF : ∀ k, q.ownBlock = some k → ¬ F k := fun k hk hf => by have := (hq.lt k hk).1; have := hfoot k hf; omega
    have hw2 : w.heap.size ≤ w2.heap.size := hb2.size
    subst hv2
    have hGF : ¬ F w2.heap.size := fun hf => by have := hfoot _ hf; omega
    have hlb3 : LB (w2.alloc (.cells #[.pointer (some ⟨D, 0, none⟩), .string nm, .slice none 0 0] 51)) w2.heap.size D nm (.slice none 0 0) := heapNew (w := w2) _
    have HC3 := Lib.hid (HDR.out _ w2.heap.size _ (hd2.alloc (.cells #[.pointer (some ⟨D, 0, none⟩), .string nm, .slice none 0 0] 51)) hlb3 hGF)
    have HQ := Lib.hid (hq.alloc (.cells #[.pointer (some ⟨D, 0, none⟩), .string nm, .slice none 0 0] 51)); have HQF := Lib.hid hqF; have HB2 := Lib.hid hb2; have HGF := Lib.hid hGF; have HLB3 := Lib.hid hlb3
    have HFT := Lib.hid hfoot
    have HQL := Lib.hid (show ∀ k, (Value.slice A2 p.length c2).ownBlock = some k → k < w2.heap.size from fun k hk => (hq.lt k hk).2)
    clear hq hb2 hd2 hr2 hfoot hqF hGF hlb3
    go_wp2_with fail
    refine HC3.out.mono ?_
    rintro e w4 ⟨rfl, F1, hd4, ht4, hs4⟩
    have hq4 := HQ.out.turned ht4 HQF.out
    obtain ⟨A2', c2', hv2', hr4⟩ := hq4.open_
    injection hv2' with e1 e2 e3
    subst e1 e3
    have hlb4 := HLB3.out.turned ht4 HGF.out
    have hGF4 : ¬ F1 w2.heap.size := not_spread HGF.out (by simp) hs4
    have hw4 : w2.heap.size + 1 ≤ w4.heap.size := by have := ht4.size; simpa using this
    have hq4F : ∀ k, (Value.slice A2 p.length c2).ownBlock = some k → ¬ F1 k := fun k hk hf => (hs4 k hf).elim (HQF.out k hk) (fun h2 => by have := HQL.out k hk; simp at h2; omega)
    have HSC := Lib.hid (scan_any A2 p.length c2 w4.heap.size p w4 hr4 (Nat.le_refl _) (by omega))
    have HQ4 := Lib.hid hq4; have HQ4F := Lib.hid hq4F; have HLB4 := Lib.hid hlb4; have HGF4 := Lib.hid hGF4; have HD4 := Lib.hid hd4
    have HT4 := Lib.hid ((((Turned.of_below HB2.out) : Turned F w w2).alloc _).trans ht4); have HS4 := Lib.hid (show Spread F F1 w from fun k hk => (hs4 k hk).imp id (fun h2 => by simp at h2; omega))
    clear hq4 hr4 hlb4 hGF4 hd4 ht4 hs4 hq4F e2 HQ HQF HLB3 HGF
    go_wp2_with fail
    refine HSC.out.mono ?_
    rintro e w5 ⟨v5, rs, rfl, hrec5, hrs, hb5⟩
    obtain ⟨A5, c5, hv5, hc5, hc5m⟩ := hrec5.form
    subst hv5
    have hw5 : w4.heap.size ≤ w5.heap.size := hb5.size
    have HREC5 := Lib.hid hrec5.bound
    have HRS := Lib.hid hrs
    have HF1 := Lib.hid (show ∀ k, F1 k → k < w4.heap.size from fun k hk => HD4.out.foot hk)
    have HD5 := Lib.hid (HD4.out.below hb5)
    have HLB5 := Lib.hid (HLB4.out.turned (P := fun _ => False) (Turned.of_below hb5) (fun h => h))
    have HQ5 := Lib.hid (HQ4.out.below hb5)
    have HT5 := Lib.hid (HT4.out.trans' HS4.out (Turned.of_below hb5))
    clear hrec5 hrs hb5
    generalize hen : (M.scan p).2 = en at *
    have HEN := Lib.hid hen
    clear hen
    generalize rs.length = nr at *
    have hrp := replace_any D w2.heap.size F1 s1 nm (.slice none 0 0) A2 en c2 (p.take en) w5 HD5.out HLB5.out HGF4.out (by omega) (by omega) (own_firm HQ5.out HQ4F.out (by omega))
    have HE3 := Lib.hid (show openedR s nm = replacedR s1 nm (p.take en) by rw [HE2.out, if_pos hcut])
    rw [HE3.out] at ho
    generalize replacedR s1 nm (p.take en) = r6 at *
    obtain ⟨x6, s6⟩ := r6
    simp only at hrp ho
    subst ho
    have HRP := Lib.hid hrp
    clear hrp
    generalize hnp : p.length = np at *
    clear hnp
    go_wp2_with fail
    refine HRP.out.mono ?_
    rintro e w6 ⟨rfl, F6, hd6, ht6, hs6⟩
    have hlb6 := HLB5.out.turned ht6 HGF4.out
    have l2 := hlb6.c2; have lf := hlb6.f2
    have hGF6 : ¬ F6 w2.heap.size := not_spread HGF4.out (by omega) hs6
    have hrec6 := HREC5.out.turned ht6 (fun k hk hf => by have := HF1.out k hf; omega)
    have HFIN := Lib.hid (log_made hlb6 hrec6 ht6.size (by omega) hw5)
    have HD7 := Lib.hid (hd6.far (G := (· = w2.heap.size)) ((Turned.refl (· = w2.heap.size) w6).setCell (p := ⟨w2.heap.size, 2, none⟩) (.inl rfl) (.slice A5 nr c5)) (fun k hk e => hGF6 (e ▸ hk)))
    have HT7 := Lib.hid ((HT5.out.trans' (F' := F1) HS4.out ht6).setCell (p := ⟨w2.heap.size, 2, none⟩) (.inr hw2) (.slice A5 nr c5))
    have HS7 := Lib.hid (HS4.out.trans HT5.out.size hs6)
    have HAP := Lib.hid (show ∀ k, (k = w2.heap.size ∨ (w4.heap.size ≤ k ∧ k < w5.heap.size)) → ¬ F6 k from fun k hk hf => by
      rcases hk with rfl | hk
      · exact hGF6 hf
      · rcases hs6 k hf with h1 | h1
        · have := HF1.out k h1; omega
        · omega)
    clear hd6 ht6 hs6 hlb6 hGF6 hrec6
    go_wp2
    go_ret2
    rw [HE3.out]
    exact ⟨w2.heap.size, _, rs, F6, rfl, HFIN.out, HRS.out, HD7.out, fun k hk => by omega, HAP.out, HT7.out, HS7.out⟩
  · go_enter Try.func7, Try.ntmps7
    go_wp2_with fail
    refine HNM.out.mono ?_
    rintro e w1 ⟨rfl, hw1⟩
    rw [hw1, hok]
    clear hw1 w1
    go_wp2_with fail
    refine HRD.out.mono ?_
    rintro e w2 ⟨q, rfl, hq, hb2, hd2⟩
    have hq : Own w2 w.heap.size 5 q p := hq
    obtain ⟨A2, c2, hv2, hr2⟩ := hq.open_
    have hc2 := hr2.cap; have hc2m := hr2.max
    have hfoot : ∀ k, F k → k < w.heap.size := fun k hk => HD0.out.foot hk
    have hqF : ∀ k, q.ownBlock = some k → ¬ F k := fun k hk hf => by have := (hq.lt k hk).1; have := hfoot k hf; omega
    have hw2 : w.heap.size ≤ w2.heap.size := hb2.size
    subst hv2
    have hGF : ¬ F w2.heap.size := fun hf => by have := hfoot _ hf; omega
    have hlb3 : LB (w2.alloc (.cells #[.pointer (some ⟨D, 0, none⟩), .string nm, .slice none 0 0] 51)) w2.heap.size D nm (.slice none 0 0) := heapNew (w := w2) _
    have HC3 := Lib.hid (HDR.out _ w2.heap.size _ (hd2.alloc (.cells #[.pointer (some ⟨D, 0, none⟩), .string nm, .slice none 0 0] 51)) hlb3 hGF)
    have HQ := Lib.hid (hq.alloc (.cells #[.pointer (some ⟨D, 0, none⟩), .string nm, .slice none 0 0] 51)); have HQF := Lib.hid hqF; have HB2 := Lib.hid hb2; have HGF := Lib.hid hGF; have HLB3 := Lib.hid hlb3
    have HFT := Lib.hid hfoot
    have HQL := Lib.hid (show ∀ k, (Value.slice A2 p.length c2).ownBlock = some k → k < w2.heap.size from fun k hk => (hq.lt k hk).2)
    clear hq hb2 hd2 hr2 hfoot hqF hGF hlb3
    go_wp2_with fail
    refine HC3.out.mono ?_
    rintro e w4 ⟨rfl, F1, hd4, ht4, hs4⟩
    have hq4 := HQ.out.turned ht4 HQF.out
    obtain ⟨A2', c2', hv2', hr4⟩ := hq4.open_
    injection hv2' with e1 e2 e3
    subst e1 e3
    have hlb4 := HLB3.out.turned ht4 HGF.out
    have hGF4 : ¬ F1 w2.heap.size := not_spread HGF.out (by simp) hs4
    have hw4 : w2.heap.size + 1 ≤ w4.heap.size := by have := ht4.size; simpa using this
    have hq4F : ∀ k, (Value.slice A2 p.length c2).ownBlock = some k → ¬ F1 k := fun k hk hf => (hs4 k hf).elim (HQF.out k hk) (fun h2 => by have := HQL.out k hk; simp at h2; omega)
    have HSC := Lib.hid (scan_any A2 p.length c2 w4.heap.size p w4 hr4 (Nat.le_refl _) (by omega))
    have HQ4 := Lib.hid hq4; have HQ4F := Lib.hid hq4F; have HLB4 := Lib.hid hlb4; have HGF4 := Lib.hid hGF4; have HD4 := Lib.hid hd4
    have HT4 := Lib.hid ((((Turned.of_below HB2.out) : Turned F w w2).alloc _).trans ht4); have HS4 := Lib.hid (show Spread F F1 w from fun k hk => (hs4 k hk).imp id (fun h2 => by simp at h2; omega))
    clear hq4 hr4 hlb4 hGF4 hd4 ht4 hs4 hq4F e2 HQ HQF HLB3 HGF
    go_wp2_with fail
    refine HSC.out.mono ?_
    rintro e w5 ⟨v5, rs, rfl, hrec5, hrs, hb5⟩
    obtain ⟨A5, c5, hv5, hc5, hc5m⟩ := hrec5.form
    subst hv5
    have hw5 : w4.heap.size ≤ w5.heap.size := hb5.size
    have HREC5 := Lib.hid hrec5.bound
    have HRS := Lib.hid hrs
    have HF1 := Lib.hid (show ∀ k, F1 k → k < w4.heap.size from fun k hk => HD4.out.foot hk)
    have HD5 := Lib.hid (HD4.out.below hb5)
    have HLB5 := Lib.hid (HLB4.out.turned (P := fun _ => False) (Turned.of_below hb5) (fun h => h))
    have HQ5 := Lib.hid (HQ4.out.below hb5)
    have HT5 := Lib.hid (HT4.out.trans' HS4.out (Turned.of_below hb5))
    clear hrec5 hrs hb5
    generalize hen : (M.scan p).2 = en at *
    have HEN := Lib.hid hen
    clear hen
    generalize rs.length = nr at *
    have HE3 := Lib.hid (show openedR s nm = (0, s1) by rw [HE2.out, if_neg hcut])
    generalize hnp : p.length = np at *
    clear hnp
    have l2 := HLB5.out.c2; have lf := HLB5.out.f2
    have HFIN := Lib.hid (log_made HLB5.out HREC5.out (Nat.le_refl _) (by omega) hw5)
    have HD7 := Lib.hid (HD5.out.far (G := (· = w2.heap.size)) ((Turned.refl (· = w2.heap.size) w5).setCell (p := ⟨w2.heap.size, 2, none⟩) (.inl rfl) (.slice A5 nr c5)) (fun k hk e => HGF4.out (e ▸ hk)))
    have HT7 := Lib.hid (HT5.out.setCell (p := ⟨w2.heap.size, 2, none⟩) (.inr hw2) (.slice A5 nr c5))
    go_wp2
    go_ret2
    rw [HE3.out]
    exact ⟨w2.heap.size, _, rs, F1, rfl, HFIN.out, HRS.out, HD7.out, fun k hk => by omega, fun k hk hf => by
      rcases hk with rfl | hk
      · exact HGF4.out hf
      · have := HF1.out k hf; omega, HT7.out, HS4.out⟩
  · go_enter Try.func7, Try.ntmps7
    go_wp2_with fail
    refine HNM.out.mono ?_
    rintro e w1 ⟨rfl, hw1⟩
    rw [hw1, hok]
    clear hw1 w1
    go_wp2_with fail
    refine HRD.out.mono ?_
    rintro e w2 ⟨q, rfl, hq, hb2, hd2⟩
    have hq : Own w2 w.heap.size 5 q p := hq
    obtain ⟨A2, c2, hv2, hr2⟩ := hq.open_
    have hc2 := hr2.cap; have hc2m := hr2.max
    have hfoot : ∀ k, F k → k < w.heap.size := fun k hk => HD0.out.foot hk
    have hqF : ∀ k, q.ownBlock = some k → ¬ F k := fun k hk hf => by have := (hq.lt k hk).1; have := hfoot k hf; omega
    have hw2 : w.heap.size ≤ w2.heap.size := hb2.size
    subst hv2
    have hGF : ¬ F w2.heap.size := fun hf => by have := hfoot _ hf; omega
    have hlb3 : LB (w2.alloc (.cells #[.pointer (some ⟨D, 0, none⟩), .string nm, .slice none 0 0] 51)) w2.heap.size D nm (.slice none 0 0) := heapNew (w := w2) _
    have HC3 := Lib.hid (HDR.out _ w2.heap.size _ (hd2.alloc (.cells #[.pointer (some ⟨D, 0, none⟩), .string nm, .slice none 0 0] 51)) hlb3 hGF)
    have HQ := Lib.hid (hq.alloc (.cells #[.pointer (some ⟨D, 0, none⟩), .string nm, .slice none 0 0] 51)); have HQF := Lib.hid hqF; have HB2 := Lib.hid hb2; have HGF := Lib.hid hGF; have HLB3 := Lib.hid hlb3
    have HFT := Lib.hid hfoot
    have HQL := Lib.hid (show ∀ k, (Value.slice A2 p.length c2).ownBlock = some k → k < w2.heap.size from fun k hk => (hq.lt k hk).2)
    clear hq hb2 hd2 hr2 hfoot hqF hGF hlb3
    go_wp2_with fail
    refine HC3.out.mono ?_
    rintro e w4 ⟨rfl, F1, hd4, ht4, hs4⟩
    have hq4 := HQ.out.turned ht4 HQF.out
    obtain ⟨A2', c2', hv2', hr4⟩ := hq4.open_
    injection hv2' with e1 e2 e3
    subst e1 e3
    have hlb4 := HLB3.out.turned ht4 HGF.out
    have hGF4 : ¬ F1 w2.heap.size := not_spread HGF.out (by simp) hs4
    have hw4 : w2.heap.size + 1 ≤ w4.heap.size := by have := ht4.size; simpa using this
    have hq4F : ∀ k, (Value.slice A2 p.length c2).ownBlock = some k → ¬ F1 k := fun k hk hf => (hs4 k hf).elim (HQF.out k hk) (fun h2 => by have := HQL.out k hk; simp at h2; omega)
    have HSC := Lib.hid (scan_any A2 p.length c2 w4.heap.size p w4 hr4 (Nat.le_refl _) (by omega))
    have HQ4 := Lib.hid hq4; have HQ4F := Lib.hid hq4F; have HLB4 := Lib.hid hlb4; have HGF4 := Lib.hid hGF4; have HD4 := Lib.hid hd4
    have HT4 := Lib.hid ((((Turned.of_below HB2.out) : Turned F w w2).alloc _).trans ht4); have HS4 := Lib.hid (show Spread F F1 w from fun k hk => (hs4 k hk).imp id (fun h2 => by simp at h2; omega))
    clear hq4 hr4 hlb4 hGF4 hd4 ht4 hs4 hq4F e2 HQ HQF HLB3 HGF
    go_wp2_with fail
    refine HSC.out.mono ?_
    rintro e w5 ⟨v5, rs, rfl, hrec5, hrs, hb5⟩
    obtain ⟨A5, c5, hv5, hc5, hc5m⟩ := hrec5.form
    subst hv5
    have hw5 : w4.heap.size ≤ w5.heap.size := hb5.size
    have HREC5 := Lib.hid hrec5.bound
    have HRS := Lib.hid hrs
    have HF1 := Lib.hid (show ∀ k, F1 k → k < w4.heap.size from fun k hk => HD4.out.foot hk)
    have HD5 := Lib.hid (HD4.out.below hb5)
    have HLB5 := Lib.hid (HLB4.out.turned (P := fun _ => False) (Turned.of_below hb5) (fun h => h))
    have HQ5 := Lib.hid (HQ4.out.below hb5)
    have HT5 := Lib.hid (HT4.out.trans' HS4.out (Turned.of_below hb5))
    clear hrec5 hrs hb5
    generalize hen : (M.scan p).2 = en at *
    have HEN := Lib.hid hen
    clear hen
    generalize rs.length = nr at *
    have HE3 := Lib.hid (show openedR s nm = (0, s1) by rw [HE2.out, if_neg hcut])
    generalize hnp : p.length = np at *
    clear hnp
    have l2 := HLB5.out.c2; have lf := HLB5.out.f2
    have HFIN := Lib.hid (log_made HLB5.out HREC5.out (Nat.le_refl _) (by omega) hw5)
    have HD7 := Lib.hid (HD5.out.far (G := (· = w2.heap.size)) ((Turned.refl (· = w2.heap.size) w5).setCell (p := ⟨w2.heap.size, 2, none⟩) (.inl rfl) (.slice A5 nr c5)) (fun k hk e => HGF4.out (e ▸ hk)))
    have HT7 := Lib.hid (HT5.out.setCell (p := ⟨w2.heap.size, 2, none⟩) (.inr hw2) (.slice A5 nr c5))
    go_wp2
    go_ret2
    rw [HE3.out]
    exact ⟨w2.heap.size, _, rs, F1, rfl, HFIN.out, HRS.out, HD7.out, fun k hk => by omega, fun k hk hf => by
      rcases hk with rfl | hk
      · exact HGF4.out hf
      · have := HF1.out k hf; omega, HT7.out, HS4.out⟩
end Go.Proofs.Ytbhginnfkmajgaa
