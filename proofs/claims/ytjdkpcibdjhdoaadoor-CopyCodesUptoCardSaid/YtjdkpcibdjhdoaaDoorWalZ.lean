/-
  Joined: WalA WalB WalC WalD WalE WalF WalG WalH WalI WalK WalL WalN WalQ.
-/
import Derived.Test.YtjdkpcibdjhdoaaDoorWalMath
import Derived.Test.YtjdkpcibdjhdoaaDoorPackO
import Derived.Test.YtjdkpcibdjhdoaaDoorDiskR
import Derived.Deep.AppendLies
import Derived.Deep.RegionHeld3
import Derived.Deep.DrawnRows
import Derived.Deep.RegionLaw
import Derived.Great.BuildSlice
import Derived.Lib.SlBytesConst
import Derived.Test.YtjdkpcibdjhdoaaDoorPackP
import Derived.Test.YtjdkpcibdjhdoaaDoorMemW
import Derived.StillTailTactics
import Derived.Test.YtjdkpcibdjhdoaaDoorRows
import Derived.Test.YtjdkpcibdjhdoaaDoorOpen
namespace Go.Proofs.YtjdkpcibdjhdoaaDoor
open Go.RowKit Mem
set_option linter.unusedVariables false
set_option maxRecDepth 100000

theorem Tryd.infoR : (Tryd.prog.info? 27).map (fun i => (i.zero, i.size, i.bytes)) = some (some (.slice none 0 0), 1, 24) := by kernel_rfl

/-- a record: its slice, its bytes -/
structure Rec where
  v : Value
  l : List UInt8
def recs (rs : List Rec) : List (List UInt8) := rs.map Rec.l

/-- the slice v holds the records rs; all their blocks are of F -/
def RecsAt (w : World) (F : Nat → Prop) (v : Value) (rs : List Rec) : Prop :=
  w.ownsRow 0 27 1 v rs.length (rs.map Rec.v) ∧ (∀ k, v.ownBlock = some k → F k) ∧ ∀ r ∈ rs, Own w 0 5 r.v r.l ∧ (∀ k, r.v.ownBlock = some k → F k) ∧ r.l.length ≤ 65535

section
variable {w w' : World} {F F' G : Nat → Prop} {v : Value} {rs : List Rec}
theorem row_turned {base n size : Nat} {e : TypeId} {xs : List Value} (h : w.ownsRow base e size v n xs) (ht : Turned G w w') (hn : ∀ k, v.ownBlock = some k → ¬ G k) : w'.ownsRow base e size v n xs := by
  refine ⟨h.1, ?_⟩
  rcases h.2 with h2 | ⟨g, cap, cur, rfl, hg, hh, r⟩
  · exact .inl h2
  · exact .inr ⟨g, cap, cur, rfl, hg, (ht.block g (Array.getElem?_eq_some_iff.1 hh).1 (hn g rfl)).trans hh, r⟩
theorem row_block {n size base : Nat} {e : TypeId} {xs : List Value} {k : Nat} (h : w.ownsRow base e size v n xs) (hk : v.ownBlock = some k) : ∃ cur, w.heap[k]? = some (.cells cur e (0, 0)) := by
  rcases h.2 with ⟨rfl, _⟩ | ⟨g, cap, cur, rfl, _, hh, _⟩
  · cases hk
  · simp only [Value.ownBlock, Option.some.injEq] at hk
    subst hk
    exact ⟨cur, hh⟩
theorem RecsAt.nil : RecsAt w F (.slice none 0 0) [] := ⟨World.ownsRow_nil _ _ _ _, by simp [Value.ownBlock], by simp⟩
theorem RecsAt.turned (h : RecsAt w F v rs) (ht : Turned G w w') (hd : ∀ k, F k → ¬ G k) : RecsAt w' F v rs :=
  ⟨row_turned h.1 ht (fun k hk => hd k (h.2.1 k hk)), h.2.1, fun r hr => ⟨(h.2.2 r hr).1.turned ht (fun k hk => hd k ((h.2.2 r hr).2.1 k hk)), (h.2.2 r hr).2⟩⟩
theorem RecsAt.below (h : RecsAt w F v rs) (hb : Below w.heap.size w w') : RecsAt w' F v rs := h.turned (G := fun _ => False) (Turned.of_below hb) (fun _ _ h => h)
theorem RecsAt.alloc (h : RecsAt w F v rs) (o : Obj) : RecsAt (w.alloc o) F v rs := h.below ((Below.refl _ w).alloc (Nat.le_refl _) o)
theorem RecsAt.more (h : RecsAt w F v rs) (hF : ∀ k, F k → F' k) : RecsAt w F' v rs := ⟨h.1, fun k hk => hF k (h.2.1 k hk), fun r hr => ⟨(h.2.2 r hr).1, fun k hk => hF k ((h.2.2 r hr).2.1 k hk), (h.2.2 r hr).2.2⟩⟩
theorem RecsAt.form (h : RecsAt w F v rs) : ∃ A c, v = .slice A rs.length c ∧ rs.length ≤ c ∧ c ≤ 9223372036854775807 := by
  rcases h.1.2 with ⟨rfl, h0⟩ | ⟨g, cap, cur, rfl, _, _, h1, h2, _⟩
  · exact ⟨none, 0, by rw [h0], by omega, by omega⟩
  · exact ⟨_, cap, rfl, h1, by simpa only [maxLen] using h2⟩
/-- one more record -/
theorem RecsAt.grow {gg cap : Nat} {r : Rec} {o : Obj} (h : RecsAt w F v rs) (hr : Own w 0 5 r.v r.l) (hl : r.l.length ≤ 65535) (hrF : ∀ k, r.v.ownBlock = some k → F k) (hgg : v.ownBlock = some gg ∨ F gg)
    (hrow : w'.ownsRow 0 27 1 (.slice (some ⟨gg, 0, none⟩) (rs.length + 1) cap) (rs.length + 1) (rs.map Rec.v ++ [r.v])) (hgrow : (w.alloc o).grownBy w' v.ownBlock) :
    RecsAt w' F (.slice (some ⟨gg, 0, none⟩) (rs.length + 1) cap) (rs ++ [r]) := by
  have hne : ∀ s : Rec, Own w 0 5 s.v s.l → s.v.ownBlock = none ∨ s.v.ownBlock ≠ v.ownBlock := fun s hs => by
    rcases hb : s.v.ownBlock with _ | k
    · exact .inl rfl
    · refine .inr (fun e => ?_)
      obtain ⟨cur, hh⟩ := own_heap hs hb
      obtain ⟨cur2, hh2⟩ := row_block h.1 e.symm
      have := hh.symm.trans hh2
      simp at this
  have hold : ∀ s : Rec, Own w 0 5 s.v s.l → Own w' 0 5 s.v s.l := fun s hs => (hs.alloc o).kept hgrow (hne s hs)
  refine ⟨?_, ?_, ?_⟩
  · rw [List.length_append, List.map_append]
    exact hrow
  · intro k hk
    injection hk with hk
    have hk : gg = k := hk
    subst hk
    exact hgg.elim (fun e => h.2.1 gg e) id
  · intro s hs
    rcases List.mem_append.1 hs with hs | hs
    · exact ⟨hold s (h.2.2 s hs).1, (h.2.2 s hs).2⟩
    · simp only [List.mem_singleton] at hs
      subst hs
      exact ⟨hold s hr, hrF, hl⟩
theorem rec_one {r : Rec} {b : Nat} (h : Own w b 5 r.v r.l) : r.v.oneCell' = true := by
  obtain ⟨A, c, hv, _⟩ := h.open_
  rw [hv]; rfl
end

/-- what Scan tells: records in new memory -/
def Scanned (l : List UInt8) (w : World) (e : Ending) (w' : World) : Prop :=
  ∃ v rs, e = .returned (.tuple #[v, .int .i64 ((M.scan l).2 : Int)]) ∧ RecsAt w' (fun k => w.heap.size ≤ k) v rs ∧ recs rs = (M.scan l).1 ∧ Below w.heap.size w w'

def ScanInv (l : List UInt8) (w : World) (k : Nat) (v : Value) (rs : List Rec) (wr : World) : Prop :=
  RecsAt wr (fun b => w.heap.size ≤ b) v rs ∧ Below w.heap.size w wr ∧ recs rs ++ (M.scanFrom l k).1 = (M.scan l).1 ∧ (M.scanFrom l k).2 = (M.scan l).2

set_option maxHeartbeats 1000000 in
theorem scan_any (A : Option Addr) (n c B : Nat) (l : List UInt8) (w : World) (h : Rd w B A n c l) (hB : B ≤ w.heap.size) (hl : n ≤ 1073741824) :
    Calls Tryd.prog 55 #[.slice A n c] w (Scanned l w) := by
  obtain ⟨i0, hi, hz0, hz1, hz2⟩ := info_parts Tryd.infoR
  have HI := Lib.hid hi; have HZ0 := Lib.hid hz0; have HZ1 := Lib.hid hz1; have HZ2 := Lib.hid hz2
  clear hi hz0 hz1 hz2
  have HN := Lib.hid h.len; have HR := Lib.hid h
  have hc := h.cap; have hcm := h.max
  clear h
  have HS0 := Lib.hid (show ScanInv l w 0 (.slice none 0 0) [] w from ⟨RecsAt.nil, Below.refl _ _, rfl, rfl⟩)
  go_enter Tryd.func55, Tryd.ntmps55
  go_wp2
  go_loopw [4, 5] (fun o p wr => ∃ (k m c2 : Nat) (A2 : Option Addr) (rs : List Rec), p = .int .i64 k ∧ o = .slice A2 m c2 ∧ k ≤ n ∧ m ≤ k ∧ Hid (rs.length = m) ∧ Hid (ScanInv l w k (.slice A2 m c2) rs wr)) (fun _ p _ => n - (intOf p).toNat)
  case atStart => exact ⟨0, 0, 0, none, [], rfl, rfl, Nat.zero_le _, Nat.le_refl _, Lib.hid rfl, HS0⟩
  case round =>
    obtain ⟨k, m, c2, A2, rs, rfl, rfl, hk, hmk, HM, HV⟩ := hrel
    rename World => wr
    obtain ⟨hrec, hb, hs1, hs2⟩ := HV.out
    have hrf := readFrame_own A n c B l (k : Int) wr (HR.out.below (hb.mono hB)) (Nat.le_trans hB hb.size) (by omega) (by omega) (by omega)
    have hbs : w.heap.size ≤ wr.heap.size := hb.size
    by_cases hok : (M.rdFrame l (k : Int)).2.2 = 0
    · obtain ⟨a1, a2, a3, a4⟩ := M.rdFrame_adv hok
      have hsf := M.scanFrom_ok hok
      rw [hsf] at hs1 hs2
      have HS1 := Lib.hid hs1; have HS2 := Lib.hid hs2; have HREC := Lib.hid hrec; have HB := Lib.hid hb
      have HOK := Lib.hid hok
      have hln : l.length = n := HN.out.symm
      rw [hln] at a2
      have HA4 := Lib.hid a4
      generalize hrr : M.rdFrame l (k : Int) = rr at *
      obtain ⟨p, nx, er⟩ := rr
      simp only at hrf a1 a2 HS1 HS2 HOK HA4 hok
      subst hok
      have HRF := Lib.hid hrf
      clear hrf hs1 hs2 hrec hb hsf hln a3 a4 hrr HOK
      go_wp2_with fail
      refine HRF.out.mono ?_
      rintro e w1 ⟨A1, n1, c1, rfl, hown1, hb1⟩
      have HROW1 := Lib.hid (HREC.out.below hb1)
      have HRM := Lib.hid (show w1.ownsRow 0 27 1 (.slice A2 m c2) m (rs.map Rec.v) by have := HROW1.out.1; rwa [HM.out] at this)
      have HOWN1 := Lib.hid hown1
      have HB1 := Lib.hid (HB.out.trans (hb1.mono HB.out.size))
      have hw1 : wr.heap.size ≤ w1.heap.size := hb1.size
      clear hown1 hb1
      go_wp2_with (at_builtin; go_must (refine wpList_append_lies _ rfl (.tmp 20) (.tmp 22) _ rfl 0 27 i0 _ 1 24 Tryd.underlying104 HI.out HZ0.out HZ1.out HZ2.out rfl (by omega) (.slice A2 m c2) m _ rfl (HRM.out.alloc _) ⟨w1.heap.size, 0, none⟩ 1 1 [.slice A1 n1 c1] rfl rfl (World.news_of_block (cs := #[.slice A1 n1 c1]) (t := 27) (fr := (0, 0)) (heap_alloc_new w1 _)) (by simp [Value.oneCell']) (by omega) (by simp only [maxLen]; omega) (by omega) (Nat.zero_le _) (w1.heap.size + 1) (by simp) ?_))
      intro g9 cap9 w9 hown9 hgrow9 hat9 hlt9
      have hR9 := HROW1.out.grow (gg := g9) (cap := cap9) (r := ⟨.slice A1 n1 c1, p⟩) (HOWN1.out.less (Nat.zero_le _)) HA4.out (fun k' hk' => Nat.le_trans hbs (HOWN1.out.lt k' hk').1) (hat9.imp id (fun e => by omega)) (by rw [HM.out]; exact hown9) hgrow9
      rw [HM.out] at hR9
      have HV9 := Lib.hid (show ScanInv l w nx (.slice (some ⟨g9, 0, none⟩) (m + 1) cap9) (rs ++ [⟨.slice A1 n1 c1, p⟩]) w9 from
        ⟨hR9, (HB1.out.alloc HB1.out.size _).grown hgrow9 (by have := HB1.out.size; simp; omega) (fun k' hk' => HROW1.out.2.1 k' hk'), by rw [← HS1.out]; simp [recs], HS2.out⟩)
      have HM9 := Lib.hid (show (rs ++ [(⟨.slice A1 n1 c1, p⟩ : Rec)]).length = m + 1 by rw [List.length_append, HM.out]; rfl)
      clear hown9 hgrow9 hat9 hR9
      go_wp2
      go_roundw
      case rel => exact ⟨nx, m + 1, cap9, _, _, rfl, rfl, by omega, by omega, HM9, HV9⟩
      case measure => simp [intOf]; omega
    · have hsf := M.scanFrom_no hok
      rw [hsf] at hs1 hs2
      have HS1 := Lib.hid hs1; have HS2 := Lib.hid hs2; have HREC := Lib.hid hrec; have HB := Lib.hid hb
      generalize M.rdFrame l (k : Int) = rr at *
      obtain ⟨p, nx, er⟩ := rr
      simp only at hrf hok
      have HRF := Lib.hid hrf
      have hq : ((er : Int) != 0) = true := by simp; omega
      clear hrf hs1 hs2 hrec hb hsf
      go_wp2_with fail
      refine HRF.out.mono ?_
      rintro e w1 ⟨A1, n1, c1, rfl, hown1, hb1⟩
      have HB1 := Lib.hid hb1
      clear hown1 hb1
      go_wp2
      go_ret2
      refine ⟨_, rs, by rw [← HS2.out]; rfl, HREC.out.below HB1.out, ?_, HB.out.trans (HB1.out.mono HB.out.size)⟩
      have := HS1.out
      simpa using this
end Go.Proofs.YtjdkpcibdjhdoaaDoor

namespace Go.Proofs.YtjdkpcibdjhdoaaDoor
open Go.RowKit Mem FM
set_option linter.unusedVariables false
set_option maxRecDepth 100000
attribute [local go_sem ↓] Go.wp_at_zero Go.wp_at_succ

/-- the block of a log -/
def LB (w : World) (G D : Nat) (nm : ByteArray) (v : Value) : Prop := w.heap[G]? = some (.cells #[.pointer (some ⟨D, 0, none⟩), .string nm, v] 106 (0, 0))
section
variable {w w' : World} {G D : Nat} {nm : ByteArray} {v : Value}
theorem LB.c0 (h : LB w G D nm v) : w.cell? ⟨G, 0, none⟩ = some (.pointer (some ⟨D, 0, none⟩)) := (cellAt 0 h).trans rfl
theorem LB.c1 (h : LB w G D nm v) : w.cell? ⟨G, 1, none⟩ = some (.string nm) := (cellAt 1 h).trans rfl
theorem LB.c2 (h : LB w G D nm v) : w.cell? ⟨G, 2, none⟩ = some v := (cellAt 2 h).trans rfl
theorem LB.f2 (h : LB w G D nm v) : w.frozen? ⟨G, 2, none⟩ = false := freeAt 2 h
theorem LB.s2 (h : LB w G D nm v) (u : Value) : LB (w.setCell ⟨G, 2, none⟩ u) G D nm u := (heapSet 2 u h).trans rfl
theorem LB.lt (h : LB w G D nm v) : G < w.heap.size := heapLt h
theorem LB.turned {P : Nat → Prop} (h : LB w G D nm v) (ht : Turned P w w') (hn : ¬ P G) : LB w' G D nm v := (ht.block G h.lt hn).trans h
end

def newEnd : ByteArray := ⟨#[46, 110, 101, 119]⟩
def nmN (nm : ByteArray) : ByteArray := nm ++ newEnd
def droppedR (s : St) (nm : ByteArray) : Int × St := if (removed s (nmN nm)).1 = 8 then (0, (removed s (nmN nm)).2) else removed s (nmN nm)

theorem Did.from2 {F : Nat → Prop} {D : Nat} {x : Int} {s : St} {w w1 : World} (ht : Turned F w w1) {e : Ending} {w' : World} (h : Did F D x s w1 e w') : Did F D x s w e w' := h.from_ ht

set_option maxHeartbeats 1000000 in
theorem dropNew_any (D G : Nat) (F : Nat → Prop) (s : St) (nm : ByteArray) (v : Value) (w : World) (h : DiskAt w F D s) (hl : LB w G D nm v) (hG : ¬ F G) (hn : nm.size ≤ 100) (hops : s.ops + 1 < 1099511627776) :
    Calls Tryd.prog 54 #[.pointer (some ⟨G, 0, none⟩)] w (Did F D (droppedR s nm).1 (droppedR s nm).2 w) := by
  have c0 := hl.c0; have c1 := hl.c1
  have hsz : (nmN nm).size ≤ 9223372036854775807 := by unfold nmN; rw [ByteArray.size_append]; show nm.size + 4 ≤ _; omega
  have HR := Lib.hid (remove_any D F s (nmN nm) w.drew h.drew hsz hops)
  have HG := Lib.hid hG
  have hGl := hl.lt
  have hsz2 : ¬ 9223372036854775807 < nm.size + 4 := by omega
  have hadd : nm ++ (⟨#[46, 110, 101, 119]⟩ : ByteArray) = nmN nm := rfl
  have HE := Lib.hid (show droppedR s nm = if (removed s (nmN nm)).1 = 8 then (0, (removed s (nmN nm)).2) else removed s (nmN nm) from rfl)
  clear h hl hsz hG
  generalize hrr : removed s (nmN nm) = rr at *
  obtain ⟨x, s'⟩ := rr
  simp only at HE HR
  by_cases hx : x = 8
  · subst hx
    have HE2 := Lib.hid (show droppedR s nm = (0, s') by rw [HE.out]; rfl)
    clear hrr HE
    go_enter Tryd.func54, Tryd.ntmps54
    go_wp2_with fail
    go_region_held3 (fun w' => w'.cell? ⟨G, 0, none⟩ = some (.pointer (some ⟨D, 0, none⟩)) ∧ w'.cell? ⟨G, 1, none⟩ = some (.string nm)) (go_keep)
      ((go_at_call 71; refine HR.out.mono ?_; rintro e w1 ⟨rfl, F', hd1, ht1, hs1⟩
        have q0 := (ht1.cell (p := ⟨G, 0, none⟩) hGl HG.out).trans c0; have q1 := (ht1.cell (p := ⟨G, 1, none⟩) hGl HG.out).trans c1
        have HD1 := Lib.hid hd1; have HT1 := Lib.hid ht1; have HS1 := Lib.hid hs1; clear hd1 ht1 hs1))
    go_wp2
    go_ret
    rw [HE2.out]
    exact ⟨rfl, F', HD1.out, HT1.out.undrew, HS1.out⟩
  · have hq : (x != 8) = true := by simpa using hx
    have HE2 := Lib.hid (show droppedR s nm = (x, s') by rw [HE.out, if_neg hx])
    clear hrr HE
    go_enter Tryd.func54, Tryd.ntmps54
    go_wp2_with fail
    go_region_held3 (fun w' => w'.cell? ⟨G, 0, none⟩ = some (.pointer (some ⟨D, 0, none⟩)) ∧ w'.cell? ⟨G, 1, none⟩ = some (.string nm)) (go_keep)
      ((go_at_call 71; refine HR.out.mono ?_; rintro e w1 ⟨rfl, F', hd1, ht1, hs1⟩
        have q0 := (ht1.cell (p := ⟨G, 0, none⟩) hGl HG.out).trans c0; have q1 := (ht1.cell (p := ⟨G, 1, none⟩) hGl HG.out).trans c1
        have HD1 := Lib.hid hd1; have HT1 := Lib.hid ht1; have HS1 := Lib.hid hs1; clear hd1 ht1 hs1))
    go_wp2
    go_ret
    rw [HE2.out]
    exact ⟨rfl, F', HD1.out, HT1.out.undrew, HS1.out⟩
end Go.Proofs.YtjdkpcibdjhdoaaDoor

namespace Go.Proofs.YtjdkpcibdjhdoaaDoor
open Go.RowKit Mem FM
set_option linter.unusedVariables false
set_option maxRecDepth 100000
attribute [local go_sem ↓] Go.wp_at_zero Go.wp_at_succ

def repl3 (s : St) (nm : ByteArray) : Int × St := if (synced s (nmN nm)).1 ≠ 0 then synced s (nmN nm) else renamed (synced s (nmN nm)).2 (nmN nm) nm
def repl2 (s : St) (nm : ByteArray) (l : List UInt8) : Int × St := if (putR s (nmN nm) l).1 ≠ 0 then putR s (nmN nm) l else repl3 (putR s (nmN nm) l).2 nm
def replacedR (s : St) (nm : ByteArray) (l : List UInt8) : Int × St := if (droppedR s nm).1 ≠ 0 then droppedR s nm else repl2 (droppedR s nm).2 nm l

theorem removed_ops (s : St) (nm : ByteArray) : (removed s nm).2.ops ≤ s.ops + 1 := by
  unfold removed withDel
  split
  · split
    · simp
    · split <;> simp [St.op]
  · simp
theorem dropped_ops (s : St) (nm : ByteArray) : (droppedR s nm).2.ops ≤ s.ops + 1 := by
  unfold droppedR
  split <;> exact removed_ops s _
theorem wrote_ops (s : St) (n l : List UInt8) : (wrote s n l).2.ops ≤ s.ops + 1 := by
  unfold wrote
  split <;> simp [St.op]
theorem putR_ops (s : St) (nm : ByteArray) (l : List UInt8) : (putR s nm l).2.ops ≤ s.ops + 1 := by
  unfold putR putNew
  split
  · split
    · simp
    · exact wrote_ops _ _ _
  · simp
theorem synced_ops (s : St) (nm : ByteArray) : (synced s nm).2.ops ≤ s.ops + 1 := by
  unfold synced withSync
  split
  · split
    · simp
    · split <;> simp [St.op]
  · simp

/-- a slice that no change of the blocks of F touches -/
def Firm (F : Nat → Prop) (w : World) (A : Option Addr) (n c : Nat) (l : List UInt8) : Prop := ∀ w', Turned F w w' → Rd w' w'.heap.size A n c l
theorem Firm.step {F F' : Nat → Prop} {w w' : World} {A : Option Addr} {n c : Nat} {l : List UInt8} (h : Firm F w A n c l) (ht : Turned F w w') (hs : Spread F F' w) : Firm F' w' A n c l := fun w2 h2 => h w2 (ht.trans' hs h2)

theorem not_spread {F F' : Nat → Prop} {w : World} {G : Nat} (hG : ¬ F G) (hlt : G < w.heap.size) (hs : Spread F F' w) : ¬ F' G := fun h => (hs G h).elim hG (fun h2 => by omega)
theorem Did.then_ {F F1 : Nat → Prop} {D : Nat} {x : Int} {s : St} {w w1 w2 : World} {e : Ending} (ht : Turned F w w1) (hs : Spread F F1 w) (h : Did F1 D x s w1 e w2) : Did F D x s w e w2 := by
  obtain ⟨h1, F', h2, h3, h4⟩ := h
  exact ⟨h1, F', h2, ht.trans' hs h3, hs.trans ht.size h4⟩

set_option maxHeartbeats 2000000 in
theorem replace_any (D G : Nat) (F : Nat → Prop) (s : St) (nm : ByteArray) (v : Value) (A : Option Addr) (n c : Nat) (l : List UInt8) (w : World) (h : DiskAt w F D s) (hl : LB w G D nm v) (hG : ¬ F G) (hn : nm.size ≤ 100) (hops : s.ops + 10 < 1099511627776) (hf : Firm F w A n c l) :
    Calls Tryd.prog 56 #[.pointer (some ⟨G, 0, none⟩), .slice A n c] w (Did F D (replacedR s nm l).1 (replacedR s nm l).2 w) := by
  have c1 := hl.c1
  have hsz : (nmN nm).size ≤ 9223372036854775807 := by unfold nmN; rw [ByteArray.size_append]; show nm.size + 4 ≤ _; omega
  have HD := Lib.hid (dropNew_any D G F s nm v w h hl hG hn (by omega))
  have HG := Lib.hid hG; have HF := Lib.hid hf; have HLB := Lib.hid hl; have HSZ := Lib.hid hsz
  have hGl := hl.lt
  have hsz2 : ¬ 9223372036854775807 < nm.size + 4 := by omega
  have hadd : nm ++ (⟨#[46, 110, 101, 119]⟩ : ByteArray) = nmN nm := rfl
  have HE := Lib.hid (show replacedR s nm l = if (droppedR s nm).1 ≠ 0 then droppedR s nm else repl2 (droppedR s nm).2 nm l from rfl)
  have hop1 := dropped_ops s nm
  clear h hl hsz hG hf
  generalize hd1 : droppedR s nm = d1 at *
  clear hd1
  obtain ⟨x1, s1⟩ := d1
  simp only at HE HD hop1
  by_cases hx1 : x1 = 0
  case neg =>
    have hq : (x1 != 0) = true := by simpa using hx1
    have HE2 := Lib.hid (show replacedR s nm l = (x1, s1) by rw [HE.out, if_pos hx1])
    go_enter Tryd.func56, Tryd.ntmps56
    go_wp2_with fail
    refine HD.out.mono ?_
    rintro e w1 hdid
    have HDID := Lib.hid hdid
    obtain ⟨rfl, -⟩ := hdid
    go_wp2
    go_ret
    rw [HE2.out]
    exact HDID.out
  subst hx1
  have HE2 := Lib.hid (show replacedR s nm l = repl2 s1 nm l by rw [HE.out]; rfl)
  have HP := Lib.hid (show repl2 s1 nm l = if (putR s1 (nmN nm) l).1 ≠ 0 then putR s1 (nmN nm) l else repl3 (putR s1 (nmN nm) l).2 nm from rfl)
  have hop2 := putR_ops s1 (nmN nm) l
  have HPUT := Lib.hid (fun (w1 : World) (F1 : Nat → Prop) (hd : DiskAt w1 F1 D s1) (hr : Rd w1 w1.heap.size A n c l) => put_any D w1.heap.size F1 s1 (nmN nm) A n c l w1 hd HSZ.out hr (Nat.le_refl _) (by omega))
  clear HE
  generalize hd2 : putR s1 (nmN nm) l = d2 at *
  clear hd2
  obtain ⟨x2, s2⟩ := d2
  simp only at HP HPUT hop2
  by_cases hx2 : x2 = 0
  case neg =>
    have hq : (x2 != 0) = true := by simpa using hx2
    have HE3 := Lib.hid (show replacedR s nm l = (x2, s2) by rw [HE2.out, HP.out, if_pos hx2])
    go_enter Tryd.func56, Tryd.ntmps56
    go_wp2_with fail
    refine HD.out.mono ?_
    rintro e w1 ⟨rfl, F1, hd1, ht1, hs1⟩
    have q0 := (HLB.out.turned ht1 HG.out).c0
    have HC := Lib.hid (HPUT.out w1 F1 hd1 (HF.out w1 ht1))
    have HT1 := Lib.hid ht1; have HS1 := Lib.hid hs1
    clear hd1 ht1 hs1
    go_wp2_with fail
    refine HC.out.mono ?_
    rintro e w2 hdid
    have HDID := Lib.hid (Did.then_ HT1.out HS1.out hdid)
    obtain ⟨rfl, -⟩ := hdid
    go_wp2
    go_ret
    rw [HE3.out]
    exact HDID.out
  subst hx2
  have HE3 := Lib.hid (show replacedR s nm l = repl3 s2 nm by rw [HE2.out, HP.out]; rfl)
  have HY := Lib.hid (show repl3 s2 nm = if (synced s2 (nmN nm)).1 ≠ 0 then synced s2 (nmN nm) else renamed (synced s2 (nmN nm)).2 (nmN nm) nm from rfl)
  have hop3 := synced_ops s2 (nmN nm)
  have HSY := Lib.hid (fun (w1 : World) (F1 : Nat → Prop) (hd : DiskAt w1 F1 D s2) => sync_any D F1 s2 (nmN nm) w1 hd HSZ.out (by omega))
  clear HE2 HP
  generalize hd3 : synced s2 (nmN nm) = d3 at *
  clear hd3
  obtain ⟨x3, s3⟩ := d3
  simp only at HY HSY hop3
  by_cases hx3 : x3 = 0
  case neg =>
    have hq : (x3 != 0) = true := by simpa using hx3
    have HE4 := Lib.hid (show replacedR s nm l = (x3, s3) by rw [HE3.out, HY.out, if_pos hx3])
    go_enter Tryd.func56, Tryd.ntmps56
    go_wp2_with fail
    refine HD.out.mono ?_
    rintro e w1 ⟨rfl, F1, hd1, ht1, hs1⟩
    have hlb1 := HLB.out.turned ht1 HG.out
    have q0 := hlb1.c0
    have HC := Lib.hid (HPUT.out w1 F1 hd1 (HF.out w1 ht1))
    have HG1 := Lib.hid (not_spread HG.out hGl hs1)
    have HLB1 := Lib.hid hlb1
    have HT1 := Lib.hid ht1; have HS1 := Lib.hid hs1
    clear hd1 ht1 hs1 hlb1
    go_wp2_with fail
    refine HC.out.mono ?_
    rintro e w2 ⟨rfl, F2, hd2, ht2, hs2⟩
    have q2 := (HLB1.out.turned ht2 HG1.out).c0
    have HC2 := Lib.hid (HSY.out w2 F2 hd2)
    have HT2 := Lib.hid (HT1.out.trans' HS1.out ht2); have HS2 := Lib.hid (HS1.out.trans HT1.out.size hs2)
    clear hd2 ht2 hs2
    go_wp2_with fail
    refine HC2.out.mono ?_
    rintro e w3 hdid
    have HDID := Lib.hid (Did.then_ HT2.out HS2.out hdid)
    obtain ⟨rfl, -⟩ := hdid
    go_wp2
    go_ret
    rw [HE4.out]
    exact HDID.out
  subst hx3
  have HE4 := Lib.hid (show replacedR s nm l = renamed s3 (nmN nm) nm by rw [HE3.out, HY.out]; rfl)
  have HRN := Lib.hid (fun (w1 : World) (F1 : Nat → Prop) (hd : DiskAt w1 F1 D s3) => rename_any D F1 s3 (nmN nm) nm w1 hd HSZ.out (by omega) (by omega))
  clear HE3 HY
  generalize hd4 : renamed s3 (nmN nm) nm = d4 at *
  clear hd4
  obtain ⟨x4, s4⟩ := d4
  simp only at HRN
  go_enter Tryd.func56, Tryd.ntmps56
  go_wp2_with fail
  refine HD.out.mono ?_
  rintro e w1 ⟨rfl, F1, hd1, ht1, hs1⟩
  have hlb1 := HLB.out.turned ht1 HG.out
  have q0 := hlb1.c0
  have HC := Lib.hid (HPUT.out w1 F1 hd1 (HF.out w1 ht1))
  have HG1 := Lib.hid (not_spread HG.out hGl hs1)
  have HLB1 := Lib.hid hlb1
  have hGl1 := hlb1.lt
  have HT1 := Lib.hid ht1; have HS1 := Lib.hid hs1
  clear hd1 ht1 hs1 hlb1
  go_wp2_with fail
  refine HC.out.mono ?_
  rintro e w2 ⟨rfl, F2, hd2, ht2, hs2⟩
  have hlb2 := HLB1.out.turned ht2 HG1.out
  have q2 := hlb2.c0
  have hGl2 := hlb2.lt
  have HG2 := Lib.hid (not_spread HG1.out hGl1 hs2)
  have HLB2 := Lib.hid hlb2
  have HC2 := Lib.hid (HSY.out w2 F2 hd2)
  have HT2 := Lib.hid (HT1.out.trans' HS1.out ht2); have HS2 := Lib.hid (HS1.out.trans HT1.out.size hs2)
  clear hd2 ht2 hs2 hlb2
  go_wp2_with fail
  refine HC2.out.mono ?_
  rintro e w3 ⟨rfl, F3, hd3, ht3, hs3⟩
  have hlb3 := HLB2.out.turned ht3 HG2.out
  have q30 := hlb3.c0; have q31 := hlb3.c1
  have hGl3 := hlb3.lt
  have HG3 := Lib.hid (not_spread HG2.out hGl2 hs3)
  have HC3 := Lib.hid (HRN.out w3.drew F3 hd3.drew)
  have HT3 := Lib.hid (HT2.out.trans' HS2.out ht3); have HS3 := Lib.hid (HS2.out.trans HT2.out.size hs3)
  clear hd3 ht3 hs3 hlb3
  go_wp2_with fail
  go_region_held3 (fun w' => w'.cell? ⟨G, 0, none⟩ = some (.pointer (some ⟨D, 0, none⟩)) ∧ w'.cell? ⟨G, 1, none⟩ = some (.string nm)) (go_keep)
    ((go_at_call 74; refine HC3.out.mono ?_; rintro e w4 ⟨rfl, F4, hd4, ht4, hs4⟩
      have y0 := (ht4.cell (p := ⟨G, 0, none⟩) hGl3 HG3.out).trans q30; have y1 := (ht4.cell (p := ⟨G, 1, none⟩) hGl3 HG3.out).trans q31
      have HD4 := Lib.hid hd4; have HT4 := Lib.hid ht4; have HS4 := Lib.hid hs4; clear hd4 ht4 hs4))
  go_wp2
  go_ret
  rw [HE4.out]
  exact Did.then_ HT3.out HS3.out ⟨rfl, F4, HD4.out, HT4.out.undrew, HS4.out⟩
end Go.Proofs.YtjdkpcibdjhdoaaDoor

namespace Go.Proofs.YtjdkpcibdjhdoaaDoor
open Go.RowKit Mem FM
set_option linter.unusedVariables false
set_option maxRecDepth 100000

/-- block G is a log with these records, on the disk D; its blocks are of F -/
def LogAt (w : World) (F : Nat → Prop) (G D : Nat) (nm : ByteArray) (rs : List Rec) : Prop := ∃ v, LB w G D nm v ∧ F G ∧ RecsAt w F v rs ∧ ∀ k, F k → k < w.heap.size
theorem LogAt.turned {w w' : World} {F P : Nat → Prop} {G D : Nat} {nm : ByteArray} {rs : List Rec} (h : LogAt w F G D nm rs) (ht : Turned P w w') (hd : ∀ k, F k → ¬ P k) : LogAt w' F G D nm rs := by
  obtain ⟨v, h1, h2, h3, h4⟩ := h
  exact ⟨v, h1.turned ht (hd G h2), h2, h3.turned ht hd, fun k hk => Nat.lt_of_lt_of_le (h4 k hk) ht.size⟩
theorem LogAt.foot {w : World} {F : Nat → Prop} {G D : Nat} {nm : ByteArray} {rs : List Rec} (h : LogAt w F G D nm rs) {k : Nat} (hk : F k) : k < w.heap.size := by
  obtain ⟨v, h1, h2, h3, h4⟩ := h
  exact h4 k hk
theorem LogAt.below {w w' : World} {F : Nat → Prop} {G D : Nat} {nm : ByteArray} {rs : List Rec} (h : LogAt w F G D nm rs) (hb : Below w.heap.size w w') : LogAt w' F G D nm rs := h.turned (P := fun _ => False) (Turned.of_below hb) (fun _ _ h => h)

/-- the state behind Open, and its error -/
def openedR (s : St) (nm : ByteArray) : Int × St :=
  if (readR s nm).2 ≠ 0 ∧ (readR s nm).2 ≠ 8 then ((readR s nm).2, s)
  else if (droppedR s nm).1 ≠ 0 then droppedR s nm
  else if (M.scan (readR s nm).1).2 < (readR s nm).1.length then replacedR (droppedR s nm).2 nm ((readR s nm).1.take (M.scan (readR s nm).1).2)
  else (0, (droppedR s nm).2)

/-- a log was opened: its records are those at the file's front, in new memory -/
def Opened (F : Nat → Prop) (D : Nat) (s' : St) (nm : ByteArray) (ls : List (List UInt8)) (w : World) (e : Ending) (w' : World) : Prop :=
  ∃ G FL rs F', e = .returned (.tuple #[.pointer (some ⟨G, 0, none⟩), .int .i64 0]) ∧ LogAt w' FL G D nm rs ∧ recs rs = ls ∧ DiskAt w' F' D s' ∧ (∀ k, FL k → w.heap.size ≤ k) ∧ (∀ k, FL k → ¬ F' k) ∧ Turned F w w' ∧ Spread F F' w

theorem scan_le (l : List UInt8) : (M.scan l).2 ≤ l.length := by
  have key : ∀ (f k : Nat), k ≤ l.length → (M.scanN f l k).2 ≤ l.length := by
    intro f
    induction f with
    | zero => intro k hk; exact hk
    | succ f ih =>
      intro k hk
      rw [M.scanN]
      split
      · rename_i h
        exact ih _ (M.rdFrame_adv h).2.1
      · exact hk
  exact key _ 0 (Nat.zero_le _)

theorem own_firm {F : Nat → Prop} {w : World} {b : Nat} {e : TypeId} {A : Option Addr} {n c k : Nat} {l : List UInt8} (h : Own w b e (.slice A n c) l) (hn : ∀ j, (Value.slice A n c).ownBlock = some j → ¬ F j) (hk : k ≤ n) : Firm F w A k c (l.take k) := fun w' ht => by
  obtain ⟨A', c', hv, hr⟩ := (h.turned ht hn).open_
  injection hv with e1 e2 e3
  subst e1 e2 e3
  exact hr.upto hk

theorem RecsAt.bound {w : World} {F : Nat → Prop} {v : Value} {rs : List Rec} (h : RecsAt w F v rs) : RecsAt w (fun k => F k ∧ k < w.heap.size) v rs :=
  ⟨h.1, fun k hk => ⟨h.2.1 k hk, (h.1.lt k hk).2⟩, fun r hr => ⟨(h.2.2 r hr).1, fun k hk => ⟨(h.2.2 r hr).2.1 k hk, ((h.2.2 r hr).1.lt k hk).2⟩, (h.2.2 r hr).2.2⟩⟩

/-- the log's block takes up its records -/
theorem log_made {w5 w6 : World} {G D b5 : Nat} {nm : ByteArray} {v0 v : Value} {rs : List Rec} (hl : LB w6 G D nm v0) (hr : RecsAt w6 (fun k => b5 ≤ k ∧ k < w5.heap.size) v rs) (h56 : w5.heap.size ≤ w6.heap.size) (hGb : G < b5) (hb5 : b5 ≤ w5.heap.size) :
    LogAt (w6.setCell ⟨G, 2, none⟩ v) (fun k => k = G ∨ (b5 ≤ k ∧ k < w5.heap.size)) G D nm rs := by
  have hs : (w6.setCell ⟨G, 2, none⟩ v).heap.size = w6.heap.size := by simp [World.setCell]
  have hT : Turned (· = G) w6 (w6.setCell ⟨G, 2, none⟩ v) := (Turned.refl (· = G) w6).setCell (p := ⟨G, 2, none⟩) (.inl rfl) _
  refine ⟨v, hl.s2 v, .inl rfl, (hr.turned hT (fun k hk e => by omega)).more (fun k hk => .inr hk), fun k hk => ?_⟩
  rw [hs]
  rcases hk with rfl | hk
  · exact hl.lt
  · omega

set_option maxHeartbeats 4000000 in
theorem open_ok (D : Nat) (F : Nat → Prop) (s : St) (nm : ByteArray) (w : World) (h : DiskAt w F D s) (hok : nameOk nm = true) (hn : nm.size ≤ 28) (hops : s.ops + 20 < 1099511627776) (ho : (openedR s nm).1 = 0) :
    Calls Tryd.prog 31 #[.pointer (some ⟨D, 0, none⟩), .string nm] w (Opened F D (openedR s nm).2 nm (M.scan (readR s nm).1).1 w) := by
  have HNM := Lib.hid (name_any nm w (by omega))
  have HRD := Lib.hid (read_any D F s nm w h (by omega))
  have HE := Lib.hid (show openedR s nm = if (readR s nm).2 ≠ 0 ∧ (readR s nm).2 ≠ 8 then ((readR s nm).2, s) else if (droppedR s nm).1 ≠ 0 then droppedR s nm else if (M.scan (readR s nm).1).2 < (readR s nm).1.length then replacedR (droppedR s nm).2 nm ((readR s nm).1.take (M.scan (readR s nm).1).2) else (0, (droppedR s nm).2) from rfl)
  have hop1 := dropped_ops s nm
  have hroom : (readR s nm).1.length ≤ 67108864 := by
    unfold readR
    split
    · obtain ⟨b, nn, cs, _, _, _, _, _, hu, hr, _⟩ := h
      split
      · simp
      · rename_i f hf
        have := used_mem (find_name hf).2
        simp only
        omega
    · simp
  have HD0 := Lib.hid h
  clear h
  generalize hrr : readR s nm = rr at *
  clear hrr
  obtain ⟨p, e0⟩ := rr
  simp only at HE HRD hroom
  have he0 : e0 = 0 ∨ e0 = 8 := by
    by_cases h1 : e0 = 0
    · exact .inl h1
    · by_cases h2 : e0 = 8
      · exact .inr h2
      · rw [HE.out, if_pos ⟨h1, h2⟩] at ho
        exact absurd ho h1
  have HE1 := Lib.hid (show openedR s nm = if (droppedR s nm).1 ≠ 0 then droppedR s nm else if (M.scan p).2 < p.length then replacedR (droppedR s nm).2 nm (p.take (M.scan p).2) else (0, (droppedR s nm).2) by
    rw [HE.out, if_neg (by rcases he0 with rfl | rfl <;> simp)])
  clear HE
  have HDR := Lib.hid (fun (w1 : World) (G : Nat) (v : Value) (hd : DiskAt w1 F D s) (hl : LB w1 G D nm v) (hG : ¬ F G) => dropNew_any D G F s nm v w1 hd hl hG (by omega) (by omega))
  generalize hdd : droppedR s nm = dd at *
  clear hdd
  obtain ⟨x1, s1⟩ := dd
  simp only at HE1 HDR hop1
  obtain rfl : x1 = 0 := by
    by_cases h1 : x1 = 0
    · exact h1
    · rw [HE1.out, if_pos h1] at ho
      exact absurd ho h1
  have HE2 := Lib.hid (show openedR s nm = if (M.scan p).2 < p.length then replacedR s1 nm (p.take (M.scan p).2) else (0, s1) by rw [HE1.out]; rfl)
  clear HE1
  have hsl := scan_le p
  have hne : ∀ x : Int, (x = 0 ∨ x = 8) → ((x != 0) && (x != 8)) = false := by rintro x (rfl | rfl) <;> rfl
  by_cases hcut : (M.scan p).2 < p.length
  all_goals rcases he0 with rfl | rfl
  · go_enter Tryd.func31, Tryd.ntmps31
    go_wp2_with fail
    refine HNM.out.mono ?_
    rintro e w1 ⟨rfl, hw1⟩
    rw [hw1, hok]
    clear hw1 w1
    go_wp2_with fail
    refine HRD.out.mono ?_
    rintro e w2 ⟨q, rfl, hq, hb2, hd2⟩
    have hq : Own w2 w.heap.size 5 q p := hq
    obtain ⟨A2, c2, hv2, hr2⟩ := hq.open_
    have hc2 := hr2.cap; have hc2m := hr2.max
    have hfoot : ∀ k, F k → k < w.heap.size := fun k hk => HD0.out.foot hk
    have hqF : ∀ k, q.ownBlock = some k → ¬ F k := fun k hk hf => by have := (hq.lt k hk).1; have := hfoot k hf; omega
    have hw2 : w.heap.size ≤ w2.heap.size := hb2.size
    subst hv2
    have hGF : ¬ F w2.heap.size := fun hf => by have := hfoot _ hf; omega
    have hlb3 : LB (w2.alloc (.cells #[.pointer (some ⟨D, 0, none⟩), .string nm, .slice none 0 0] 106)) w2.heap.size D nm (.slice none 0 0) := heapNew (w := w2) _
    have HC3 := Lib.hid (HDR.out _ w2.heap.size _ (hd2.alloc (.cells #[.pointer (some ⟨D, 0, none⟩), .string nm, .slice none 0 0] 106)) hlb3 hGF)
    have HQ := Lib.hid (hq.alloc (.cells #[.pointer (some ⟨D, 0, none⟩), .string nm, .slice none 0 0] 106)); have HQF := Lib.hid hqF; have HB2 := Lib.hid hb2; have HGF := Lib.hid hGF; have HLB3 := Lib.hid hlb3
    have HFT := Lib.hid hfoot
    have HQL := Lib.hid (show ∀ k, (Value.slice A2 p.length c2).ownBlock = some k → k < w2.heap.size from fun k hk => (hq.lt k hk).2)
    clear hq hb2 hd2 hr2 hfoot hqF hGF hlb3
    go_wp2_with fail
    refine HC3.out.mono ?_
    rintro e w4 ⟨rfl, F1, hd4, ht4, hs4⟩
    have hq4 := HQ.out.turned ht4 HQF.out
    obtain ⟨A2', c2', hv2', hr4⟩ := hq4.open_
    injection hv2' with e1 e2 e3
    subst e1 e3
    have hlb4 := HLB3.out.turned ht4 HGF.out
    have hGF4 : ¬ F1 w2.heap.size := not_spread HGF.out (by simp) hs4
    have hw4 : w2.heap.size + 1 ≤ w4.heap.size := by have := ht4.size; simpa using this
    have hq4F : ∀ k, (Value.slice A2 p.length c2).ownBlock = some k → ¬ F1 k := fun k hk hf => (hs4 k hf).elim (HQF.out k hk) (fun h2 => by have := HQL.out k hk; simp at h2; omega)
    have HSC := Lib.hid (scan_any A2 p.length c2 w4.heap.size p w4 hr4 (Nat.le_refl _) (by omega))
    have HQ4 := Lib.hid hq4; have HQ4F := Lib.hid hq4F; have HLB4 := Lib.hid hlb4; have HGF4 := Lib.hid hGF4; have HD4 := Lib.hid hd4
    have HT4 := Lib.hid ((((Turned.of_below HB2.out) : Turned F w w2).alloc _).trans ht4); have HS4 := Lib.hid (show Spread F F1 w from fun k hk => (hs4 k hk).imp id (fun h2 => by simp at h2; omega))
    clear hq4 hr4 hlb4 hGF4 hd4 ht4 hs4 hq4F e2 HQ HQF HLB3 HGF
    go_wp2_with fail
    refine HSC.out.mono ?_
    rintro e w5 ⟨v5, rs, rfl, hrec5, hrs, hb5⟩
    obtain ⟨A5, c5, hv5, hc5, hc5m⟩ := hrec5.form
    subst hv5
    have hw5 : w4.heap.size ≤ w5.heap.size := hb5.size
    have HREC5 := Lib.hid hrec5.bound
    have HRS := Lib.hid hrs
    have HF1 := Lib.hid (show ∀ k, F1 k → k < w4.heap.size from fun k hk => HD4.out.foot hk)
    have HD5 := Lib.hid (HD4.out.below hb5)
    have HLB5 := Lib.hid (HLB4.out.turned (P := fun _ => False) (Turned.of_below hb5) (fun h => h))
    have HQ5 := Lib.hid (HQ4.out.below hb5)
    have HT5 := Lib.hid (HT4.out.trans' HS4.out (Turned.of_below hb5))
    clear hrec5 hrs hb5
    generalize hen : (M.scan p).2 = en at *
    have HEN := Lib.hid hen
    clear hen
    generalize rs.length = nr at *
    have hrp := replace_any D w2.heap.size F1 s1 nm (.slice none 0 0) A2 en c2 (p.take en) w5 HD5.out HLB5.out HGF4.out (by omega) (by omega) (own_firm HQ5.out HQ4F.out (by omega))
    have HE3 := Lib.hid (show openedR s nm = replacedR s1 nm (p.take en) by rw [HE2.out, if_pos hcut])
    rw [HE3.out] at ho
    generalize replacedR s1 nm (p.take en) = r6 at *
    obtain ⟨x6, s6⟩ := r6
    simp only at hrp ho
    subst ho
    have HRP := Lib.hid hrp
    clear hrp
    generalize hnp : p.length = np at *
    clear hnp
    go_wp2_with fail
    refine HRP.out.mono ?_
    rintro e w6 ⟨rfl, F6, hd6, ht6, hs6⟩
    have hlb6 := HLB5.out.turned ht6 HGF4.out
    have l2 := hlb6.c2; have lf := hlb6.f2
    have hGF6 : ¬ F6 w2.heap.size := not_spread HGF4.out (by omega) hs6
    have hrec6 := HREC5.out.turned ht6 (fun k hk hf => by have := HF1.out k hf; omega)
    have HFIN := Lib.hid (log_made hlb6 hrec6 ht6.size (by omega) hw5)
    have HD7 := Lib.hid (hd6.far (G := (· = w2.heap.size)) ((Turned.refl (· = w2.heap.size) w6).setCell (p := ⟨w2.heap.size, 2, none⟩) (.inl rfl) (.slice A5 nr c5)) (fun k hk e => hGF6 (e ▸ hk)))
    have HT7 := Lib.hid ((HT5.out.trans' (F' := F1) HS4.out ht6).setCell (p := ⟨w2.heap.size, 2, none⟩) (.inr hw2) (.slice A5 nr c5))
    have HS7 := Lib.hid (HS4.out.trans HT5.out.size hs6)
    have HAP := Lib.hid (show ∀ k, (k = w2.heap.size ∨ (w4.heap.size ≤ k ∧ k < w5.heap.size)) → ¬ F6 k from fun k hk hf => by
      rcases hk with rfl | hk
      · exact hGF6 hf
      · rcases hs6 k hf with h1 | h1
        · have := HF1.out k h1; omega
        · omega)
    clear hd6 ht6 hs6 hlb6 hGF6 hrec6
    go_wp2
    go_ret2
    rw [HE3.out]
    exact ⟨w2.heap.size, _, rs, F6, rfl, HFIN.out, HRS.out, HD7.out, fun k hk => by omega, HAP.out, HT7.out, HS7.out⟩
  · go_enter Tryd.func31, Tryd.ntmps31
    go_wp2_with fail
    refine HNM.out.mono ?_
    rintro e w1 ⟨rfl, hw1⟩
    rw [hw1, hok]
    clear hw1 w1
    go_wp2_with fail
    refine HRD.out.mono ?_
    rintro e w2 ⟨q, rfl, hq, hb2, hd2⟩
    have hq : Own w2 w.heap.size 5 q p := hq
    obtain ⟨A2, c2, hv2, hr2⟩ := hq.open_
    have hc2 := hr2.cap; have hc2m := hr2.max
    have hfoot : ∀ k, F k → k < w.heap.size := fun k hk => HD0.out.foot hk
    have hqF : ∀ k, q.ownBlock = some k → ¬ F k := fun k hk hf => by have := (hq.lt k hk).1; have := hfoot k hf; omega
    have hw2 : w.heap.size ≤ w2.heap.size := hb2.size
    subst hv2
    have hGF : ¬ F w2.heap.size := fun hf => by have := hfoot _ hf; omega
    have hlb3 : LB (w2.alloc (.cells #[.pointer (some ⟨D, 0, none⟩), .string nm, .slice none 0 0] 106)) w2.heap.size D nm (.slice none 0 0) := heapNew (w := w2) _
    have HC3 := Lib.hid (HDR.out _ w2.heap.size _ (hd2.alloc (.cells #[.pointer (some ⟨D, 0, none⟩), .string nm, .slice none 0 0] 106)) hlb3 hGF)
    have HQ := Lib.hid (hq.alloc (.cells #[.pointer (some ⟨D, 0, none⟩), .string nm, .slice none 0 0] 106)); have HQF := Lib.hid hqF; have HB2 := Lib.hid hb2; have HGF := Lib.hid hGF; have HLB3 := Lib.hid hlb3
    have HFT := Lib.hid hfoot
    have HQL := Lib.hid (show ∀ k, (Value.slice A2 p.length c2).ownBlock = some k → k < w2.heap.size from fun k hk => (hq.lt k hk).2)
    clear hq hb2 hd2 hr2 hfoot hqF hGF hlb3
    go_wp2_with fail
    refine HC3.out.mono ?_
    rintro e w4 ⟨rfl, F1, hd4, ht4, hs4⟩
    have hq4 := HQ.out.turned ht4 HQF.out
    obtain ⟨A2', c2', hv2', hr4⟩ := hq4.open_
    injection hv2' with e1 e2 e3
    subst e1 e3
    have hlb4 := HLB3.out.turned ht4 HGF.out
    have hGF4 : ¬ F1 w2.heap.size := not_spread HGF.out (by simp) hs4
    have hw4 : w2.heap.size + 1 ≤ w4.heap.size := by have := ht4.size; simpa using this
    have hq4F : ∀ k, (Value.slice A2 p.length c2).ownBlock = some k → ¬ F1 k := fun k hk hf => (hs4 k hf).elim (HQF.out k hk) (fun h2 => by have := HQL.out k hk; simp at h2; omega)
    have HSC := Lib.hid (scan_any A2 p.length c2 w4.heap.size p w4 hr4 (Nat.le_refl _) (by omega))
    have HQ4 := Lib.hid hq4; have HQ4F := Lib.hid hq4F; have HLB4 := Lib.hid hlb4; have HGF4 := Lib.hid hGF4; have HD4 := Lib.hid hd4
    have HT4 := Lib.hid ((((Turned.of_below HB2.out) : Turned F w w2).alloc _).trans ht4); have HS4 := Lib.hid (show Spread F F1 w from fun k hk => (hs4 k hk).imp id (fun h2 => by simp at h2; omega))
    clear hq4 hr4 hlb4 hGF4 hd4 ht4 hs4 hq4F e2 HQ HQF HLB3 HGF
    go_wp2_with fail
    refine HSC.out.mono ?_
    rintro e w5 ⟨v5, rs, rfl, hrec5, hrs, hb5⟩
    obtain ⟨A5, c5, hv5, hc5, hc5m⟩ := hrec5.form
    subst hv5
    have hw5 : w4.heap.size ≤ w5.heap.size := hb5.size
    have HREC5 := Lib.hid hrec5.bound
    have HRS := Lib.hid hrs
    have HF1 := Lib.hid (show ∀ k, F1 k → k < w4.heap.size from fun k hk => HD4.out.foot hk)
    have HD5 := Lib.hid (HD4.out.below hb5)
    have HLB5 := Lib.hid (HLB4.out.turned (P := fun _ => False) (Turned.of_below hb5) (fun h => h))
    have HQ5 := Lib.hid (HQ4.out.below hb5)
    have HT5 := Lib.hid (HT4.out.trans' HS4.out (Turned.of_below hb5))
    clear hrec5 hrs hb5
    generalize hen : (M.scan p).2 = en at *
    have HEN := Lib.hid hen
    clear hen
    generalize rs.length = nr at *
    have hrp := replace_any D w2.heap.size F1 s1 nm (.slice none 0 0) A2 en c2 (p.take en) w5 HD5.out HLB5.out HGF4.out (by omega) (by omega) (own_firm HQ5.out HQ4F.out (by omega))
    have HE3 := Lib.hid (show openedR s nm = replacedR s1 nm (p.take en) by rw [HE2.out, if_pos hcut])
    rw [HE3.out] at ho
    generalize replacedR s1 nm (p.take en) = r6 at *
    obtain ⟨x6, s6⟩ := r6
    simp only at hrp ho
    subst ho
    have HRP := Lib.hid hrp
    clear hrp
    generalize hnp : p.length = np at *
    clear hnp
    go_wp2_with fail
    refine HRP.out.mono ?_
    rintro e w6 ⟨rfl, F6, hd6, ht6, hs6⟩
    have hlb6 := HLB5.out.turned ht6 HGF4.out
    have l2 := hlb6.c2; have lf := hlb6.f2
    have hGF6 : ¬ F6 w2.heap.size := not_spread HGF4.out (by omega) hs6
    have hrec6 := HREC5.out.turned ht6 (fun k hk hf => by have := HF1.out k hf; omega)
    have HFIN := Lib.hid (log_made hlb6 hrec6 ht6.size (by omega) hw5)
    have HD7 := Lib.hid (hd6.far (G := (· = w2.heap.size)) ((Turned.refl (· = w2.heap.size) w6).setCell (p := ⟨w2.heap.size, 2, none⟩) (.inl rfl) (.slice A5 nr c5)) (fun k hk e => hGF6 (e ▸ hk)))
    have HT7 := Lib.hid ((HT5.out.trans' (F' := F1) HS4.out ht6).setCell (p := ⟨w2.heap.size, 2, none⟩) (.inr hw2) (.slice A5 nr c5))
    have HS7 := Lib.hid (HS4.out.trans HT5.out.size hs6)
    have HAP := Lib.hid (show ∀ k, (k = w2.heap.size ∨ (w4.heap.size ≤ k ∧ k < w5.heap.size)) → ¬ F6 k from fun k hk hf => by
      rcases hk with rfl | hk
      · exact hGF6 hf
      · rcases hs6 k hf with h1 | h1
        · have := HF1.out k h1; omega
        · omega)
    clear hd6 ht6 hs6 hlb6 hGF6 hrec6
    go_wp2
    go_ret2
    rw [HE3.out]
    exact ⟨w2.heap.size, _, rs, F6, rfl, HFIN.out, HRS.out, HD7.out, fun k hk => by omega, HAP.out, HT7.out, HS7.out⟩
  · go_enter Tryd.func31, Tryd.ntmps31
    go_wp2_with fail
    refine HNM.out.mono ?_
    rintro e w1 ⟨rfl, hw1⟩
    rw [hw1, hok]
    clear hw1 w1
    go_wp2_with fail
    refine HRD.out.mono ?_
    rintro e w2 ⟨q, rfl, hq, hb2, hd2⟩
    have hq : Own w2 w.heap.size 5 q p := hq
    obtain ⟨A2, c2, hv2, hr2⟩ := hq.open_
    have hc2 := hr2.cap; have hc2m := hr2.max
    have hfoot : ∀ k, F k → k < w.heap.size := fun k hk => HD0.out.foot hk
    have hqF : ∀ k, q.ownBlock = some k → ¬ F k := fun k hk hf => by have := (hq.lt k hk).1; have := hfoot k hf; omega
    have hw2 : w.heap.size ≤ w2.heap.size := hb2.size
    subst hv2
    have hGF : ¬ F w2.heap.size := fun hf => by have := hfoot _ hf; omega
    have hlb3 : LB (w2.alloc (.cells #[.pointer (some ⟨D, 0, none⟩), .string nm, .slice none 0 0] 106)) w2.heap.size D nm (.slice none 0 0) := heapNew (w := w2) _
    have HC3 := Lib.hid (HDR.out _ w2.heap.size _ (hd2.alloc (.cells #[.pointer (some ⟨D, 0, none⟩), .string nm, .slice none 0 0] 106)) hlb3 hGF)
    have HQ := Lib.hid (hq.alloc (.cells #[.pointer (some ⟨D, 0, none⟩), .string nm, .slice none 0 0] 106)); have HQF := Lib.hid hqF; have HB2 := Lib.hid hb2; have HGF := Lib.hid hGF; have HLB3 := Lib.hid hlb3
    have HFT := Lib.hid hfoot
    have HQL := Lib.hid (show ∀ k, (Value.slice A2 p.length c2).ownBlock = some k → k < w2.heap.size from fun k hk => (hq.lt k hk).2)
    clear hq hb2 hd2 hr2 hfoot hqF hGF hlb3
    go_wp2_with fail
    refine HC3.out.mono ?_
    rintro e w4 ⟨rfl, F1, hd4, ht4, hs4⟩
    have hq4 := HQ.out.turned ht4 HQF.out
    obtain ⟨A2', c2', hv2', hr4⟩ := hq4.open_
    injection hv2' with e1 e2 e3
    subst e1 e3
    have hlb4 := HLB3.out.turned ht4 HGF.out
    have hGF4 : ¬ F1 w2.heap.size := not_spread HGF.out (by simp) hs4
    have hw4 : w2.heap.size + 1 ≤ w4.heap.size := by have := ht4.size; simpa using this
    have hq4F : ∀ k, (Value.slice A2 p.length c2).ownBlock = some k → ¬ F1 k := fun k hk hf => (hs4 k hf).elim (HQF.out k hk) (fun h2 => by have := HQL.out k hk; simp at h2; omega)
    have HSC := Lib.hid (scan_any A2 p.length c2 w4.heap.size p w4 hr4 (Nat.le_refl _) (by omega))
    have HQ4 := Lib.hid hq4; have HQ4F := Lib.hid hq4F; have HLB4 := Lib.hid hlb4; have HGF4 := Lib.hid hGF4; have HD4 := Lib.hid hd4
    have HT4 := Lib.hid ((((Turned.of_below HB2.out) : Turned F w w2).alloc _).trans ht4); have HS4 := Lib.hid (show Spread F F1 w from fun k hk => (hs4 k hk).imp id (fun h2 => by simp at h2; omega))
    clear hq4 hr4 hlb4 hGF4 hd4 ht4 hs4 hq4F e2 HQ HQF HLB3 HGF
    go_wp2_with fail
    refine HSC.out.mono ?_
    rintro e w5 ⟨v5, rs, rfl, hrec5, hrs, hb5⟩
    obtain ⟨A5, c5, hv5, hc5, hc5m⟩ := hrec5.form
    subst hv5
    have hw5 : w4.heap.size ≤ w5.heap.size := hb5.size
    have HREC5 := Lib.hid hrec5.bound
    have HRS := Lib.hid hrs
    have HF1 := Lib.hid (show ∀ k, F1 k → k < w4.heap.size from fun k hk => HD4.out.foot hk)
    have HD5 := Lib.hid (HD4.out.below hb5)
    have HLB5 := Lib.hid (HLB4.out.turned (P := fun _ => False) (Turned.of_below hb5) (fun h => h))
    have HQ5 := Lib.hid (HQ4.out.below hb5)
    have HT5 := Lib.hid (HT4.out.trans' HS4.out (Turned.of_below hb5))
    clear hrec5 hrs hb5
    generalize hen : (M.scan p).2 = en at *
    have HEN := Lib.hid hen
    clear hen
    generalize rs.length = nr at *
    have HE3 := Lib.hid (show openedR s nm = (0, s1) by rw [HE2.out, if_neg hcut])
    generalize hnp : p.length = np at *
    clear hnp
    have l2 := HLB5.out.c2; have lf := HLB5.out.f2
    have HFIN := Lib.hid (log_made HLB5.out HREC5.out (Nat.le_refl _) (by omega) hw5)
    have HD7 := Lib.hid (HD5.out.far (G := (· = w2.heap.size)) ((Turned.refl (· = w2.heap.size) w5).setCell (p := ⟨w2.heap.size, 2, none⟩) (.inl rfl) (.slice A5 nr c5)) (fun k hk e => HGF4.out (e ▸ hk)))
    have HT7 := Lib.hid (HT5.out.setCell (p := ⟨w2.heap.size, 2, none⟩) (.inr hw2) (.slice A5 nr c5))
    go_wp2
    go_ret2
    rw [HE3.out]
    exact ⟨w2.heap.size, _, rs, F1, rfl, HFIN.out, HRS.out, HD7.out, fun k hk => by omega, fun k hk hf => by
      rcases hk with rfl | hk
      · exact HGF4.out hf
      · have := HF1.out k hf; omega, HT7.out, HS4.out⟩
  · go_enter Tryd.func31, Tryd.ntmps31
    go_wp2_with fail
    refine HNM.out.mono ?_
    rintro e w1 ⟨rfl, hw1⟩
    rw [hw1, hok]
    clear hw1 w1
    go_wp2_with fail
    refine HRD.out.mono ?_
    rintro e w2 ⟨q, rfl, hq, hb2, hd2⟩
    have hq : Own w2 w.heap.size 5 q p := hq
    obtain ⟨A2, c2, hv2, hr2⟩ := hq.open_
    have hc2 := hr2.cap; have hc2m := hr2.max
    have hfoot : ∀ k, F k → k < w.heap.size := fun k hk => HD0.out.foot hk
    have hqF : ∀ k, q.ownBlock = some k → ¬ F k := fun k hk hf => by have := (hq.lt k hk).1; have := hfoot k hf; omega
    have hw2 : w.heap.size ≤ w2.heap.size := hb2.size
    subst hv2
    have hGF : ¬ F w2.heap.size := fun hf => by have := hfoot _ hf; omega
    have hlb3 : LB (w2.alloc (.cells #[.pointer (some ⟨D, 0, none⟩), .string nm, .slice none 0 0] 106)) w2.heap.size D nm (.slice none 0 0) := heapNew (w := w2) _
    have HC3 := Lib.hid (HDR.out _ w2.heap.size _ (hd2.alloc (.cells #[.pointer (some ⟨D, 0, none⟩), .string nm, .slice none 0 0] 106)) hlb3 hGF)
    have HQ := Lib.hid (hq.alloc (.cells #[.pointer (some ⟨D, 0, none⟩), .string nm, .slice none 0 0] 106)); have HQF := Lib.hid hqF; have HB2 := Lib.hid hb2; have HGF := Lib.hid hGF; have HLB3 := Lib.hid hlb3
    have HFT := Lib.hid hfoot
    have HQL := Lib.hid (show ∀ k, (Value.slice A2 p.length c2).ownBlock = some k → k < w2.heap.size from fun k hk => (hq.lt k hk).2)
    clear hq hb2 hd2 hr2 hfoot hqF hGF hlb3
    go_wp2_with fail
    refine HC3.out.mono ?_
    rintro e w4 ⟨rfl, F1, hd4, ht4, hs4⟩
    have hq4 := HQ.out.turned ht4 HQF.out
    obtain ⟨A2', c2', hv2', hr4⟩ := hq4.open_
    injection hv2' with e1 e2 e3
    subst e1 e3
    have hlb4 := HLB3.out.turned ht4 HGF.out
    have hGF4 : ¬ F1 w2.heap.size := not_spread HGF.out (by simp) hs4
    have hw4 : w2.heap.size + 1 ≤ w4.heap.size := by have := ht4.size; simpa using this
    have hq4F : ∀ k, (Value.slice A2 p.length c2).ownBlock = some k → ¬ F1 k := fun k hk hf => (hs4 k hf).elim (HQF.out k hk) (fun h2 => by have := HQL.out k hk; simp at h2; omega)
    have HSC := Lib.hid (scan_any A2 p.length c2 w4.heap.size p w4 hr4 (Nat.le_refl _) (by omega))
    have HQ4 := Lib.hid hq4; have HQ4F := Lib.hid hq4F; have HLB4 := Lib.hid hlb4; have HGF4 := Lib.hid hGF4; have HD4 := Lib.hid hd4
    have HT4 := Lib.hid ((((Turned.of_below HB2.out) : Turned F w w2).alloc _).trans ht4); have HS4 := Lib.hid (show Spread F F1 w from fun k hk => (hs4 k hk).imp id (fun h2 => by simp at h2; omega))
    clear hq4 hr4 hlb4 hGF4 hd4 ht4 hs4 hq4F e2 HQ HQF HLB3 HGF
    go_wp2_with fail
    refine HSC.out.mono ?_
    rintro e w5 ⟨v5, rs, rfl, hrec5, hrs, hb5⟩
    obtain ⟨A5, c5, hv5, hc5, hc5m⟩ := hrec5.form
    subst hv5
    have hw5 : w4.heap.size ≤ w5.heap.size := hb5.size
    have HREC5 := Lib.hid hrec5.bound
    have HRS := Lib.hid hrs
    have HF1 := Lib.hid (show ∀ k, F1 k → k < w4.heap.size from fun k hk => HD4.out.foot hk)
    have HD5 := Lib.hid (HD4.out.below hb5)
    have HLB5 := Lib.hid (HLB4.out.turned (P := fun _ => False) (Turned.of_below hb5) (fun h => h))
    have HQ5 := Lib.hid (HQ4.out.below hb5)
    have HT5 := Lib.hid (HT4.out.trans' HS4.out (Turned.of_below hb5))
    clear hrec5 hrs hb5
    generalize hen : (M.scan p).2 = en at *
    have HEN := Lib.hid hen
    clear hen
    generalize rs.length = nr at *
    have HE3 := Lib.hid (show openedR s nm = (0, s1) by rw [HE2.out, if_neg hcut])
    generalize hnp : p.length = np at *
    clear hnp
    have l2 := HLB5.out.c2; have lf := HLB5.out.f2
    have HFIN := Lib.hid (log_made HLB5.out HREC5.out (Nat.le_refl _) (by omega) hw5)
    have HD7 := Lib.hid (HD5.out.far (G := (· = w2.heap.size)) ((Turned.refl (· = w2.heap.size) w5).setCell (p := ⟨w2.heap.size, 2, none⟩) (.inl rfl) (.slice A5 nr c5)) (fun k hk e => HGF4.out (e ▸ hk)))
    have HT7 := Lib.hid (HT5.out.setCell (p := ⟨w2.heap.size, 2, none⟩) (.inr hw2) (.slice A5 nr c5))
    go_wp2
    go_ret2
    rw [HE3.out]
    exact ⟨w2.heap.size, _, rs, F1, rfl, HFIN.out, HRS.out, HD7.out, fun k hk => by omega, fun k hk hf => by
      rcases hk with rfl | hk
      · exact HGF4.out hf
      · have := HF1.out k hf; omega, HT7.out, HS4.out⟩
end Go.Proofs.YtjdkpcibdjhdoaaDoor

namespace Go.Proofs.YtjdkpcibdjhdoaaDoor
open Go.RowKit Mem FM
set_option linter.unusedVariables false
set_option maxRecDepth 100000
attribute [local go_sem ↓] Go.wp_at_zero Go.wp_at_succ

/-- a call of a Go function, as a step of a region that draws its order -/
theorem step_call {P : Program} {ops : Array Oper} {o : Oper} {a : Act} {w : World} {K : Act → World → Prop} {Q : Exit → Act → World → Prop} {E : Prop} (hgd : o.guard = none) (f : FuncId) (args : Array Value) (hrun : (execOp a.eval o).run P w = .ok (.enter f args) w)
    {X : Type} (val : X → Value) (S : X → World → Prop) (hc : Calls P f args w (fun e w' => ∃ x, e = .returned (val x) ∧ S x w')) (h : ∀ x w', S x w' → K (a.put o.dst (val x)) w') :
    if Region.wanted o (yielded ops a.tmps) = true then Oper.wp P o a w K Q else E := by
  have hw : Region.wanted o (yielded ops a.tmps) = true := by simp [Region.wanted, hgd]
  rw [if_pos hw]
  unfold Oper.wp
  rw [hrun, Oper.upon_enter]
  refine hc.mono fun e w'' hh => ?_
  obtain ⟨x, rfl, hS⟩ := hh
  exact h x _ hS

set_option maxHeartbeats 400000 in
theorem len_any (G D : Nat) (F : Nat → Prop) (nm : ByteArray) (rs : List Rec) (w : World) (h : LogAt w F G D nm rs) : Calls Tryd.prog 58 #[.pointer (some ⟨G, 0, none⟩)] w (fun e w' => e = .returned (.int .i64 rs.length) ∧ w' = w) := by
  obtain ⟨v, h1, _, h3, _⟩ := h
  obtain ⟨A, c, rfl, hc, hcm⟩ := h3.form
  have c2 := h1.c2
  clear h1 h3
  generalize rs.length = n at *
  go_enter Tryd.func58, Tryd.ntmps58
  go_wp2
  go_ret
  exact ⟨rfl, rfl⟩

/-- a log's Sync -/
def lsyncR (s : St) (nm : ByteArray) (n : Nat) : Int × St := if (synced s nm).1 = 8 ∧ n = 0 then (0, (synced s nm).2) else synced s nm

set_option maxHeartbeats 1000000 in
theorem lsync_any (D G : Nat) (F FL : Nat → Prop) (s : St) (nm : ByteArray) (rs : List Rec) (w : World) (h : DiskAt w F D s) (hl : LogAt w FL G D nm rs) (hap : ∀ k, FL k → ¬ F k) (hn : nm.size ≤ 100) (hops : s.ops + 1 < 1099511627776) :
    Calls Tryd.prog 34 #[.pointer (some ⟨G, 0, none⟩)] w (Did F D (lsyncR s nm rs.length).1 (lsyncR s nm rs.length).2 w) := by
  obtain ⟨v, h1, h2, h3, _⟩ := hl
  obtain ⟨A, c, rfl, hc, hcm⟩ := h3.form
  have c0 := h1.c0; have c1 := h1.c1
  have HLB := Lib.hid h1
  have HSY := Lib.hid (sync_any D F s nm w.drew h.drew (by omega) hops)
  have HG := Lib.hid (hap G h2)
  have hGl := h1.lt
  have HE := Lib.hid (show lsyncR s nm rs.length = if (synced s nm).1 = 8 ∧ rs.length = 0 then (0, (synced s nm).2) else synced s nm from rfl)
  clear h h1 h3 hap h2
  generalize synced s nm = rr at *
  obtain ⟨x, s'⟩ := rr
  simp only at HE HSY
  generalize rs.length = n at *
  by_cases hx : x = 8
  · subst hx
    rcases Nat.eq_zero_or_pos n with hn0 | hn0
    · subst hn0
      have HE2 := Lib.hid (show lsyncR s nm 0 = (0, s') by rw [HE.out]; rfl)
      clear HE
      go_enter Tryd.func34, Tryd.ntmps34
      go_wp2_with fail
      go_region_held3 (fun w' => w'.cell? ⟨G, 0, none⟩ = some (.pointer (some ⟨D, 0, none⟩)) ∧ w'.cell? ⟨G, 1, none⟩ = some (.string nm)) (go_keep)
        ((go_at_call 63; refine HSY.out.mono ?_; rintro e w1 ⟨rfl, F', hd1, ht1, hs1⟩
          have q0 := (ht1.cell (p := ⟨G, 0, none⟩) hGl HG.out).trans c0; have q1 := (ht1.cell (p := ⟨G, 1, none⟩) hGl HG.out).trans c1; have q2 := (ht1.cell (p := ⟨G, 2, none⟩) hGl HG.out).trans HLB.out.c2
          have HD1 := Lib.hid hd1; have HT1 := Lib.hid ht1; have HS1 := Lib.hid hs1; clear hd1 ht1 hs1))
      go_wp2
      go_ret
      rw [HE2.out]
      exact ⟨rfl, F', HD1.out, HT1.out.undrew, HS1.out⟩
    · have HE2 := Lib.hid (show lsyncR s nm n = (8, s') by rw [HE.out, if_neg (by simp; omega)])
      clear HE
      go_enter Tryd.func34, Tryd.ntmps34
      go_wp2_with fail
      go_region_held3 (fun w' => w'.cell? ⟨G, 0, none⟩ = some (.pointer (some ⟨D, 0, none⟩)) ∧ w'.cell? ⟨G, 1, none⟩ = some (.string nm)) (go_keep)
        ((go_at_call 63; refine HSY.out.mono ?_; rintro e w1 ⟨rfl, F', hd1, ht1, hs1⟩
          have q0 := (ht1.cell (p := ⟨G, 0, none⟩) hGl HG.out).trans c0; have q1 := (ht1.cell (p := ⟨G, 1, none⟩) hGl HG.out).trans c1; have q2 := (ht1.cell (p := ⟨G, 2, none⟩) hGl HG.out).trans HLB.out.c2
          have HD1 := Lib.hid hd1; have HT1 := Lib.hid ht1; have HS1 := Lib.hid hs1; clear hd1 ht1 hs1))
      go_wp2
      go_ret
      rw [HE2.out]
      exact ⟨rfl, F', HD1.out, HT1.out.undrew, HS1.out⟩
  · have hq : (x != 8) = true := by simpa using hx
    have HE2 := Lib.hid (show lsyncR s nm n = (x, s') by rw [HE.out, if_neg (by simp [hx])])
    clear HE
    go_enter Tryd.func34, Tryd.ntmps34
    go_wp2_with fail
    go_region_held3 (fun w' => w'.cell? ⟨G, 0, none⟩ = some (.pointer (some ⟨D, 0, none⟩)) ∧ w'.cell? ⟨G, 1, none⟩ = some (.string nm)) (go_keep)
      ((go_at_call 63; refine HSY.out.mono ?_; rintro e w1 ⟨rfl, F', hd1, ht1, hs1⟩
        have q0 := (ht1.cell (p := ⟨G, 0, none⟩) hGl HG.out).trans c0; have q1 := (ht1.cell (p := ⟨G, 1, none⟩) hGl HG.out).trans c1; have q2 := (ht1.cell (p := ⟨G, 2, none⟩) hGl HG.out).trans HLB.out.c2
        have HD1 := Lib.hid hd1; have HT1 := Lib.hid ht1; have HS1 := Lib.hid hs1; clear hd1 ht1 hs1))
    go_wp2
    go_ret
    rw [HE2.out]
    exact ⟨rfl, F', HD1.out, HT1.out.undrew, HS1.out⟩

/-- the disk and the log behind a call of the log -/
def WalDid (F FL : Nat → Prop) (D G : Nat) (x : Int) (s' : St) (nm : ByteArray) (ls : List (List UInt8)) (w : World) (e : Ending) (w' : World) : Prop :=
  e = .returned (.int .i64 x) ∧ ∃ F' FL' rs, DiskAt w' F' D s' ∧ LogAt w' FL' G D nm rs ∧ recs rs = ls ∧ (∀ k, FL' k → ¬ F' k) ∧ Turned (fun k => F k ∨ FL k) w w' ∧ Spread F F' w ∧ Spread FL FL' w

def CloneAt (l : List UInt8) (w : World) (v : Value) (w' : World) : Prop := Own w' w.heap.size 5 v l ∧ Below w.heap.size w w'
theorem clone_at (B : Nat) (A : Option Addr) (n c : Nat) (l : List UInt8) (w : World) (hr : Rd w B A n c l) (hB : B ≤ w.heap.size) (hl : l.length ≤ 140737488355328) : Calls Tryd.prog 70 #[.slice A n c] w (fun e w' => ∃ v, e = .returned v ∧ CloneAt l w v w') := clone_any B A n c l w hr hB hl

theorem log_more {w w1 w2 : World} {FL : Nat → Prop} {G D gg cap : Nat} {nm : ByteArray} {v : Value} {r : Rec} {rs : List Rec} {o : Obj} (hl : LB w G D nm v) (hG : FL G) (hrec : RecsAt w FL v rs) (hft : ∀ k, FL k → k < w.heap.size)
    (hb1 : Below w.heap.size w w1) (hown : Own w1 w.heap.size 5 r.v r.l) (hlen : r.l.length ≤ 65535) (hrow : w2.ownsRow 0 27 1 (.slice (some ⟨gg, 0, none⟩) (rs.length + 1) cap) (rs.length + 1) (rs.map Rec.v ++ [r.v])) (hgrow : (w1.alloc o).grownBy w2 v.ownBlock) (hat : v.ownBlock = some gg ∨ gg = w1.heap.size + 1) :
    LogAt (w2.setCell ⟨G, 2, none⟩ (.slice (some ⟨gg, 0, none⟩) (rs.length + 1) cap)) (fun k => FL k ∨ (w.heap.size ≤ k ∧ k < w2.heap.size)) G D nm (rs ++ [r]) ∧ Turned FL w (w2.setCell ⟨G, 2, none⟩ (.slice (some ⟨gg, 0, none⟩) (rs.length + 1) cap)) := by
  have hGv : v.ownBlock ≠ some G := fun hk => by
    obtain ⟨cur, hh⟩ := row_block hrec.1 hk
    have := hl.symm.trans hh
    simp at this
  have hw1 : w.heap.size ≤ w1.heap.size := hb1.size
  have hw2 : w1.heap.size + 1 ≤ w2.heap.size := by have := hgrow.size; simpa using this
  have hgl : gg < w2.heap.size := (hrow.lt gg rfl).2
  have hT1 : Turned FL w w2 := ((Turned.of_below hb1).alloc o).grown hgrow (fun k hk => .inl (hrec.2.1 k hk))
  have hl2 : LB w2 G D nm v := by
    have e1 : w1.heap[G]? = w.heap[G]? := hb1.block G hl.lt
    have e2 : w2.heap[G]? = w1.heap[G]? := (hgrow.block G (by have := hl.lt; simp; omega) (Ne.symm hGv)).trans (Below.heap_alloc w1 o G (by have := hl.lt; omega))
    exact (e2.trans e1).trans hl
  have hrec1 : RecsAt w1 (fun k => FL k ∨ (w.heap.size ≤ k ∧ k < w2.heap.size)) v rs := (hrec.below hb1).more (fun k hk => .inl hk)
  have hrec2 := hrec1.grow (gg := gg) (cap := cap) (r := r) (o := o) (hown.less (Nat.zero_le _)) hlen (fun k hk => .inr ⟨(hown.lt k hk).1, by have := (hown.lt k hk).2; omega⟩) (hat.imp id (fun e => .inr ⟨by omega, hgl⟩)) hrow hgrow
  have hT2 : Turned (· = G) w2 (w2.setCell ⟨G, 2, none⟩ (.slice (some ⟨gg, 0, none⟩) (rs.length + 1) cap)) := (Turned.refl (· = G) w2).setCell (p := ⟨G, 2, none⟩) (.inl rfl) _
  have hs : (w2.setCell ⟨G, 2, none⟩ (.slice (some ⟨gg, 0, none⟩) (rs.length + 1) cap)).heap.size = w2.heap.size := by simp [World.setCell]
  refine ⟨⟨_, hl2.s2 _, .inl hG, ?_, fun k hk => ?_⟩, hT1.trans (hT2.more (fun k _ e => by rw [e]; exact hG))⟩
  · refine ⟨row_turned hrec2.1 hT2 (fun k hk e => ?_), hrec2.2.1, fun s hs2 => ⟨(hrec2.2.2 s hs2).1.turned hT2 (fun k hk e => ?_), (hrec2.2.2 s hs2).2⟩⟩
    · obtain ⟨cur, hh⟩ := row_block hrec2.1 hk
      rw [e] at hh
      have := hl2.symm.trans hh
      simp at this
    · obtain ⟨cur, hh⟩ := own_heap (hrec2.2.2 s hs2).1 hk
      rw [e] at hh
      have := hl2.symm.trans hh
      simp at this
  · rw [hs]
    rcases hk with hk | hk
    · have := hft k hk; omega
    · exact hk.2
end Go.Proofs.YtjdkpcibdjhdoaaDoor

namespace Go.Proofs.YtjdkpcibdjhdoaaDoor
open Go.RowKit Mem FM
set_option linter.unusedVariables false
set_option maxRecDepth 100000
attribute [local go_sem ↓] Go.wp_at_zero Go.wp_at_succ

/-- a log's Append, of a record that isn't too long -/
def lappR (s : St) (nm : ByteArray) (l : List UInt8) : Int × St := appended s nm (M.frame l)

def lappLs (ls : List (List UInt8)) (x : Int) (l : List UInt8) : List (List UInt8) := if x = 0 then ls ++ [l] else ls

set_option maxHeartbeats 2000000 in
theorem lappend_any (D G B : Nat) (F FL : Nat → Prop) (s : St) (nm : ByteArray) (rs : List Rec) (A : Option Addr) (n c : Nat) (l : List UInt8) (w : World) (h : DiskAt w F D s) (hl : LogAt w FL G D nm rs) (hap : ∀ k, FL k → ¬ F k) (hn : nm.size ≤ 100) (hops : s.ops + 1 < 1099511627776)
    (hf : Firm F w A n c l) (hlen : n ≤ 65535) (hrs : rs.length ≤ 1000000000) :
    Calls Tryd.prog 79 #[.pointer (some ⟨G, 0, none⟩), .slice A n c] w (WalDid F FL D G (lappR s nm l).1 (lappR s nm l).2 nm (lappLs (recs rs) (lappR s nm l).1 l) w) := by
  obtain ⟨i0, hi, hz0, hz1, hz2⟩ := info_parts Tryd.infoR
  have HI := Lib.hid hi; have HZ0 := Lib.hid hz0; have HZ1 := Lib.hid hz1; have HZ2 := Lib.hid hz2
  clear hi hz0 hz1 hz2
  have hr0 := hf w (Turned.refl _ _)
  have HN := Lib.hid hr0.len
  have hcap := hr0.cap; have hcm := hr0.max
  have HFR := Lib.hid (frame_any A n c w.heap.size l w hr0 (Nat.le_refl _) hlen)
  have HF := Lib.hid hf; have HD0 := Lib.hid h; have HL0 := Lib.hid hl; have HAP := Lib.hid hap
  have HE := Lib.hid (show lappR s nm l = appended s nm (M.frame l) from rfl)
  have HFT := Lib.hid (show ∀ k, F k → k < w.heap.size from fun k hk => h.foot hk)
  have HAPD := Lib.hid (fun (w1 : World) (A1 : Option Addr) (n1 c1 : Nat) (hd : DiskAt w1 F D s) (hr : Rd w1 w1.heap.size A1 n1 c1 (M.frame l)) => append_any D w1.heap.size F s nm A1 n1 c1 (M.frame l) w1 hd (by omega) hr (Nat.le_refl _) hops)
  clear h hl hap hf hr0
  generalize appended s nm (M.frame l) = rr at *
  obtain ⟨x, s'⟩ := rr
  simp only at HAPD
  by_cases hx : x = 0
  · subst hx
    go_enter Tryd.func79, Tryd.ntmps79
    go_wp2_with fail
    refine HFR.out.mono ?_
    rintro e w1 ⟨v1, rfl, hv1, hb1⟩
    obtain ⟨A1, c1, hvv, hr1⟩ := hv1.open_
    subst hvv
    have hL1 := HL0.out.below hb1
    obtain ⟨v, hlb1, hG, hrec1, hft1⟩ := hL1
    obtain ⟨Av, cv, hvf, hcv, hcvm⟩ := hrec1.form
    subst hvf
    have c0 := hlb1.c0; have c11 := hlb1.c1
    have hGl := hlb1.lt
    have HGF := Lib.hid (HAP.out G hG)
    have HC := Lib.hid (HAPD.out w1.drew A1 _ c1 (HD0.out.below hb1).drew hr1.drew)
    have HLB1 := Lib.hid hlb1; have HG := Lib.hid hG; have HREC1 := Lib.hid hrec1; have HFT1 := Lib.hid hft1; have HB1 := Lib.hid hb1
    clear hv1 hb1 hr1 hlb1 hrec1 hft1
    generalize (M.frame l).length = nf at *
    go_wp2_with fail
    go_region_held3 (fun w' => w'.cell? ⟨G, 0, none⟩ = some (.pointer (some ⟨D, 0, none⟩)) ∧ w'.cell? ⟨G, 1, none⟩ = some (.string nm)) (go_keep)
      ((go_at_call 94; refine HC.out.mono ?_; rintro e w2 ⟨rfl, F2, hd2, ht2, hs2⟩
        have q0 := (ht2.cell (p := ⟨G, 0, none⟩) hGl HGF.out).trans c0; have q1 := (ht2.cell (p := ⟨G, 1, none⟩) hGl HGF.out).trans c11
        have HD2 := Lib.hid hd2; have HT2 := Lib.hid ht2.undrew; have HS2 := Lib.hid hs2; clear hd2 ht2 hs2))
    have hlb2 := HLB1.out.turned HT2.out HGF.out
    have hrec2 := HREC1.out.turned HT2.out (fun k hk => HAP.out k hk)
    have hw2 : w1.heap.size ≤ w2.heap.size := HT2.out.size
    have m2 := hlb2.c2; have mf := hlb2.f2
    have hGl2 := hlb2.lt
    have hr2 := HF.out w2 ((Turned.of_below HB1.out).trans HT2.out)
    have HCL := Lib.hid (clone_at w2.heap.size A n c l w2.drew hr2.drew (Nat.le_refl _) (by have := HN.out; omega))
    have HLB2 := Lib.hid hlb2; have HREC2 := Lib.hid hrec2
    have HVG := Lib.hid (show (Value.slice Av rs.length cv).ownBlock ≠ some G from fun hk => by
      obtain ⟨cur, hh⟩ := row_block hrec2.1 hk
      have := hlb2.symm.trans hh
      simp at this)
    clear hlb2 hrec2 hr2 HC q0 q1
    go_wp2_with fail
    go_region_law (first
      | (refine step_call (by rfl) 70 #[.slice A n c] (by simp [Act.eval, go_sem]) (fun v => v) (CloneAt l _) HCL.out ?_; rintro v3 w3 ⟨hown3, hb3⟩
         obtain ⟨A3, c3, hv3, hr3⟩ := hown3.open_
         subst hv3
         have hl3 : l.length = n := HN.out.symm
         rw [hl3] at hown3
         rw [hl3]
         have q2 := (hb3.cell (p := ⟨G, 2, none⟩) hGl2).trans m2
         have q2f := (hb3.frozen (p := ⟨G, 2, none⟩) hGl2).trans mf
         have hw3 : w2.heap.size ≤ w3.heap.size := hb3.size
         have hG3 : G < w3.heap.size := by omega
         have HOWN3 := Lib.hid hown3; have HB3 := Lib.hid (below_undrew hb3)
         clear hown3 hb3 hr3 hl3)
      | (refine step_append_lies _ (by rfl) _ _ _ (by rfl) 0 27 i0 _ 1 24 Tryd.underlying104 HI.out HZ0.out HZ1.out HZ2.out rfl (by omega) (.slice Av rs.length cv) rs.length (rs.map Rec.v) (by rfl) (((HREC2.out.below HB3.out).1).alloc _)
            ⟨w3.heap.size, 0, none⟩ 1 1 [.slice A3 n c3] (by rfl) (by rfl) (World.news_of_block (cs := #[.slice A3 n c3]) (t := 27) (fr := (0, 0)) (heap_alloc_new w3 _)) (by simp [Value.oneCell'])
            (by omega) (by simp only [maxLen]; omega) (by omega) (Nat.zero_le _) (w3.heap.size + 1) (by simp) ?_; intro gg cap w4 hown4 hgrow hat hlt
         have hbk : w4.heap[G]? = w3.heap[G]? := (hgrow.block G (by simp; omega) (Ne.symm HVG.out)).trans (Below.heap_alloc _ _ _ hG3)
         have r1 : w4.cell? ⟨G, 2, none⟩ = some (.slice Av rs.length cv) := (World.cell?_of_block (a := ⟨G, 2, none⟩) hbk).trans q2
         have rf : w4.frozen? ⟨G, 2, none⟩ = false := (World.frozen?_of_block (a := ⟨G, 2, none⟩) hbk).trans q2f
         have HOWN4 := Lib.hid hown4; have HGR := Lib.hid hgrow; have HAT := Lib.hid hat
         clear hbk hown4 hgrow hat))
    all_goals
      obtain ⟨hfin, hT5⟩ := log_more (r := ⟨.slice A3 n c3, l⟩) HLB2.out HG.out HREC2.out (fun k hk => Nat.lt_of_lt_of_le (HFT1.out k hk) hw2) HB3.out HOWN3.out (by have := HN.out; simp only; omega) HOWN4.out HGR.out HAT.out
      have HFIN := Lib.hid hfin; have HT5 := Lib.hid hT5
      clear hfin hT5
      go_wp2
      go_ret
      rw [HE.out, show lappLs (recs rs) ((0 : Int), s').1 l = recs rs ++ [l] from if_pos rfl]
      refine ⟨rfl, F2, _, rs ++ [⟨.slice A3 n c3, l⟩], HD2.out.far (HT5.out) (fun k hk hf => ?_), HFIN.out, by simp [recs], fun k hk hf => ?_, ?_, ?_, ?_⟩
      · rcases HS2.out k hk with h1 | h1
        · exact HAP.out k hf h1
        · have := HFT1.out k hf
          have h1 : w1.heap.size ≤ k := h1
          omega
      · rcases hk with hk | hk
        · rcases HS2.out k hf with h1 | h1
          · exact HAP.out k hk h1
          · have := HFT1.out k hk
            have h1 : w1.heap.size ≤ k := h1
            omega
        · have := HD2.out.foot hf; omega
      · exact (((Turned.of_below HB1.out).trans (HT2.out.more (fun k _ hk => .inl hk))).trans (HT5.out.more (fun k _ hk => .inr hk)))
      · intro k hk
        exact (HS2.out k hk).imp id (fun h1 => by have h1 : w1.heap.size ≤ k := h1; have := HB1.out.size; omega)
      · intro k hk
        exact hk.imp id (fun h1 => by have := HB1.out.size; omega)
  · have hq : (x != 0) = true := by simpa using hx
    go_enter Tryd.func79, Tryd.ntmps79
    go_wp2_with fail
    refine HFR.out.mono ?_
    rintro e w1 ⟨v1, rfl, hv1, hb1⟩
    obtain ⟨A1, c1, hvv, hr1⟩ := hv1.open_
    subst hvv
    have hL1 := HL0.out.below hb1
    have HL1 := Lib.hid hL1
    obtain ⟨v, hlb1, hG, hrec1, hft1⟩ := hL1
    have c0 := hlb1.c0; have c11 := hlb1.c1
    have hGl := hlb1.lt
    have HGF := Lib.hid (HAP.out G hG)
    have HC := Lib.hid (HAPD.out w1.drew A1 _ c1 (HD0.out.below hb1).drew hr1.drew)
    have HFT1 := Lib.hid hft1; have HB1 := Lib.hid hb1
    clear hv1 hb1 hr1 hlb1 hrec1 hft1
    generalize (M.frame l).length = nf at *
    go_wp2_with fail
    go_region_held3 (fun w' => w'.cell? ⟨G, 0, none⟩ = some (.pointer (some ⟨D, 0, none⟩)) ∧ w'.cell? ⟨G, 1, none⟩ = some (.string nm)) (go_keep)
      ((go_at_call 94; refine HC.out.mono ?_; rintro e w2 ⟨rfl, F2, hd2, ht2, hs2⟩
        have q0 := (ht2.cell (p := ⟨G, 0, none⟩) hGl HGF.out).trans c0; have q1 := (ht2.cell (p := ⟨G, 1, none⟩) hGl HGF.out).trans c11
        have HD2 := Lib.hid hd2; have HT2 := Lib.hid ht2.undrew; have HS2 := Lib.hid hs2; clear hd2 ht2 hs2))
    go_wp2
    go_ret
    rw [HE.out, show lappLs (recs rs) (x, s').1 l = recs rs from if_neg hx]
    refine ⟨rfl, F2, FL, rs, HD2.out, HL1.out.turned HT2.out (fun k hk => HAP.out k hk), rfl, fun k hk hf => ?_, (Turned.of_below HB1.out).trans (HT2.out.more (fun k _ hk => .inl hk)), ?_, Spread.refl _ _⟩
    · rcases HS2.out k hf with h1 | h1
      · exact HAP.out k hk h1
      · have := HFT1.out k hk
        have h1 : w1.heap.size ≤ k := h1
        omega
    · intro k hk
      exact (HS2.out k hk).imp id (fun h1 => by have h1 : w1.heap.size ≤ k := h1; have := HB1.out.size; omega)
end Go.Proofs.YtjdkpcibdjhdoaaDoor

namespace Go.Proofs.YtjdkpcibdjhdoaaDoor
open Go.RowKit Mem FM
set_option linter.unusedVariables false
set_option maxRecDepth 100000

def ws0 : St := St.new 1000
def ws1 : St := (openedR ws0 nmA).2
def ws2 : St := (lappR ws1 nmA [120]).2
def ws3 : St := (lsyncR ws2 nmA 1).2
def ws4 : St := (lappR ws3 nmA [121]).2
def ws5 : St := restarted ws4 [3]
theorem wo1 : (openedR ws0 nmA).1 = 0 := by decide +kernel
theorem wr1 : (M.scan (readR ws0 nmA).1).1 = [] := by decide +kernel
theorem wo2 : (lappR ws1 nmA [120]).1 = 0 := by decide +kernel
theorem wo3 : (lsyncR ws2 nmA 1).1 = 0 := by decide +kernel
theorem wo4 : (lappR ws3 nmA [121]).1 = 0 := by decide +kernel
theorem wo6 : (openedR ws5 nmA).1 = 0 := by decide +kernel
theorem wr6 : (M.scan (readR ws5 nmA).1).1.length = 1 := by decide +kernel
theorem wops : ws0.ops + 20 < 1099511627776 ∧ ws1.ops + 1 < 1099511627776 ∧ ws2.ops + 1 < 1099511627776 ∧ ws3.ops + 1 < 1099511627776 ∧ ws5.ops + 20 < 1099511627776 := by decide +kernel

/-- bytes that have just been laid -/
theorem firm_fresh {F : Nat → Prop} (w : World) (cs : Array Value) (e : TypeId) (m : Nat × Nat) (l : List UInt8) (hl : cs.toList = bcells l) (hn : l.length ≤ 9223372036854775807) (hF : ∀ k, F k → k < w.heap.size) :
    Firm F (w.alloc (.cells cs e m)) (some ⟨w.heap.size, 0, none⟩) l.length l.length l := fun w' ht => by
  have h := Rd.fresh w cs e m l hl hn
  refine ⟨h.1, h.2.1, h.2.2.1, fun h0 => ?_⟩
  obtain ⟨b, off, e1, hb, hc⟩ := h.2.2.2 h0
  injection e1 with e1
  injection e1 with e2 e3 e4
  subst e2 e3
  refine ⟨w.heap.size, 0, rfl, by have := ht.size; simp at this; omega, fun j hj => ?_⟩
  rw [ht.cell (p := ⟨w.heap.size, 0 + j, none⟩) (by simp) (fun hf => by have := hF _ hf; have h2 : w.heap.size < w.heap.size := this; omega)]
  exact hc j hj

/-- the disk and the log, seen from the world in which their owner began -/
def Wal (w : World) (D G : Nat) (s : St) (nm : ByteArray) (ls : List (List UInt8)) (wr : World) : Prop :=
  ∃ F FL rs, DiskAt wr F D s ∧ LogAt wr FL G D nm rs ∧ recs rs = ls ∧ (∀ k, FL k → ¬ F k) ∧ (∀ k, F k → w.heap.size ≤ k) ∧ (∀ k, FL k → w.heap.size ≤ k) ∧ Below w.heap.size w wr

theorem Wal.of_opened {w wr w' : World} {F : Nat → Prop} {D : Nat} {s' : St} {nm : ByteArray} {ls : List (List UInt8)} {e : Ending} (h : Opened F D s' nm ls wr e w') (hF : ∀ k, F k → w.heap.size ≤ k) (hb : Below w.heap.size w wr) : ∃ G, e = .returned (.tuple #[.pointer (some ⟨G, 0, none⟩), .int .i64 0]) ∧ Wal w D G s' nm ls w' := by
  obtain ⟨G, FL, rs, F', h1, h2, h3, h4, h5, h6, h7, h8⟩ := h
  exact ⟨G, h1, F', FL, rs, h4, h2, h3, h6, fun k hk => (h8 k hk).elim (hF k) (fun h => Nat.le_trans hb.size h), fun k hk => Nat.le_trans hb.size (h5 k hk), hb.trans (h7.below hb.size hF)⟩
theorem Wal.of_did {w wr w' : World} {F FL : Nat → Prop} {D G : Nat} {x : Int} {s' : St} {nm : ByteArray} {ls : List (List UInt8)} {e : Ending} (h : WalDid F FL D G x s' nm ls wr e w') (hF : ∀ k, F k → w.heap.size ≤ k) (hFL : ∀ k, FL k → w.heap.size ≤ k) (hb : Below w.heap.size w wr) : e = .returned (.int .i64 x) ∧ Wal w D G s' nm ls w' := by
  obtain ⟨h1, F', FL', rs, h2, h3, h4, h5, h6, h7, h8⟩ := h
  exact ⟨h1, F', FL', rs, h2, h3, h4, h5, fun k hk => (h7 k hk).elim (hF k) (fun h => Nat.le_trans hb.size h), fun k hk => (h8 k hk).elim (hFL k) (fun h => Nat.le_trans hb.size h), hb.trans (h6.below hb.size (fun k hk => hk.elim (hF k) (hFL k)))⟩
/-- a call of the disk beside the log -/
theorem Wal.of_disk {w wr w' : World} {F FL : Nat → Prop} {D G : Nat} {x : Int} {s' : St} {nm : ByteArray} {rs : List Rec} {e : Ending} (h : Did F D x s' wr e w') (hl : LogAt wr FL G D nm rs) (hap : ∀ k, FL k → ¬ F k) (hF : ∀ k, F k → w.heap.size ≤ k) (hFL : ∀ k, FL k → w.heap.size ≤ k) (hb : Below w.heap.size w wr) : e = .returned (.int .i64 x) ∧ Wal w D G s' nm (recs rs) w' := by
  obtain ⟨h1, F', h2, h3, h4⟩ := h
  exact ⟨h1, F', FL, rs, h2, hl.turned h3 hap, rfl, fun k hk hf => (h4 k hf).elim (hap k hk) (fun h => by have := hl.foot hk; omega), fun k hk => (h4 k hk).elim (hF k) (fun h => Nat.le_trans hb.size h), hFL, hb.trans (h3.below hb.size hF)⟩
theorem Wal.alloc {w wr : World} {D G : Nat} {s : St} {nm : ByteArray} {ls : List (List UInt8)} (h : Wal w D G s nm ls wr) (o : Obj) : Wal w D G s nm ls (wr.alloc o) := by
  obtain ⟨F, FL, rs, h1, h2, h3, h4, h5, h6, h7⟩ := h
  exact ⟨F, FL, rs, h1.alloc o, h2.below ((Below.refl _ wr).alloc (Nat.le_refl _) o), h3, h4, h5, h6, h7.alloc h7.size o⟩

end Go.Proofs.YtjdkpcibdjhdoaaDoor

namespace Go.Proofs.YtjdkpcibdjhdoaaDoor
open Go.RowKit Mem FM
set_option linter.unusedVariables false
set_option maxRecDepth 100000

/-- a row of slices whose bytes lie below B; the row itself is new -/
def RecsIn (w : World) (base B : Nat) (v : Value) (rs : List Rec) : Prop :=
  w.ownsRow base 27 1 v rs.length (rs.map Rec.v) ∧ ∀ r ∈ rs, ∃ A n c, r.v = .slice A n c ∧ Rd w B A n c r.l
theorem RecsIn.below {w w' : World} {base B : Nat} {v : Value} {rs : List Rec} (h : RecsIn w base B v rs) (hb : Below w.heap.size w w') (hB : B ≤ w.heap.size) : RecsIn w' base B v rs :=
  ⟨row_turned (G := fun _ => False) h.1 (Turned.of_below hb) (fun _ _ h => h), fun r hr => by
    obtain ⟨A, n, c, hv, hrd⟩ := h.2 r hr
    exact ⟨A, n, c, hv, hrd.below (hb.mono hB)⟩⟩
theorem RecsIn.form {w : World} {base B : Nat} {v : Value} {rs : List Rec} (h : RecsIn w base B v rs) : ∃ A c, v = .slice A rs.length c ∧ rs.length ≤ c ∧ c ≤ 9223372036854775807 := by
  rcases h.1.2 with ⟨rfl, h0⟩ | ⟨g, cap, cur, rfl, _, _, h1, h2, _⟩
  · exact ⟨none, 0, by rw [h0], by omega, by omega⟩
  · exact ⟨_, cap, rfl, h1, by simpa only [maxLen] using h2⟩

def RScanned (B : Nat) (l : List UInt8) (w : World) (e : Ending) (w' : World) : Prop :=
  ∃ v rs, e = .returned (.tuple #[v, .int .i64 ((M.scan l).2 : Int)]) ∧ RecsIn w' w.heap.size B v rs ∧ recs rs = (M.scan l).1 ∧ Below w.heap.size w w'
def RScanInv (B : Nat) (l : List UInt8) (w : World) (k : Nat) (v : Value) (rs : List Rec) (wr : World) : Prop :=
  RecsIn wr w.heap.size B v rs ∧ Below w.heap.size w wr ∧ recs rs ++ (M.scanFrom l k).1 = (M.scan l).1 ∧ (M.scanFrom l k).2 = (M.scan l).2

/-- a list of texts that can be read, slice by slice -/
def RdL (w : World) (A : Option Addr) (n c : Nat) (ls : List (List UInt8)) : Prop :=
  n = ls.length ∧ n ≤ c ∧ c ≤ 9223372036854775807 ∧ ∀ i (hi : i < ls.length), ∃ g off A' n' c', A = some ⟨g, off, none⟩ ∧ w.cell? ⟨g, off + i, none⟩ = some (.slice A' n' c') ∧ Rd w w.heap.size A' n' c' ls[i]
theorem RecsIn.rdl {w : World} {base B : Nat} {A : Option Addr} {n c : Nat} {rs : List Rec} (h : RecsIn w base B (.slice A n c) rs) (hB : B ≤ w.heap.size) : RdL w A n c (recs rs) := by
  obtain ⟨A', c', hv, h1, h2⟩ := h.form
  injection hv with e1 e2 e3
  subst e1 e2 e3
  refine ⟨by simp [recs], h1, h2, fun i hi => ?_⟩
  have hi' : i < rs.length := by simpa [recs] using hi
  obtain ⟨A1, n1, c1, hv1, hrd⟩ := h.2 rs[i] (List.getElem_mem hi')
  obtain ⟨g, cp, hvf⟩ : ∃ g cp, Value.slice A rs.length c = .slice (some ⟨g, 0, none⟩) rs.length cp := by
    rcases h.1.2 with ⟨_, h0⟩ | ⟨g, cap, cur, hv, _⟩
    · omega
    · exact ⟨g, cap, hv⟩
  injection hvf with e4 _ e5
  subst e4 e5
  have hcell := World.ownsRow.cellAt h.1 i (by omega)
  refine ⟨g, 0, A1, n1, c1, rfl, ?_, ?_⟩
  · rw [Nat.zero_add, hcell]
    simp [hi', hv1]
  · have e : (recs rs)[i] = rs[i].l := by simp [recs]
    rw [e]
    exact hrd.more hB
theorem RecsAt.rdl {w : World} {F : Nat → Prop} {A : Option Addr} {n c : Nat} {rs : List Rec} (h : RecsAt w F (.slice A n c) rs) : RdL w A n c (recs rs) := by
  refine RecsIn.rdl (base := 0) (B := w.heap.size) ⟨?_, fun r hr => ?_⟩ (Nat.le_refl _)
  · exact h.1
  · obtain ⟨A1, c1, hv, hrd⟩ := (h.2.2 r hr).1.open_
    exact ⟨A1, _, c1, hv, hrd⟩
end Go.Proofs.YtjdkpcibdjhdoaaDoor

namespace Go.Proofs.YtjdkpcibdjhdoaaDoor
open Go.RowKit Mem FM
set_option linter.unusedVariables false
set_option maxRecDepth 100000

theorem RdL.keep {w w' : World} {A : Option Addr} {n c : Nat} {ls : List (List UInt8)} (h : RdL w A n c ls) (hb : Below w.heap.size w w') : RdL w' A n c ls := by
  refine ⟨h.1, h.2.1, h.2.2.1, fun i hi => ?_⟩
  obtain ⟨g, off, A', n', c', hA, hc, hr⟩ := h.2.2.2 i hi
  exact ⟨g, off, A', n', c', hA, (hb.cell (p := ⟨g, off + i, none⟩) (World.block_lt_of_cell? w _ hc)).trans hc, (hr.below hb).more hb.size⟩

end Go.Proofs.YtjdkpcibdjhdoaaDoor

namespace Go.Proofs.YtjdkpcibdjhdoaaDoor
open Go.RowKit Mem FM
set_option linter.unusedVariables false
set_option maxRecDepth 100000

set_option maxHeartbeats 1000000 in
theorem at_any (G D i : Nat) (F : Nat → Prop) (nm : ByteArray) (rs : List Rec) (w : World) (h : LogAt w F G D nm rs) (hi : i < rs.length) :
    Calls Tryd.prog 59 #[.pointer (some ⟨G, 0, none⟩), .int .i64 i] w (fun e w' => ∃ A n c, e = .returned (.tuple #[.slice A n c, .int .i64 0]) ∧ Own w' w.heap.size 5 (.slice A n c) rs[i].l ∧ Below w.heap.size w w') := by
  have HLN := Lib.hid (len_any G D F nm rs w h)
  obtain ⟨v, h1, _, h3, _⟩ := h
  obtain ⟨A, c, rfl, hc, hcm⟩ := h3.form
  obtain ⟨g, hvf⟩ : ∃ g, A = some ⟨g, 0, none⟩ := by
    rcases h3.1.2 with ⟨_, h0⟩ | ⟨g, cap, cur, hv, _⟩
    · omega
    · injection hv with e _ _; exact ⟨g, e⟩
  subst hvf
  have hcell0 := World.ownsRow.cellAt h3.1 i (by omega)
  obtain ⟨hown, hfoo, hl⟩ := h3.2.2 rs[i] (List.getElem_mem hi)
  obtain ⟨A1, c1, hv1, hrd⟩ := hown.open_
  have hcell : w.cell? ⟨g, i, none⟩ = some (.slice A1 rs[i].l.length c1) := by rw [hcell0]; simp [hi, hv1]
  clear hcell0
  have HCL := Lib.hid (clone_at _ A1 _ c1 rs[i].l w hrd (Nat.le_refl _) (by omega))
  have c2 := h1.c2
  clear h1 h3 hown hrd hv1 hfoo
  generalize rs[i].l = lr at *
  obtain ⟨ln, hln⟩ : ∃ ln, ln = lr.length := ⟨_, rfl⟩
  rw [← hln] at hcell HCL hl
  clear hln
  generalize rs.length = n at *
  go_enter Tryd.func59, Tryd.ntmps59
  go_wp2_with fail
  refine HLN.out.mono ?_
  rintro e w1 ⟨rfl, hw1⟩
  subst hw1
  go_wp2_with fail
  refine HCL.out.mono ?_
  rintro e w2 ⟨v2, rfl, hown2, hb2⟩
  obtain ⟨A2, c2', hv2, _⟩ := hown2.open_
  subst hv2
  have HO := Lib.hid hown2; have HB := Lib.hid hb2
  clear hown2 hb2
  generalize lr.length = ln2 at *
  go_wp2
  go_ret2
  exact ⟨_, _, _, rfl, HO.out, HB.out⟩

def AllInv (w : World) (F : Nat → Prop) (G D : Nat) (nm : ByteArray) (rs : List Rec) (v : Value) (ls : List Rec) (wr : World) : Prop :=
  RecsAt wr (fun b => w.heap.size ≤ b) v ls ∧ Below w.heap.size w wr ∧ recs ls = (recs rs).take ls.length

end Go.Proofs.YtjdkpcibdjhdoaaDoor

namespace Go.Proofs.YtjdkpcibdjhdoaaDoor
open Go.RowKit Mem FM
set_option linter.unusedVariables false

def nmLg : ByteArray := ⟨#[108, 111, 103]⟩
def nmLn : ByteArray := ⟨#[108, 111, 103, 46, 110, 101, 119]⟩
theorem nmN_lg : nmN nmLg = nmLn := by decide +kernel
def fg (l : List UInt8) (k : Nat) : File Unit := ⟨[108, 111, 103], l, k, ()⟩
def fn (l : List UInt8) (k : Nat) : File Unit := ⟨[108, 111, 103, 46, 110, 101, 119], l, k, ()⟩
def cu (fs : List (File Unit)) (o : Nat) : St := ⟨65536, fs, o, 0, false⟩
theorem rG : ready1 nmLg false = 0 := by decide
theorem rN : ready1 nmLn false = 0 := by decide
theorem rNG : ready2 nmLn nmLg false = 0 := by decide
section
variable (p q : List UInt8) (k j o : Nat)
theorem ca1 (h : p.length ≤ 5000) : appended (St.new 65536) nmLg p = (0, cu [fg p 0] 1) := by
  unfold appended
  rw [show (St.new 65536).off = false from rfl, if_pos rG]
  unfold wrote
  rw [if_neg (by show ¬ (65536 - 0 < p.length); omega)]
  rfl
theorem ca2 : synced (cu [fg p k] 1) nmLg = (0, cu [fg p p.length] 2) := by
  unfold synced
  rw [show (cu [fg p k] 1).off = false from rfl, if_pos rG]
  rfl
theorem ca3 (h : p.length + q.length ≤ 5000) : appended (cu [fg p k] 2) nmLn q = (0, cu [fg p k, fn q 0] 3) := by
  unfold appended
  rw [show (cu [fg p k] 2).off = false from rfl, if_pos rN]
  unfold wrote
  rw [if_neg (by show ¬ (65536 - (p.length + 0) < q.length); omega)]
  rfl
theorem cd1 : removed (cu [fg p k, fn q j] o) nmLn = (0, cu [fg p k] (o + 1)) := by
  unfold removed
  rw [show (cu [fg p k, fn q j] o).off = false from rfl, if_pos rN]
  rfl
theorem cd2 : removed (cu [fg p k] o) nmLn = (8, cu [fg p k] o) := by
  unfold removed
  rw [show (cu [fg p k] o).off = false from rfl, if_pos rN]
  rfl
theorem cdr1 : droppedR (cu [fg p k, fn q j] o) nmLg = (0, cu [fg p k] (o + 1)) := by
  unfold droppedR
  rw [nmN_lg, cd1, if_neg (by simp)]
theorem cdr2 : droppedR (cu [fg p k] o) nmLg = (0, cu [fg p k] o) := by
  unfold droppedR
  rw [nmN_lg, cd2, if_pos rfl]
theorem cp1 (h : p.length + q.length ≤ 20000) : putR (cu [fg p k] o) nmLn q = (0, cu [fg p k, fn q 0] (o + 1)) := by
  unfold putR
  rw [show (cu [fg p k] o).off = false from rfl, if_pos rN]
  unfold putNew
  have : find nmLn.data.toList (cu [fg p k] o).files = none := rfl
  simp only [this]
  unfold wrote
  rw [if_neg (by show ¬ (65536 - (p.length + 0) < q.length); omega)]
  rfl
theorem cs1 : synced (cu [fg p k, fn q j] o) nmLn = (0, cu [fg p k, fn q q.length] (o + 1)) := by
  unfold synced
  rw [show (cu [fg p k, fn q j] o).off = false from rfl, if_pos rN]
  rfl
theorem cr1 : renamed (cu [fg p k, fn q q.length] o) nmLn nmLg = (0, cu [fg q q.length] (o + 1)) := by
  unfold renamed
  rw [show (cu [fg p k, fn q q.length] o).off = false from rfl, if_pos rNG]
  have : find nmLn.data.toList (cu [fg p k, fn q q.length] o).files = some (fn q q.length) := rfl
  simp only [this]
  rw [if_neg (by show ¬ q.length < q.length; omega)]
  rfl
theorem crep (h : p.length + q.length ≤ 20000) : replacedR (cu [fg p k] o) nmLg q = (0, cu [fg q q.length] (o + 3)) := by
  unfold replacedR
  rw [cdr2, if_neg (by simp)]
  unfold repl2
  rw [nmN_lg, cp1 p q k o h, if_neg (by simp)]
  unfold repl3
  rw [nmN_lg, cs1, if_neg (by simp), cr1]
theorem cread (h : True) : readR (cu [fg p k, fn q j] o) nmLg = (p, 0) := by
  unfold readR
  rw [show (cu [fg p k, fn q j] o).off = false from rfl, if_pos rG]
  rfl
theorem cread1 : readR (cu [fg p k] o) nmLg = (p, 0) := by
  unfold readR
  rw [show (cu [fg p k] o).off = false from rfl, if_pos rG]
  rfl
/-- Open cuts off what stands behind the records -/
theorem copen (h : p.length ≤ 5000) : ∃ o', o' ≤ o + 4 ∧ openedR (cu [fg p p.length, fn q j] o) nmLg = (0, cu [fg (p.take (M.scan p).2) (M.scan p).2] o') := by
  unfold openedR
  rw [cread p q p.length j o trivial, cdr1]
  have hle := scan_le p
  by_cases hlt : (M.scan p).2 < p.length
  · refine ⟨o + 1 + 3, by omega, ?_⟩
    rw [if_neg (by simp), if_neg (by simp), if_pos hlt, crep p (p.take (M.scan p).2) p.length (o + 1) (by simp; omega)]
    rw [List.length_take, Nat.min_eq_left hle]
  · refine ⟨o + 1, by omega, ?_⟩
    have he : (M.scan p).2 = p.length := by omega
    rw [if_neg (by simp), if_neg (by simp), if_neg hlt, he, List.take_length]
end
end Go.Proofs.YtjdkpcibdjhdoaaDoor

namespace Go.Proofs.YtjdkpcibdjhdoaaDoor.M
open Go.RowKit
set_option linter.unusedVariables false

theorem drop_shift (a b : List UInt8) (i : Nat) : (a ++ b).drop (a.length + i) = b.drop i := by
  rw [← List.drop_drop, List.drop_left]
theorem at8_shift (a b : List UInt8) (i : Nat) : at8 (a ++ b) (a.length + i) = at8 b i := by
  unfold at8
  rw [List.getElem?_append_right (by omega), Nat.add_sub_cancel_left]
theorem rdAt_shift (a b : List UInt8) (k : Nat) : rdAt (a ++ b) ((a.length + k : Nat) : Int) = ((rdAt b (k : Int)).1, if (rdAt b (k : Int)).2.2 = 0 then a.length + (rdAt b (k : Int)).2.1 else 0, (rdAt b (k : Int)).2.2) := by
  unfold rdAt
  by_cases h : k ≤ b.length
  · rw [if_neg (by simp; omega), if_neg (by omega)]
    rw [show ((a.length + k : Nat) : Int).toNat = a.length + k from rfl, show ((k : Nat) : Int).toNat = k from rfl, drop_shift]
    cases rd 0 0 (b.drop k) with
    | none => rfl
    | some x => obtain ⟨v, n⟩ := x; simp; omega
  · rw [if_pos (by simp; omega), if_pos (by omega)]
    rfl
theorem rdFrame_shift (a b : List UInt8) : rdFrame (a ++ b) (a.length : Int) = ((rdFrame b 0).1, if (rdFrame b 0).2.2 = 0 then a.length + (rdFrame b 0).2.1 else 0, (rdFrame b 0).2.2) := by
  have hsh := rdAt_shift a b 1
  rw [show ((a.length + 1 : Nat) : Int) = (a.length : Int) + 1 from rfl, show ((1 : Nat) : Int) = (0 : Int) + 1 from rfl] at hsh
  unfold rdFrame
  rw [hsh]
  generalize rdAt b ((0 : Int) + 1) = R
  obtain ⟨V, N, E⟩ := R
  simp only
  rw [if_neg (show ¬ ((a.length : Int) < 0 ∨ ((a ++ b).length : Int) < (a.length : Int)) by simp; omega), if_neg (show ¬ ((0 : Int) < 0 ∨ (b.length : Int) < 0) by omega)]
  by_cases hb : b.length = 0
  · rw [if_pos (show (a.length : Int) = ((a ++ b).length : Int) by simp; omega), if_pos (show (0 : Int) = (b.length : Int) by omega)]
    rfl
  rw [if_neg (show ¬ (a.length : Int) = ((a ++ b).length : Int) by rw [List.length_append]; omega), if_neg (show ¬ (0 : Int) = (b.length : Int) by omega)]
  rw [show ((a.length : Int)).toNat = a.length + 0 from rfl, at8_shift, show ((0 : Int)).toNat = 0 from rfl]
  by_cases h1 : at8 b 0 ≠ 241
  · rw [if_pos h1, if_pos h1]; rfl
  rw [if_neg h1, if_neg h1]
  by_cases h2 : E ≠ 0 ∨ 65535 < V
  · rw [if_pos h2, if_pos h2]; rfl
  rw [if_neg h2, if_neg h2]
  have hE : E = 0 := by omega
  subst hE
  simp only [if_true]
  rw [show a.length + N + 4 + V = a.length + (N + 4 + V) by omega, at8_shift, show a.length + N + 4 = a.length + (N + 4) by omega, drop_shift, drop_shift]
  by_cases h3 : b.length ≤ N + 4 + V ∨ at8 b (N + 4 + V) ≠ 31
  · rw [if_pos h3, if_pos (h3.imp (fun h => by rw [List.length_append]; omega) id)]; rfl
  rw [if_neg h3, if_neg (fun h => h3 (h.imp (fun h => by rw [List.length_append] at h; omega) id))]
  by_cases h4 : sum ((b.drop (N + 4)).take V) ≠ be4 (b.drop N)
  · rw [if_pos h4, if_pos h4]; rfl
  rw [if_neg h4, if_neg h4]
  simp only [if_true]
  rw [Nat.add_assoc]

def frames (ls : List (List UInt8)) : List UInt8 := (ls.map frame).flatten
theorem frames_cons (x : List UInt8) (ls : List (List UInt8)) : frames (x :: ls) = frame x ++ frames ls := rfl
theorem frames_snoc (x : List UInt8) (ls : List (List UInt8)) : frames (ls ++ [x]) = frames ls ++ frame x := by simp [frames]
theorem rdFrame_nil : (rdFrame [] 0).2.2 ≠ 0 := by decide

theorem scanFrom_frames : ∀ (ls : List (List UInt8)) (a r : List UInt8), (∀ x ∈ ls, x.length ≤ 65535) → (rdFrame r 0).2.2 ≠ 0 → scanFrom (a ++ (frames ls ++ r)) a.length = (ls, a.length + (frames ls).length)
  | [], a, r, _, hr => by
    have : frames [] ++ r = r := rfl
    rw [this, scanFrom_no (by rw [rdFrame_shift]; exact hr)]
    rfl
  | x :: ls, a, r, hx, hr => by
    have hfx := rdFrame_frame x (frames ls ++ r) (hx x (by simp))
    have e : a ++ (frames (x :: ls) ++ r) = a ++ (frame x ++ (frames ls ++ r)) := by rw [frames_cons, List.append_assoc]
    have hrd : rdFrame (a ++ (frames (x :: ls) ++ r)) (a.length : Int) = (x, a.length + (frame x).length, 0) := by
      rw [e, rdFrame_shift, hfx]; rfl
    rw [scanFrom_ok (by rw [hrd]), hrd]
    have ih := scanFrom_frames ls (a ++ frame x) r (fun y hy => hx y (by simp [hy])) hr
    rw [List.append_assoc, List.length_append, ← e] at ih
    simp only
    rw [ih, frames_cons, List.length_append]
    simp only
    rw [Nat.add_assoc]
/-- frames, and something behind them that is no frame -/
theorem scan_frames (ls : List (List UInt8)) (r : List UInt8) (hl : ∀ x ∈ ls, x.length ≤ 65535) (hr : (rdFrame r 0).2.2 ≠ 0) : scan (frames ls ++ r) = (ls, (frames ls).length) := by
  have := scanFrom_frames ls [] r hl hr
  rw [List.nil_append, List.length_nil, Nat.zero_add] at this
  exact this
theorem scan_all (ls : List (List UInt8)) (hl : ∀ x ∈ ls, x.length ≤ 65535) : scan (frames ls) = (ls, (frames ls).length) := by
  have := scan_frames ls [] hl rdFrame_nil
  rwa [List.append_nil] at this
end Go.Proofs.YtjdkpcibdjhdoaaDoor.M
namespace Go.Proofs.YtjdkpcibdjhdoaaDoor
open Go.RowKit Mem FM
set_option linter.unusedVariables false

def mu (fs : List (File Unit)) (o : Nat) : St := ⟨1048576, fs, o, 0, false⟩
/-- a log of records, all synced -/
def ms (ls : List (List UInt8)) : St := match ls with
  | [] => mu [] 0
  | x :: r => mu [fg (M.frames (x :: r)) (M.frames (x :: r)).length] (2 * (r.length + 1))
def mt (ls : List (List UInt8)) (x : List UInt8) : St := mu [fg (M.frames ls ++ M.frame x) (M.frames ls).length] (2 * ls.length + 1)
theorem ms_new : ms [] = St.new 1048576 := rfl
theorem ms_snoc (ls : List (List UInt8)) (x : List UInt8) : ms (ls ++ [x]) = mu [fg (M.frames ls ++ M.frame x) (M.frames ls ++ M.frame x).length] (2 * (ls.length + 1)) := by
  cases ls with
  | nil => simp [ms, M.frames]
  | cons a r =>
    show mu [fg (M.frames (a :: r ++ [x])) (M.frames (a :: r ++ [x])).length] (2 * ((r ++ [x]).length + 1)) = _
    rw [M.frames_snoc]
    simp
theorem ms_ops (ls : List (List UInt8)) : (ms ls).ops = 2 * ls.length := by cases ls <;> rfl
theorem mt_ops (ls : List (List UInt8)) (x : List UInt8) : (mt ls x).ops = 2 * ls.length + 1 := rfl
theorem ma1 (ls : List (List UInt8)) (x : List UInt8) (h : (M.frames ls).length + (M.frame x).length ≤ 1000000) : lappR (ms ls) nmLg x = (0, mt ls x) := by
  unfold lappR appended
  cases ls with
  | nil =>
    rw [show (ms []).off = false from rfl, if_pos rG]
    unfold wrote
    rw [if_neg (by show ¬ (1048576 - 0 < (M.frame x).length); omega)]
    rfl
  | cons a r =>
    rw [show (ms (a :: r)).off = false from rfl, if_pos rG]
    unfold wrote
    rw [if_neg (by show ¬ (1048576 - ((M.frames (a :: r)).length + 0) < (M.frame x).length); omega)]
    rfl
theorem ma2 (ls : List (List UInt8)) (x : List UInt8) (n : Nat) : lsyncR (mt ls x) nmLg n = (0, ms (ls ++ [x])) := by
  have h : synced (mt ls x) nmLg = (0, ms (ls ++ [x])) := by
    rw [ms_snoc]
    unfold synced
    rw [show (mt ls x).off = false from rfl, if_pos rG]
    rfl
  unfold lsyncR
  rw [h, if_neg (by simp)]
theorem ma3 (ls : List (List UInt8)) (ks : List Int) : restarted (ms ls) ks = ms ls := by
  cases ls with
  | nil => rfl
  | cons a r =>
    show mu [lostF (ks[0]?.getD 0) (fg (M.frames (a :: r)) (M.frames (a :: r)).length)] _ = _
    have h := left_le (n := (M.frames (a :: r)).length) (sure := (M.frames (a :: r)).length) (keep := ks[0]?.getD 0) (Nat.le_refl _)
    have e : left (M.frames (a :: r)).length (M.frames (a :: r)).length (ks[0]?.getD 0) = (M.frames (a :: r)).length := by omega
    have e2 : lostF (ks[0]?.getD 0) (fg (M.frames (a :: r)) (M.frames (a :: r)).length) = fg (M.frames (a :: r)) (M.frames (a :: r)).length := by
      unfold lostF
      rw [show (fg (M.frames (a :: r)) (M.frames (a :: r)).length).data = M.frames (a :: r) from rfl, show (fg (M.frames (a :: r)) (M.frames (a :: r)).length).sure = (M.frames (a :: r)).length from rfl, e, List.take_length]
      rfl
    rw [e2]
    rfl
theorem mread (ls : List (List UInt8)) : (readR (ms ls) nmLg).1 = M.frames ls ∧ ((readR (ms ls) nmLg).2 = 0 ∨ (readR (ms ls) nmLg).2 = 8) := by
  cases ls with
  | nil => exact ⟨by decide +kernel, .inr (by decide +kernel)⟩
  | cons a r =>
    have h : readR (ms (a :: r)) nmLg = (M.frames (a :: r), 0) := by
      unfold readR
      rw [show (ms (a :: r)).off = false from rfl, if_pos rG]
      rfl
    rw [h]; exact ⟨rfl, .inl rfl⟩
theorem mdrop (ls : List (List UInt8)) : droppedR (ms ls) nmLg = (0, ms ls) := by
  have h : removed (ms ls) nmLn = (8, ms ls) := by
    unfold removed
    cases ls with
    | nil => rw [show (ms []).off = false from rfl, if_pos rN]; rfl
    | cons a r => rw [show (ms (a :: r)).off = false from rfl, if_pos rN]; rfl
  unfold droppedR
  rw [nmN_lg, h, if_pos rfl]
theorem mopen (ls : List (List UInt8)) (hl : ∀ x ∈ ls, x.length ≤ 65535) : openedR (ms ls) nmLg = (0, ms ls) ∧ (M.scan (readR (ms ls) nmLg).1).1 = ls := by
  obtain ⟨h1, h2⟩ := mread ls
  have hs := M.scan_all ls hl
  refine ⟨?_, by rw [h1, hs]⟩
  unfold openedR
  rw [h1, hs, mdrop, if_neg (by omega), if_neg (by simp), if_neg (by simp)]
theorem frames_len (ls : List (List UInt8)) (hl : ∀ x ∈ ls, (M.frame x).length ≤ 300) : (M.frames ls).length ≤ 300 * ls.length := by
  induction ls with
  | nil => simp [M.frames]
  | cons a r ih =>
    have := ih (fun x hx => hl x (by simp [hx]))
    have := hl a (by simp)
    rw [M.frames_cons, List.length_append, List.length_cons]
    omega
end Go.Proofs.YtjdkpcibdjhdoaaDoor
namespace Go.Proofs.YtjdkpcibdjhdoaaDoor
open Go.RowKit Mem FM
set_option linter.unusedVariables false
set_option maxRecDepth 100000

/-- a log on a disk, and a list of the same records in memory of its own -/
def MnyF (F FL FX : Nat → Prop) (rs : List Rec) (w : World) (D G : Nat) (s : St) (v : Value) (xs : List Rec) (wr : World) : Prop :=
  DiskAt wr F D s ∧ LogAt wr FL G D nmLg rs ∧ recs rs = recs xs ∧ (∀ k, FL k → ¬ F k) ∧ (∀ k, F k → w.heap.size ≤ k) ∧ (∀ k, FL k → w.heap.size ≤ k) ∧ Below w.heap.size w wr ∧ RecsAt wr FX v xs ∧ ∀ k, FX k → w.heap.size ≤ k ∧ k < wr.heap.size ∧ ¬ F k ∧ ¬ FL k
def Mny (w : World) (D G : Nat) (s : St) (v : Value) (xs : List Rec) (wr : World) : Prop := ∃ F FL FX rs, MnyF F FL FX rs w D G s v xs wr
/-- .. the log has one record more, which lies in memory of its own -/
def MidF (F FL FX : Nat → Prop) (rs : List Rec) (w : World) (D G : Nat) (s : St) (v : Value) (xs : List Rec) (vx : Value) (x : List UInt8) (wr : World) : Prop :=
  DiskAt wr F D s ∧ LogAt wr FL G D nmLg rs ∧ recs rs = recs xs ++ [x] ∧ (∀ k, FL k → ¬ F k) ∧ (∀ k, F k → w.heap.size ≤ k) ∧ (∀ k, FL k → w.heap.size ≤ k) ∧ Below w.heap.size w wr ∧ RecsAt wr FX v xs ∧ (∀ k, FX k → w.heap.size ≤ k ∧ k < wr.heap.size ∧ ¬ F k ∧ ¬ FL k) ∧ Own wr w.heap.size 5 vx x ∧ ∀ k, vx.ownBlock = some k → ¬ F k ∧ ¬ FL k
def Mid (w : World) (D G : Nat) (s : St) (v : Value) (xs : List Rec) (vx : Value) (x : List UInt8) (wr : World) : Prop := ∃ F FL FX rs, MidF F FL FX rs w D G s v xs vx x wr

theorem mid_push {w w3 w9 : World} {D G gg cap m : Nat} {s : St} {v vx : Value} {xs : List Rec} {x : List UInt8} {o : Obj} (h : Mid w D G s v xs vx x w3) (hx : x.length ≤ 65535) (hm : xs.length = m)
    (hrow : w9.ownsRow 0 27 1 (.slice (some ⟨gg, 0, none⟩) (m + 1) cap) (m + 1) (xs.map Rec.v ++ [vx])) (hgrow : (w3.alloc o).grownBy w9 v.ownBlock) (hat : v.ownBlock = some gg ∨ gg = w3.heap.size + 1) :
    Mny w D G s (.slice (some ⟨gg, 0, none⟩) (m + 1) cap) (xs ++ [⟨vx, x⟩]) w9 := by
  subst hm
  obtain ⟨F, FL, FX, rs, h1, h2, h3, h4, h5, h6, h7, h8, h9, h10, h11⟩ := h
  have hT : Turned FX w3 w9 := ((Turned.refl FX w3).alloc o).grown hgrow (fun k hk => .inl (h8.2.1 k hk))
  have hgl : gg < w9.heap.size := (hrow.lt gg rfl).2
  have hw : w3.heap.size ≤ w9.heap.size := hT.size
  have h8' : RecsAt w3 (fun k => w.heap.size ≤ k ∧ k < w9.heap.size ∧ ¬ F k ∧ ¬ FL k) v xs := h8.more (fun k hk => by obtain ⟨b1, b2, b3, b4⟩ := h9 k hk; exact ⟨b1, by omega, b3, b4⟩)
  refine ⟨F, FL, fun k => w.heap.size ≤ k ∧ k < w9.heap.size ∧ ¬ F k ∧ ¬ FL k, rs, h1.far hT (fun k hk hx => (h9 k hx).2.2.1 hk), h2.turned hT (fun k hk hx => (h9 k hx).2.2.2 hk), ?_, h4, h5, h6, h7.trans (hT.below h7.size (fun k hk => (h9 k hk).1)), ?_, fun k hk => hk⟩
  · rw [h3]; simp [recs]
  · refine h8'.grow (r := ⟨vx, x⟩) (h10.less (Nat.zero_le _)) hx (fun k hk => ?_) (hat.imp id (fun e => ?_)) hrow hgrow
    · have := h10.lt k hk
      exact ⟨this.1, by omega, (h11 k hk).1, (h11 k hk).2⟩
    · have := h7.size
      exact ⟨by omega, hgl, fun hf => by have := h1.foot hf; omega, fun hf => by have := h2.foot hf; omega⟩

theorem mid_did {w wr w1 w2 : World} {F FL FX : Nat → Prop} {rs : List Rec} {D G : Nat} {s s' : St} {v vx : Value} {xs : List Rec} {x : List UInt8} {e : Ending} (h : MnyF F FL FX rs w D G s v xs wr) (hb : Below wr.heap.size wr w1) (hown : Own w1 wr.heap.size 5 vx x)
    (hdid : WalDid F FL D G 0 s' nmLg (recs rs ++ [x]) w1 e w2) : e = .returned (.int .i64 0) ∧ Mid w D G s' v xs vx x w2 := by
  obtain ⟨h1, h2, h3, h4, h5, h6, h7, h8, h9⟩ := h
  obtain ⟨he, F', FL', rs', a1, a2, a3, a4, a5, a6, a7⟩ := hdid
  have hs1 := hb.size; have hs2 := a5.size; have hs0 := h7.size
  have hF : ∀ k, F' k → F k ∨ w1.heap.size ≤ k := a6
  have hFL : ∀ k, FL' k → FL k ∨ w1.heap.size ≤ k := a7
  refine ⟨he, F', FL', FX, rs', a1, a2, by rw [a3, h3], a4, fun k hk => (hF k hk).elim (h5 k) (fun h => by omega), fun k hk => (hFL k hk).elim (h6 k) (fun h => by omega), ?_, ?_, fun k hk => ?_, ?_, fun k hk => ?_⟩
  · exact (h7.trans (hb.mono hs0)).trans (a5.below (by omega) (fun k hk => hk.elim (h5 k) (h6 k)))
  · exact (h8.below hb).turned a5 (fun k hk hf => hf.elim (h9 k hk).2.2.1 (h9 k hk).2.2.2)
  · obtain ⟨b1, b2, b3, b4⟩ := h9 k hk
    exact ⟨b1, by omega, fun hf => (hF k hf).elim b3 (fun h => by omega), fun hf => (hFL k hf).elim b4 (fun h => by omega)⟩
  · refine (hown.turned a5 (fun k hk hf => ?_)).less hs0
    have := (hown.lt k hk).1
    rcases hf with hf | hf
    · have := h1.foot hf; omega
    · have := h2.foot hf; omega
  · have hk2 := hown.lt k hk
    exact ⟨fun hf => (hF k hf).elim (fun hf => by have := h1.foot hf; omega) (fun h => by omega), fun hf => (hFL k hf).elim (fun hf => by have := h2.foot hf; omega) (fun h => by omega)⟩

theorem mid_sync {w w2 w3 : World} {F FL FX : Nat → Prop} {rs : List Rec} {D G : Nat} {s s' : St} {v vx : Value} {xs : List Rec} {x : List UInt8} {e : Ending} (h : MidF F FL FX rs w D G s v xs vx x w2) (hdid : Did F D 0 s' w2 e w3) : e = .returned (.int .i64 0) ∧ Mid w D G s' v xs vx x w3 := by
  obtain ⟨h1, h2, h3, h4, h5, h6, h7, h8, h9, h10, h11⟩ := h
  obtain ⟨he, F', a1, a2, a3⟩ := hdid
  have hs2 := a2.size; have hs0 := h7.size
  have hF : ∀ k, F' k → F k ∨ w2.heap.size ≤ k := a3
  refine ⟨he, F', FL, FX, rs, a1, h2.turned a2 h4, h3, fun k hk hf => (hF k hf).elim (h4 k hk) (fun h => by have := h2.foot hk; omega), fun k hk => (hF k hk).elim (h5 k) (fun h => by omega), h6, h7.trans (a2.below hs0 h5), h8.turned a2 (fun k hk => (h9 k hk).2.2.1), fun k hk => ?_, h10.turned a2 (fun k hk => (h11 k hk).1), fun k hk => ⟨fun hf => (hF k hf).elim (h11 k hk).1 (fun h => by have := (h10.lt k hk).2; omega), (h11 k hk).2⟩⟩
  obtain ⟨b1, b2, b3, b4⟩ := h9 k hk
  exact ⟨b1, by omega, fun hf => (hF k hf).elim b3 (fun h => by omega), b4⟩
end Go.Proofs.YtjdkpcibdjhdoaaDoor
namespace Go.Proofs.YtjdkpcibdjhdoaaDoor
open Go.RowKit Mem FM
set_option linter.unusedVariables false
set_option maxRecDepth 100000

theorem uv_small (n : Nat) : (M.uv n).length ≤ 10 := by have := M.uv_len n; omega

end Go.Proofs.YtjdkpcibdjhdoaaDoor

namespace Go.Proofs.YtjdkpcibdjhdoaaDoor.M
theorem frames_app (a b : List (List UInt8)) : frames (a ++ b) = frames a ++ frames b := by simp [frames]
theorem frames_mono (ls : List (List UInt8)) {a b : Nat} (h : a ≤ b) : (frames (ls.take a)).length ≤ (frames (ls.take b)).length := by
  have e : ls.take b = ls.take a ++ (ls.drop a).take (b - a) := by
    have := List.take_add (l := ls) (i := a) (j := b - a)
    rwa [show a + (b - a) = b by omega] at this
  rw [e, frames_app, List.length_append]; omega
/-- of frames that are cut short somewhere the whole ones stand at the front -/
theorem frames_cut : ∀ (ls : List (List UInt8)) (m : Nat), (∀ x ∈ ls, x.length ≤ 65535) → m ≤ (frames ls).length →
    ∃ t r, t ≤ ls.length ∧ (frames ls).take m = frames (ls.take t) ++ r ∧ (rdFrame r 0).2.2 ≠ 0 ∧ (t < ls.length → m < (frames (ls.take (t + 1))).length)
  | [], m, _, _ => ⟨0, [], by simp, by simp [frames], rdFrame_nil, by simp⟩
  | a :: ls, m, hl, hm => by
    by_cases h : m < (frame a).length
    · refine ⟨0, (frame a).take m, by simp, ?_, rdFrame_torn a (hl a (by simp)) m h, fun _ => ?_⟩
      · rw [frames_cons, List.take_append_of_le_length (by omega)]; simp [frames]
      · have : frames ((a :: ls).take (0 + 1)) = frame a := by simp [frames]
        rw [this]; exact h
    · obtain ⟨t, r, h1, h2, h3, h4⟩ := frames_cut ls (m - (frame a).length) (fun x hx => hl x (by simp [hx])) (by rw [frames_cons, List.length_append] at hm; omega)
      refine ⟨t + 1, r, by simp; omega, ?_, h3, fun ht => ?_⟩
      · rw [frames_cons, List.take_append, List.take_of_length_le (by omega), h2, List.take_succ_cons, frames_cons, List.append_assoc]
      · have := h4 (by simp at ht; omega)
        rw [List.take_succ_cons, frames_cons, List.length_append]
        omega
theorem scan_cut (ls : List (List UInt8)) (m : Nat) (hl : ∀ x ∈ ls, x.length ≤ 65535) (hm : m ≤ (frames ls).length) :
    ∃ t, t ≤ ls.length ∧ (scan ((frames ls).take m)).1 = ls.take t ∧ ∀ j, j ≤ ls.length → (frames (ls.take j)).length ≤ m → j ≤ t := by
  obtain ⟨t, r, h1, h2, h3, h4⟩ := frames_cut ls m hl hm
  refine ⟨t, h1, ?_, fun j hj hjm => ?_⟩
  · rw [h2, scan_frames (ls.take t) r (fun x hx => hl x (List.mem_of_mem_take hx)) h3]
  · rcases Nat.lt_or_ge t j with h | h
    · have := h4 (by omega)
      have := frames_mono ls (show t + 1 ≤ j by omega)
      omega
    · exact h
theorem frames_bound (ls : List (List UInt8)) (hl : ∀ x ∈ ls, x.length ≤ 65535) : (frames ls).length ≤ 65551 * ls.length := by
  induction ls with
  | nil => simp [frames]
  | cons a r ih =>
    have := ih (fun x hx => hl x (by simp [hx]))
    have h1 := hl a (by simp)
    have h2 := frame_len a
    have h3 := uv_len a.length
    rw [frames_cons, List.length_append, List.length_cons]
    omega
end Go.Proofs.YtjdkpcibdjhdoaaDoor.M
namespace Go.Proofs.YtjdkpcibdjhdoaaDoor
open Go.RowKit Mem FM
set_option linter.unusedVariables false

def wu (fs : List (File Unit)) (o fu : Nat) (off : Bool) : St := ⟨8388608, fs, o, fu, off⟩
/-- the log's file, if there is one; the one beside it -/
def lfO : Option (List UInt8 × Nat) → List (File Unit)
  | none => []
  | some (p, k) => [fg p k]
def fnO : Option (List UInt8 × Nat) → List (File Unit)
  | none => []
  | some (p, k) => [fn p k]
def datO (b : Option (List UInt8 × Nat)) : List UInt8 := (b.map Prod.fst).getD []
def surO (b : Option (List UInt8 × Nat)) : Nat := (b.map Prod.snd).getD 0

section
variable (b : Option (List UInt8 × Nat)) (q : List UInt8) (o fu n : Nat)
theorem q_app (h : (datO b).length + q.length ≤ 8000000) : appended (wu (lfO b) o fu false) nmLg q = (opErr fu, wu (lfO (some (datO b ++ q, surO b))) (o + 1) (fu - 1) (fu == 1)) := by
  unfold appended
  rw [show (wu (lfO b) o fu false).off = false from rfl, if_pos rG]
  unfold wrote
  cases b with
  | none => rw [if_neg (by show ¬ (8388608 - 0 < q.length); omega)]; rfl
  | some x =>
    obtain ⟨p, k⟩ := x
    rw [if_neg (by show ¬ (8388608 - (p.length + 0) < q.length); have : (datO (some (p, k))).length = p.length := rfl; omega)]
    rfl
theorem q_app_off (fs : List (File Unit)) : appended (wu fs o fu true) nmLg q = (10, wu fs o fu true) := by
  unfold appended
  rw [show ready1 nmLg (wu fs o fu true).off = 10 from (by decide : ready1 nmLg true = 10), if_neg (by decide)]
theorem q_sync (p : List UInt8) (k : Nat) : lsyncR (wu [fg p k] o fu false) nmLg n = if fu = 1 then (10, wu [fg p k] (o + 1) 0 true) else (0, wu [fg p p.length] (o + 1) (fu - 1) false) := by
  have h : synced (wu [fg p k] o fu false) nmLg = if fu = 1 then (10, wu [fg p k] (o + 1) 0 true) else (0, wu [fg p p.length] (o + 1) (fu - 1) false) := by
    unfold synced
    rw [show (wu [fg p k] o fu false).off = false from rfl, if_pos rG]
    unfold withSync
    have : find nmLg.data.toList (wu [fg p k] o fu false).files = some (fg p k) := rfl
    simp only [this]
    show (if fu = 1 then _ else _) = _
    by_cases h : fu = 1
    · subst h; rfl
    · rw [if_neg h, if_neg h]
      have hb : (fu == 1) = false := by simpa using h
      unfold St.op wu
      simp only [hb]
      rfl
  unfold lsyncR
  rw [h]
  by_cases h : fu = 1
  · rw [if_pos h, if_neg (by simp)]
  · rw [if_neg h, if_neg (by simp)]
theorem q_sync_none : lsyncR (wu [] o fu false) nmLg 0 = (0, wu [] o fu false) := by
  have h : synced (wu [] o fu false) nmLg = (8, wu [] o fu false) := by
    unfold synced
    rw [show (wu [] o fu false).off = false from rfl, if_pos rG]
    rfl
  unfold lsyncR
  rw [h, if_pos (by simp)]
theorem q_sync_off (fs : List (File Unit)) : lsyncR (wu fs o fu true) nmLg n = (10, wu fs o fu true) := by
  have h : synced (wu fs o fu true) nmLg = (10, wu fs o fu true) := by
    unfold synced
    rw [show ready1 nmLg (wu fs o fu true).off = 10 from (by decide : ready1 nmLg true = 10), if_neg (by decide)]
  unfold lsyncR
  rw [h, if_neg (by simp)]
theorem r_drop : droppedR (wu (lfO b) o fu false) nmLg = (0, wu (lfO b) o fu false) := by
  have h : removed (wu (lfO b) o fu false) nmLn = (8, wu (lfO b) o fu false) := by
    unfold removed
    rw [show (wu (lfO b) o fu false).off = false from rfl, if_pos rN]
    cases b <;> rfl
  unfold droppedR
  rw [nmN_lg, h, if_pos rfl]
theorem r_off (fs : List (File Unit)) : replacedR (wu fs o fu true) nmLg q = (10, wu fs o fu true) := by
  have h : removed (wu fs o fu true) nmLn = (10, wu fs o fu true) := by
    unfold removed
    rw [show ready1 nmLn (wu fs o fu true).off = 10 from (by decide : ready1 nmLn true = 10), if_neg (by decide)]
  have h2 : droppedR (wu fs o fu true) nmLg = (10, wu fs o fu true) := by
    unfold droppedR
    rw [nmN_lg, h, if_neg (by simp)]
  unfold replacedR
  rw [h2, if_pos (by simp)]
theorem r_put (h : (datO b).length + q.length ≤ 8000000) : putR (wu (lfO b) o fu false) nmLn q = (opErr fu, wu (lfO b ++ [fn q 0]) (o + 1) (fu - 1) (fu == 1)) := by
  unfold putR
  rw [show (wu (lfO b) o fu false).off = false from rfl, if_pos rN]
  unfold putNew
  have : find nmLn.data.toList (wu (lfO b) o fu false).files = none := by cases b <;> rfl
  simp only [this]
  unfold wrote
  cases b with
  | none => rw [if_neg (by show ¬ (8388608 - 0 < q.length); omega)]; rfl
  | some x =>
    obtain ⟨p, k⟩ := x
    rw [if_neg (by show ¬ (8388608 - (p.length + 0) < q.length); have : (datO (some (p, k))).length = p.length := rfl; omega)]
    rfl
theorem r_sync (j : Nat) : synced (wu (lfO b ++ [fn q j]) o fu false) nmLn = if fu = 1 then (10, wu (lfO b ++ [fn q j]) (o + 1) 0 true) else (0, wu (lfO b ++ [fn q q.length]) (o + 1) (fu - 1) false) := by
  unfold synced
  rw [show (wu (lfO b ++ [fn q j]) o fu false).off = false from rfl, if_pos rN]
  unfold withSync
  have : find nmLn.data.toList (wu (lfO b ++ [fn q j]) o fu false).files = some (fn q j) := by cases b <;> rfl
  simp only [this]
  show (if fu = 1 then _ else _) = _
  by_cases h : fu = 1
  · subst h; rfl
  · rw [if_neg h, if_neg h]
    have hb : (fu == 1) = false := by simpa using h
    unfold St.op wu
    simp only [hb]
    cases b <;> rfl
theorem r_ren : renamed (wu (lfO b ++ [fn q q.length]) o fu false) nmLn nmLg = if fu = 1 then (10, wu (lfO b ++ [fn q q.length]) (o + 1) 0 true) else (0, wu [fg q q.length] (o + 1) (fu - 1) false) := by
  unfold renamed
  rw [show (wu (lfO b ++ [fn q q.length]) o fu false).off = false from rfl, if_pos rNG]
  have : find nmLn.data.toList (wu (lfO b ++ [fn q q.length]) o fu false).files = some (fn q q.length) := by cases b <;> rfl
  simp only [this]
  rw [if_neg (by show ¬ q.length < q.length; omega)]
  unfold withRen
  simp only [this]
  show (if fu = 1 then _ else _) = _
  by_cases h : fu = 1
  · subst h; rfl
  · rw [if_neg h, if_neg h]
    have hb : (fu == 1) = false := by simpa using h
    unfold St.op wu
    simp only [hb]
    cases b <;> rfl
/-- a Set is done, or isn't -/
theorem r_rep (h : (datO b).length + q.length ≤ 8000000) :
    (replacedR (wu (lfO b) o fu false) nmLg q).2.ops ≤ o + 3 ∧
      ((∃ o' fu', replacedR (wu (lfO b) o fu false) nmLg q = (0, wu [fg q q.length] o' fu' false)) ∨
       ∃ c o' fu' off', replacedR (wu (lfO b) o fu false) nmLg q = (10, wu (lfO b ++ fnO c) o' fu' off')) := by
  unfold replacedR
  rw [r_drop, if_neg (by simp)]
  unfold repl2
  simp only
  rw [nmN_lg, r_put b q o fu h]
  by_cases h1 : fu = 1
  · subst h1
    rw [show opErr 1 = 10 from rfl, if_pos (by simp)]
    exact ⟨by show o + 1 ≤ o + 3; omega, .inr ⟨some (q, 0), _, _, _, rfl⟩⟩
  · have hb : (fu == 1) = false := by simpa using h1
    rw [show opErr fu = 0 by unfold opErr; rw [if_neg h1], if_neg (by simp), hb]
    unfold repl3
    simp only
    rw [nmN_lg, r_sync]
    by_cases h2 : fu - 1 = 1
    · rw [if_pos h2, if_pos (by simp)]
      exact ⟨by show o + 1 + 1 ≤ o + 3; omega, .inr ⟨some (q, 0), _, _, _, rfl⟩⟩
    · rw [if_neg h2, if_neg (by simp)]
      simp only
      rw [r_ren]
      by_cases h3 : fu - 1 - 1 = 1
      · rw [if_pos h3]
        exact ⟨by show o + 1 + 1 + 1 ≤ o + 3; omega, .inr ⟨some (q, q.length), _, _, _, rfl⟩⟩
      · rw [if_neg h3]
        exact ⟨by show o + 1 + 1 + 1 ≤ o + 3; omega, .inl ⟨_, _, rfl⟩⟩
theorem r_rep0 (h : (datO b).length + q.length ≤ 8000000) : (replacedR (wu (lfO b) o 0 false) nmLg q).1 = 0 := by
  unfold replacedR
  rw [r_drop, if_neg (by simp)]
  unfold repl2
  simp only
  rw [nmN_lg, r_put b q o 0 h, show opErr 0 = 0 from rfl, if_neg (by simp)]
  unfold repl3
  simp only
  rw [nmN_lg, show ((0 : Nat) == 1) = false from rfl, r_sync, if_neg (show ¬ (0 - 1 = 1) by omega), if_neg (by simp)]
  simp only
  rw [r_ren, if_neg (show ¬ (0 - 1 - 1 = 1) by omega)]
/-- behind a fall the log is opened -/
theorem q_open (c : Option (List UInt8 × Nat)) (h : (datO b).length ≤ 4000000) : (openedR (wu (lfO b ++ fnO c) o 0 false) nmLg).1 = 0 ∧ (readR (wu (lfO b ++ fnO c) o 0 false) nmLg).1 = datO b := by
  have hr : (readR (wu (lfO b ++ fnO c) o 0 false) nmLg).1 = datO b ∧ ((readR (wu (lfO b ++ fnO c) o 0 false) nmLg).2 = 0 ∨ (readR (wu (lfO b ++ fnO c) o 0 false) nmLg).2 = 8) := by
    unfold readR
    rw [show (wu (lfO b ++ fnO c) o 0 false).off = false from rfl, if_pos rG]
    rcases b with _ | ⟨p, k⟩ <;> rcases c with _ | ⟨p', k'⟩
    · exact ⟨rfl, .inr rfl⟩
    · exact ⟨rfl, .inr rfl⟩
    · exact ⟨rfl, .inl rfl⟩
    · exact ⟨rfl, .inl rfl⟩
  have hd : ∃ o', droppedR (wu (lfO b ++ fnO c) o 0 false) nmLg = (0, wu (lfO b) o' 0 false) := by
    rcases c with _ | ⟨p', k'⟩
    · refine ⟨o, ?_⟩
      rw [show lfO b ++ fnO none = lfO b by simp [fnO]]
      exact r_drop b o 0
    · refine ⟨o + 1, ?_⟩
      have h : removed (wu (lfO b ++ fnO (some (p', k'))) o 0 false) nmLn = (0, wu (lfO b) (o + 1) 0 false) := by
        unfold removed
        rw [show (wu (lfO b ++ fnO (some (p', k'))) o 0 false).off = false from rfl, if_pos rN]
        cases b <;> rfl
      unfold droppedR
      rw [nmN_lg, h, if_neg (by simp)]
  refine ⟨?_, hr.1⟩
  obtain ⟨o', hd⟩ := hd
  unfold openedR
  rw [hd, hr.1, if_neg (by have := hr.2; omega), if_neg (by simp)]
  split
  · exact r_rep0 b _ o' (by have := List.length_take (i := (M.scan (datO b)).2) (l := datO b); omega)
  · rfl
/-- what a fall leaves -/
theorem q_restart (c : Option (List UInt8 × Nat)) (off : Bool) (ks : List Int) (hk : surO b ≤ (datO b).length) :
    ∃ b' c' m, restarted (wu (lfO b ++ fnO c) o fu off) ks = wu (lfO b' ++ fnO c') o 0 false ∧ surO b ≤ m ∧ m ≤ (datO b).length ∧ datO b' = (datO b).take m := by
  rcases b with _ | ⟨p, k⟩
  · rcases c with _ | ⟨p', k'⟩
    · exact ⟨none, none, 0, rfl, by simp [surO], by simp, by simp [datO]⟩
    · exact ⟨none, some (p'.take (left p'.length k' (ks[0]?.getD 0)), left p'.length k' (ks[0]?.getD 0)), 0, rfl, by simp [surO], by simp, by simp [datO]⟩
  · have hl := left_le (n := p.length) (sure := k) (keep := ks[0]?.getD 0) hk
    rcases c with _ | ⟨p', k'⟩
    · exact ⟨some (p.take (left p.length k (ks[0]?.getD 0)), left p.length k (ks[0]?.getD 0)), none, left p.length k (ks[0]?.getD 0), rfl, hl.1, hl.2, rfl⟩
    · exact ⟨some (p.take (left p.length k (ks[0]?.getD 0)), left p.length k (ks[0]?.getD 0)), some (p'.take (left p'.length k' (ks[1]?.getD 0)), left p'.length k' (ks[1]?.getD 0)), left p.length k (ks[0]?.getD 0), rfl, hl.1, hl.2, rfl⟩
end
end Go.Proofs.YtjdkpcibdjhdoaaDoor
namespace Go.Proofs.YtjdkpcibdjhdoaaDoor
open Go.RowKit Mem FM
set_option linter.unusedVariables false
set_option maxRecDepth 100000

theorem RdL.at_ {w : World} {A : Option Addr} {n c i : Nat} {ls : List (List UInt8)} (h : RdL w A n c ls) (hi : i < ls.length) : ∃ g off A' n' c', A = some ⟨g, off, none⟩ ∧ w.cell? ⟨g, off + i, none⟩ = some (.slice A' n' c') ∧ Rd w w.heap.size A' n' c' ls[i] := h.2.2.2 i hi

set_option maxHeartbeats 2000000 in
theorem frames_prog (A : Option Addr) (n c : Nat) (ls : List (List UInt8)) (w : World) (h : RdL w A n c ls) (hl : ∀ x ∈ ls, x.length ≤ 65535) (hn : n ≤ 1000) :
    Calls Tryd.prog 101 #[.slice A n c] w (fun e w' => ∃ v, e = .returned (.tuple #[v, .int .i64 0]) ∧ Own w' w.heap.size 5 v (M.frames ls) ∧ Below w.heap.size w w') := by
  obtain ⟨i0, hi0, hz0, hz1, hz2⟩ := info_parts Tryd.info_byte
  have HI := Lib.hid hi0; have HZ0 := Lib.hid hz0; have HZ1 := Lib.hid hz1; have HZ2 := Lib.hid hz2
  clear hi0 hz0 hz1 hz2
  have H := Lib.hid h; have HN := Lib.hid h.1; have HL := Lib.hid hl
  have hc := h.2.1; have hcm := h.2.2.1
  have HO0 := Lib.hid (show Own w w.heap.size 5 (.slice none 0 0) (M.frames (ls.take 0)) by simpa [M.frames] using Own.nil w w.heap.size 5)
  have HB0 := Lib.hid (Below.refl w.heap.size w)
  clear h hl
  go_enter Tryd.func101, Tryd.ntmps101
  go_wp2
  go_loopw [4, 11] (fun o p wr => ∃ (i n4 c4 : Nat) (A4 : Option Addr), p = .int .i64 i ∧ o = .slice A4 n4 c4 ∧ i ≤ n ∧ Hid (Own wr w.heap.size 5 (.slice A4 n4 c4) (M.frames (ls.take i))) ∧ Hid (Below w.heap.size w wr)) (fun _ p _ => n - (intOf p).toNat)
  case atStart => exact ⟨0, 0, 0, none, rfl, rfl, Nat.zero_le _, HO0, HB0⟩
  case round =>
    obtain ⟨i, n4, c4, A4, rfl, rfl, hi, HO, HB⟩ := hrel
    rename World => wr
    by_cases hlt : i < n
    · have hix : i < ls.length := by have := HN.out; omega
      obtain ⟨g, off, A', n', c', rfl, q, hrd⟩ := (H.out.keep HB.out).at_ hix
      have hil : (i : Int) < (n : Int) := by omega
      have hxl := HL.out _ (List.getElem_mem hix)
      have hn' := hrd.len
      have hcap := hrd.cap; have hmax := hrd.max
      have HF := Lib.hid (frame_any A' n' c' wr.heap.size ls[i] wr hrd (Nat.le_refl _) (by omega))
      have hgl := World.block_lt_of_cell? wr _ q
      have HFT := Lib.hid (show M.frames (ls.take (i + 1)) = M.frames (ls.take i) ++ M.frame ls[i] by rw [List.take_succ_eq_append_getElem hix, M.frames_snoc])
      have HBD := Lib.hid (show (M.frames (ls.take i)).length + (M.frame ls[i]).length ≤ 100000000 by
        have h1 := M.frames_bound (ls.take (i + 1)) (fun x hx => HL.out x (List.mem_of_mem_take hx))
        rw [HFT.out, List.length_append, List.length_take] at h1
        have := HN.out
        omega)
      generalize ls[i] = x at *
      clear hrd hxl hn'
      go_wp2_with fail
      refine HF.out.mono ?_
      rintro e w2 ⟨v2, rfl, hO2, hb2⟩
      obtain ⟨A2, c2, rfl, hrd2⟩ := hO2.open_
      have HO4 := Lib.hid (HO.out.below hb2)
      have HRD2 := Lib.hid hrd2
      have HB2 := Lib.hid (HB.out.trans (hb2.mono HB.out.size))
      have hsz := HB2.out.size
      clear hO2 hb2 hrd2 HF
      go_wp2_with (at_builtin; go_must (refine wpList_app _ rfl (.tmp 23) (.tmp 24) _ rfl w.heap.size w2.heap.size _ i0 Tryd.underlying27 HI.out HZ0.out HZ1.out HZ2.out (.slice A4 n4 c4) (M.frames (ls.take i)) HO4.out rfl A2 (M.frame x).length c2 (M.frame x) HRD2.out rfl ?_ hsz ?_))
      · have := HBD.out; omega
      intro v5 w5 hO5 hg5 hat5
      obtain ⟨A5, c5, hv5, -⟩ := hO5.open_
      have HB5 := Lib.hid (HB2.out.trans (below_own HO4.out hsz hg5))
      have HO5 := Lib.hid (show Own w5 w.heap.size 5 v5 (M.frames (ls.take (i + 1))) by rw [HFT.out]; exact hO5)
      subst hv5
      clear hO5 hg5 hat5
      go_wp2
      go_roundw
      case rel => exact ⟨i + 1, _, c5, A5, by go_num, rfl, by omega, HO5, HB5⟩
      case measure => simp [intOf]; omega
    · have HE := Lib.hid (show ls.take i = ls by rw [List.take_of_length_le (by have := HN.out; omega)])
      go_wp2
      go_ret2
      have := HO.out
      rw [HE.out] at this
      exact ⟨_, rfl, this, HB.out⟩
end Go.Proofs.YtjdkpcibdjhdoaaDoor
namespace Go.Proofs.YtjdkpcibdjhdoaaDoor
open Go.RowKit Mem FM
set_option linter.unusedVariables false
set_option maxRecDepth 100000

/-- the records that are to be: the first ones of the log, and clones -/
def SetInv (w : World) (FL : Nat → Prop) (base : List (List UInt8)) (ms : List (List UInt8)) (i : Nat) (v : Value) (xs : List Rec) (wr : World) : Prop :=
  RecsAt wr (fun b => FL b ∨ w.heap.size ≤ b) v xs ∧ (∀ b, v.ownBlock = some b → w.heap.size ≤ b) ∧ recs xs = base ++ ms.take i ∧ Below w.heap.size w wr
def setLs (x : Int) (ls ns : List (List UInt8)) : List (List UInt8) := if x = 0 then ns else ls
theorem recs_v_one {w : World} {F : Nat → Prop} {v : Value} {rs : List Rec} (h : RecsAt w F v rs) : ∀ u ∈ rs.map Rec.v, u.oneCell' = true := by
  intro u hu
  obtain ⟨r, hr, rfl⟩ := List.mem_map.1 hu
  exact rec_one (h.2.2 r hr).1
theorem recs_rdv {w : World} {F : Nat → Prop} {A : Option Addr} {n c : Nat} {rs : List Rec} (h : RecsAt w F (.slice A n c) rs) : RdV w w.heap.size A n c (rs.map Rec.v) := by
  have : OwnV w 0 27 (.slice A n c) (rs.map Rec.v) := by
    unfold OwnV
    have := h.1
    rwa [← List.length_map (f := Rec.v)] at this
  exact this.rd

set_option maxHeartbeats 4000000 in
theorem set_any (D G k : Nat) (F FL : Nat → Prop) (s : St) (nm : ByteArray) (rs : List Rec) (A : Option Addr) (n c : Nat) (ms : List (List UInt8)) (w : World) (h : DiskAt w F D s) (hl : LogAt w FL G D nm rs) (hap : ∀ k, FL k → ¬ F k) (hn : nm.size ≤ 100) (hops : s.ops + 10 < 1099511627776)
    (hk : k ≤ rs.length) (hm : RdL w A n c ms) (hml : ∀ x ∈ ms, x.length ≤ 65535) (hb : rs.length + n ≤ 1000) :
    Calls Tryd.prog 92 #[.pointer (some ⟨G, 0, none⟩), .int .i64 (k : Int), .slice A n c] w (WalDid F FL D G (replacedR s nm (M.frames ((recs rs).take k ++ ms))).1 (replacedR s nm (M.frames ((recs rs).take k ++ ms))).2 nm (setLs (replacedR s nm (M.frames ((recs rs).take k ++ ms))).1 (recs rs) ((recs rs).take k ++ ms)) w) := by
  obtain ⟨i0, hi0, hz0, hz1, hz2⟩ := info_parts Tryd.infoR
  have HI := Lib.hid hi0; have HZ0 := Lib.hid hz0; have HZ1 := Lib.hid hz1; have HZ2 := Lib.hid hz2
  clear hi0 hz0 hz1 hz2
  obtain ⟨v, hlb, hG, hrec, hft⟩ := hl
  obtain ⟨Av, cv, rfl, hcv, hcvm⟩ := hrec.form
  have c2 := hlb.c2
  have HN := Lib.hid hm.1; have HM := Lib.hid hm; have HML := Lib.hid hml
  have hc := hm.2.1; have hcm := hm.2.2.1
  have HLB := Lib.hid hlb; have HGF := Lib.hid hG; have HREC := Lib.hid hrec; have HFT := Lib.hid hft; have HD := Lib.hid h; have HAP := Lib.hid hap
  have HDF := Lib.hid (show ∀ j, F j → j < w.heap.size from fun j hj => h.foot hj)
  have HSRC := Lib.hid ((recs_rdv hrec).upto hk)
  have HONE := Lib.hid (recs_v_one hrec)
  have HRPL := Lib.hid (fun (w5 : World) (A5 : Option Addr) (n5 c5 : Nat) (hd : DiskAt w5 F D s) (hl : LB w5 G D nm (.slice Av rs.length cv)) (hf : Firm F w5 A5 n5 c5 (M.frames ((recs rs).take k ++ ms))) => replace_any D G F s nm _ A5 n5 c5 (M.frames ((recs rs).take k ++ ms)) w5 hd hl (hap G hG) hn hops hf)
  generalize replacedR s nm (M.frames ((recs rs).take k ++ ms)) = rr at *
  obtain ⟨x, s'⟩ := rr
  simp only at HRPL ⊢
  obtain ⟨L, hL⟩ : ∃ L, rs.length = L := ⟨_, rfl⟩
  rw [hL] at hk hb hcv c2
  have HRL := Lib.hid hL
  clear h hm hml hlb hrec hft hap hG hL
  go_enter Tryd.func92, Tryd.ntmps92
  go_wp2_with (at_builtin; go_must (refine wpList_appV _ rfl (.tmp 26) (.tmp 32) _ rfl w.heap.size w.heap.size _ i0 _ 24 Tryd.underlying104 HI.out HZ0.out HZ1.out HZ2.out rfl (.slice none 0 0) [] (OwnV.nil _ _ _) rfl Av k cv ((rs.map Rec.v).take k) HSRC.out rfl (fun u hu => HONE.out u (List.mem_of_mem_take hu)) (by have := HRL.out; simp; omega) (by have := HRL.out; simp; omega) (Nat.le_refl _) ?_))
  intro v1 w1 hO1 hg1 hat1
  have hb1 : Below w.heap.size w w1 := (Below.refl _ w).grown hg1 (Nat.le_refl _) (fun k' hk' => by simp [Value.ownBlock] at hk')
  have hO1' : OwnV w1 w.heap.size 27 v1 ((rs.take k).map Rec.v) := by simpa [List.map_take] using hO1
  obtain ⟨A1, c1, hv1, -⟩ := hO1'.form
  have hlk : ((rs.take k).map Rec.v).length = k := by have := HRL.out; simp; omega
  rw [hlk] at hv1
  have HS0 := Lib.hid (show SetInv w FL ((recs rs).take k) ms 0 v1 (rs.take k) w1 by
    refine ⟨⟨?_, fun b hb => .inr (hO1'.lt b hb).1, fun r hr => ?_⟩, fun b hb => (hO1'.lt b hb).1, by simp [recs, List.map_take], hb1⟩
    · have := ownsRow_base_a hO1' (base' := 0) (Nat.zero_le _)
      rwa [List.length_map] at this
    · have h0 := HREC.out.2.2 r (List.mem_of_mem_take hr)
      exact ⟨h0.1.below hb1, fun b hb => .inl (h0.2.1 b hb), h0.2.2⟩)
  have HXK := Lib.hid (show (rs.take k).length = k by simpa using hlk)
  subst hv1
  clear hO1 hO1' hg1 hat1 hlk
  have HB1 := Lib.hid hb1
  clear hb1
  go_wp2
  go_loopw [7, 36] (fun o p wr => ∃ (i m c9 : Nat) (A9 : Option Addr) (xs : List Rec), p = .int .i64 i ∧ o = .slice A9 m c9 ∧ i ≤ n ∧ m ≤ 1000 ∧ Hid (m = k + i) ∧ Hid (xs.length = m) ∧ Hid (SetInv w FL ((recs rs).take k) ms i (.slice A9 m c9) xs wr)) (fun _ p _ => n - (intOf p).toNat)
  case atStart => exact ⟨0, k, c1, A1, rs.take k, rfl, rfl, Nat.zero_le _, by omega, Lib.hid rfl, HXK, HS0⟩
  case round =>
    obtain ⟨i, m, c9, A9, xs, rfl, rfl, hi, hmb, HMI, HXL, HV⟩ := hrel
    rename World => wr
    obtain ⟨hr9, hv9, he9, hb9⟩ := HV.out
    have HR9 := Lib.hid hr9; have HV9 := Lib.hid hv9; have HE9 := Lib.hid he9; have HB9 := Lib.hid hb9
    clear hr9 hv9 he9 hb9
    by_cases hlt : i < n
    · have hix : i < ms.length := by have := HN.out; omega
      obtain ⟨g, off, A', n', c', rfl, q, hrd⟩ := (HM.out.keep HB9.out).at_ hix
      have hil : (i : Int) < (n : Int) := by omega
      have hxl := HML.out _ (List.getElem_mem hix)
      have hn' := hrd.len
      have hcap := hrd.cap; have hmax := hrd.max
      have HCL := Lib.hid (clone_at wr.heap.size A' n' c' ms[i] wr hrd (Nat.le_refl _) (by omega))
      have HTK := Lib.hid (show ms.take (i + 1) = ms.take i ++ [ms[i]] from List.take_succ_eq_append_getElem hix)
      have HXM := Lib.hid (show ms[i].length ≤ 65535 from hxl)
      generalize ms[i] = x9 at *
      clear hrd hxl hn'
      go_wp2_with fail
      refine HCL.out.mono ?_
      rintro e w2 ⟨v2, rfl, hO2, hb2⟩
      obtain ⟨A2, c2, hv2, -⟩ := hO2.open_
      obtain ⟨n2, hn2⟩ : ∃ n2, x9.length = n2 := ⟨_, rfl⟩
      rw [hn2] at hv2
      subst hv2
      clear hn2
      have hR2 := HR9.out.below hb2
      have HRM := Lib.hid (show w2.ownsRow 0 27 1 (.slice A9 m c9) m (xs.map Rec.v) by have := hR2.1; rwa [HXL.out] at this)
      have HR2 := Lib.hid hR2; have HO2 := Lib.hid hO2; have HB2 := Lib.hid (HB9.out.trans (hb2.mono HB9.out.size))
      have hs2 := HB2.out.size
      have hsr := HB9.out.size
      clear hR2 hO2 hb2 HCL
      go_wp2_with (at_builtin; go_must (refine wpList_append_lies _ rfl (.tmp 40) (.tmp 43) _ rfl 0 27 i0 _ 1 24 Tryd.underlying104 HI.out HZ0.out HZ1.out HZ2.out rfl (by omega) (.slice A9 m c9) m _ rfl (HRM.out.alloc _) ⟨w2.heap.size, 0, none⟩ 1 1 [.slice A2 n2 c2] rfl rfl (World.news_of_block (cs := #[.slice A2 n2 c2]) (t := 27) (fr := (0, 0)) (heap_alloc_new w2 _)) (by simp [Value.oneCell']) (by omega) (by simp only [maxLen]; omega) (by omega) (Nat.zero_le _) (w2.heap.size + 1) (by simp) ?_))
      intro g9 cap9 w9 hown9 hgrow9 hat9 hlt9
      have HX9 := Lib.hid (show (xs ++ [(⟨.slice A2 n2 c2, x9⟩ : Rec)]).length = m + 1 by rw [List.length_append, HXL.out]; rfl)
      have hgg : w.heap.size ≤ g9 := by
        rcases hat9 with h | h
        · exact HV9.out g9 h
        · omega
      have HV2 := Lib.hid (show SetInv w FL ((recs rs).take k) ms (i + 1) (.slice (some ⟨g9, 0, none⟩) (m + 1) cap9) (xs ++ [⟨.slice A2 n2 c2, x9⟩]) w9 by
        have hm2 := HXL.out
        have hgr := HR2.out.grow (r := ⟨.slice A2 n2 c2, x9⟩) (gg := g9) (cap := cap9) (HO2.out.less (Nat.zero_le _)) HXM.out (fun b hb => .inr (Nat.le_trans hsr (HO2.out.lt b hb).1)) (.inr (.inr hgg)) (by rw [hm2]; exact hown9) hgrow9
        rw [hm2] at hgr
        refine ⟨hgr, fun b hb => ?_, ?_, ?_⟩
        · injection hb with hb
          have hb : g9 = b := hb
          omega
        · rw [show recs (xs ++ [(⟨.slice A2 n2 c2, x9⟩ : Rec)]) = recs xs ++ [x9] by simp [recs], HE9.out, HTK.out, List.append_assoc]
        · exact (HB2.out.alloc hs2 _).grown hgrow9 (by simp; omega) (fun b hb => HV9.out b hb))
      clear hown9 hgrow9 hat9 hgg
      go_wp2
      go_roundw
      case rel => exact ⟨i + 1, m + 1, cap9, _, _, by go_num, rfl, by omega, by have := HMI.out; omega, Lib.hid (by have := HMI.out; omega), HX9, HV2⟩
      case measure => simp [intOf]; omega
    · have HALL := Lib.hid (show recs xs = (recs rs).take k ++ ms by rw [HE9.out, show ms.take i = ms from List.take_of_length_le (by have := HN.out; omega)])
      have hrl := HR9.out.rdl
      rw [HALL.out] at hrl
      have HFR := Lib.hid (frames_prog A9 m c9 _ wr hrl (fun y hy => by
        rcases List.mem_append.1 hy with hy | hy
        · obtain ⟨r, hr, rfl⟩ := List.mem_map.1 (List.mem_of_mem_take hy)
          exact (HREC.out.2.2 r hr).2.2
        · exact HML.out y hy) (by omega))
      have HPP := Lib.hid (show ∀ p, p = M.frames ((recs rs).take k ++ ms) → True from fun _ _ => trivial)
      clear hrl
      go_wp2_with fail
      refine HFR.out.mono ?_
      rintro e w5 ⟨v5, rfl, hO5, hb5⟩
      obtain ⟨A5, c5, hv5, -⟩ := hO5.open_
      subst hv5
      have HB5 := Lib.hid (HB9.out.trans (hb5.mono HB9.out.size))
      have hfm : Firm F w5 A5 (M.frames ((recs rs).take k ++ ms)).length c5 (M.frames ((recs rs).take k ++ ms)) := by
        have := own_firm (F := F) (k := (M.frames ((recs rs).take k ++ ms)).length) hO5 (fun j hj hf => by have := (hO5.lt j hj).1; have := HDF.out j hf; have := HB9.out.size; omega) (Nat.le_refl _)
        rwa [List.take_length] at this
      have HLB5 := Lib.hid (show LB w5 G D nm (.slice Av rs.length cv) from (HB5.out.block G HLB.out.lt).trans HLB.out)
      have HRP := Lib.hid (HRPL.out w5 A5 _ c5 (HD.out.below HB5.out) HLB5.out hfm)
      have HR5 := Lib.hid (HR9.out.below hb5)
      obtain ⟨P, hP⟩ : ∃ P, (M.frames ((recs rs).take k ++ ms)).length = P := ⟨_, rfl⟩
      rw [hP] at HRP ⊢
      clear hO5 hb5 hfm HFR HRPL hP
      go_wp2_with fail
      refine HRP.out.mono ?_
      rintro e w6 ⟨rfl, F6, hd6, ht6, hs6⟩
      have HT6 := Lib.hid ht6
      have hnG : ¬ F G := HAP.out G HGF.out
      have HLB6 := Lib.hid (HLB5.out.turned ht6 hnG)
      have HR6 := Lib.hid (HR5.out.turned ht6 (fun b hb hf => by
        rcases hb with hb | hb
        · exact HAP.out b hb hf
        · have := HDF.out b hf; omega))
      have f2 := HLB6.out.f2
      have e2 := HLB6.out.c2
      have h05 := HB5.out.size
      have h56 := ht6.size
      have HD6 := Lib.hid hd6; have HS6 := Lib.hid hs6
      have HTW := Lib.hid (show Turned (fun k => F k ∨ FL k) w w6 from (Turned.of_below HB5.out).trans (ht6.more (fun _ _ h => .inl h)))
      have HS06 := Lib.hid (show Spread F F6 w from fun b hb => (hs6 b hb).imp id (fun h => Nat.le_trans h05 h))
      clear ht6 hs6 hd6 HRP
      by_cases hx : x = 0
      · subst hx
        have hns : ∀ b, (FL b ∨ (w.heap.size ≤ b ∧ b < w5.heap.size)) → ¬ F6 b := fun b hb hf => by
          rcases HS6.out b hf with h | h
          · rcases hb with hb | hb
            · exact HAP.out b hb h
            · have := HDF.out b h; omega
          · rcases hb with hb | hb
            · have := HFT.out b hb; omega
            · omega
        have HNS := Lib.hid hns
        have ht7 : Turned (· = G) w6 (w6.setCell ⟨G, 2, none⟩ (.slice A9 m c9)) := Turned.setCell (F := (· = G)) (p := ⟨G, 2, none⟩) (Turned.refl _ w6) (.inl rfl) _
        have HRB := Lib.hid (show RecsAt w6 (fun b => FL b ∨ (w.heap.size ≤ b ∧ b < w5.heap.size)) (.slice A9 m c9) xs from
          ⟨HR6.out.1, fun b hb => (HR5.out.2.1 b hb).imp id (fun h => ⟨h, (HR5.out.1.lt b hb).2⟩), fun r hr => ⟨(HR6.out.2.2 r hr).1, fun b hb => ((HR5.out.2.2 r hr).2.1 b hb).imp id (fun h => ⟨h, ((HR5.out.2.2 r hr).1.lt b hb).2⟩), (HR6.out.2.2 r hr).2.2⟩⟩)
        have HT7 := Lib.hid ht7
        clear hns ht7
        go_wp2
        go_ret
        have hGx : ∀ b, (∃ cur t, w6.heap[b]? = some (.cells cur t (0, 0)) ∧ t ≠ 106) → b ≠ G := by
          rintro b ⟨cur, t, hh, ht⟩ rfl
          have := hh.symm.trans HLB6.out
          injection this with this
          injection this with _ this _
          exact ht this
        refine ⟨rfl, F6, fun b => FL b ∨ (w.heap.size ≤ b ∧ b < w5.heap.size), xs, HD6.out.far HT7.out (fun b hb e => by subst e; exact HNS.out _ (.inl HGF.out) hb), ⟨.slice A9 m c9, HLB6.out.s2 _, .inl HGF.out, ?_, fun b hb => ?_⟩, ?_, HNS.out, HTW.out.trans (HT7.out.more (fun b _ e => by subst e; exact .inr HGF.out)), HS06.out, fun b hb => hb.imp id (fun h => h.1)⟩
        · refine ⟨row_turned HRB.out.1 HT7.out (fun b hb => ?_), HRB.out.2.1, fun r hr => ⟨(HRB.out.2.2 r hr).1.turned HT7.out (fun b hb => ?_), (HRB.out.2.2 r hr).2⟩⟩
          · obtain ⟨cur, hh⟩ := row_block HRB.out.1 hb
            exact hGx b ⟨cur, _, hh, by decide⟩
          · obtain ⟨cur, hh⟩ := own_heap (HRB.out.2.2 r hr).1 hb
            exact hGx b ⟨cur, _, hh, by decide⟩
        · have : b < w6.heap.size := by
            rcases hb with hb | hb
            · have := HFT.out b hb; omega
            · omega
          simpa [World.setCell] using this
        · rw [HALL.out]; rfl
      · have hq : (x == 0) = false := by simpa using hx
        have HLS := Lib.hid (show setLs x (recs rs) ((recs rs).take k ++ ms) = recs rs by unfold setLs; rw [if_neg hx])
        have HLG := Lib.hid (show LogAt w6 FL G D nm rs from ⟨.slice Av rs.length cv, HLB6.out, HGF.out, (HREC.out.below HB5.out).turned HT6.out HAP.out, fun b hb => by have := HFT.out b hb; omega⟩)
        go_wp2
        go_ret
        refine ⟨rfl, F6, FL, rs, HD6.out, HLG.out, HLS.out.symm, fun b hb hf => ?_, HTW.out, HS06.out, Spread.refl _ _⟩
        rcases HS6.out b hf with h | h
        · exact HAP.out b hb h
        · have := HFT.out b hb; omega
end Go.Proofs.YtjdkpcibdjhdoaaDoor
namespace Go.Proofs.YtjdkpcibdjhdoaaDoor
open Go.RowKit Mem FM
set_option linter.unusedVariables false
set_option maxRecDepth 100000

theorem Tryd.aIntCells : Tryd.prog.cellsOf 3 = 1 := by kernel_rfl
theorem Tryd.aByteCells : Tryd.prog.cellsOf 5 = 1 := by kernel_rfl
theorem Tryd.aByteBytes : Tryd.prog.bytesOf 5 = 1 := by kernel_rfl
theorem Tryd.aRowCells : Tryd.prog.cellsOf 27 = 1 := by kernel_rfl
theorem Tryd.aRowCells' : 0 < Tryd.prog.cellsOf 27 := by rw [Tryd.aRowCells]; omega
theorem Tryd.aRowBytes : Tryd.prog.bytesOf 27 = 24 := by kernel_rfl

/-- a text that is an argument's: where it lies, its bytes -/
structure Row where
  A : Option Addr
  n : Nat
  c : Nat
  l : List UInt8
instance : Inhabited Row := ⟨⟨none, 0, 0, []⟩⟩
def Row.v (r : Row) : Value := .slice r.A r.n r.c
def Row.ok (w : World) (B : Nat) (r : Row) : Prop := Rd w B r.A r.n r.c r.l
def texts (rs : List Row) : List (List UInt8) := rs.map Row.l
def RdRows (w : World) (B : Nat) (A : Option Addr) (n c : Nat) (rs : List Row) : Prop :=
  n = rs.length ∧ n ≤ c ∧ c ≤ 140737488355328 ∧ (∀ r ∈ rs, r.ok w B) ∧ (0 < n → ∃ b off, A = some ⟨b, off, none⟩ ∧ b < B ∧ ∀ i (hi : i < rs.length), w.cell? ⟨b, off + i, none⟩ = some rs[i].v)

section
variable {H : Type} {enc : TypeId × Value → H} {w : World} {base fuel : Nat} {held : Bool}
theorem open_rows {r : Reach} {b0 : Nat} {v : Value} {d : DataW H} {p : List MemPlace} (hv : Value.okWide Tryd.prog w r b0 104 v) (h : DataW.Trod enc Tryd.prog w base (fun _ => true) held 104 v d p) (hw : Light Tryd.prog 104 d) :
    ∃ A n c xs, v = .slice A n c ∧ RdRows w w.heap.size A n c xs := by
  obtain ⟨A0, n0, c0, rfl⟩ := Go.WideShapes.okWide_slice Tryd.underlying104 hv
  obtain ⟨fuel, hf⟩ := h
  obtain ⟨A, n, c, hcs, hl, hm, hcb, hel⟩ := open_elems Tryd.underlying104 Tryd.aRowCells' (v := .slice A0 n0 c0) (by simpa [Value.cells] using hf) hw
  injection hcs with e1 e2 e3
  subst e1 e2 e3
  have hm' : c0 ≤ 140737488355328 := by
    rw [Tryd.aRowBytes] at hcb
    simp only [reachBytes] at hcb
    omega
  rcases Nat.eq_zero_or_pos n0 with h0 | h0
  · subst h0
    exact ⟨A0, 0, c0, [], rfl, rfl, hl, hm', by simp, fun h => absurd h (by omega)⟩
  · obtain ⟨b, off, rfl, hb, m, hi⟩ := hel h0
    have each : ∀ i, i < n0 → ∃ x : Row, x.ok w w.heap.size ∧ w.cell? ⟨b, off + i, none⟩ = some x.v := fun i hin => by
      obtain ⟨cs, y, hlen, hat, htr, hlt⟩ := hi i hin
      rw [Tryd.aRowCells] at hlen hat
      match cs, hlen with
      | [u], _ =>
        obtain ⟨A, n, c, l, rfl, hr, hc⟩ := open_bytes Tryd.underlying27 Tryd.underlying5 Tryd.aByteCells Tryd.aByteBytes htr hlt
        have := hat 0 (by omega)
        rw [Nat.mul_one, Nat.add_zero] at this
        exact ⟨⟨A, n, c, l⟩, hr, this⟩
    obtain ⟨f, hfx⟩ := Go.Deep.choose_lt each
    refine ⟨_, n0, c0, (List.range n0).map f, rfl, by simp, hl, hm', fun x hx => ?_, fun _ => ⟨b, off, rfl, hb, fun i hi => ?_⟩⟩
    · obtain ⟨i, hi, rfl⟩ := List.mem_map.1 hx
      exact (hfx i (List.mem_range.1 hi)).1
    · have hin : i < n0 := by simpa using hi
      have e : ((List.range n0).map f)[i] = f i := by simp
      rw [e]
      exact (hfx i hin).2
end

section
variable {w w' : World} {B n c : Nat} {A : Option Addr} {rs : List Row}
theorem Row.ok.below {r : Row} (h : r.ok w B) (hb : Below B w w') : r.ok w' B := Rd.below h hb
theorem RdRows.below (h : RdRows w B A n c rs) (hb : Below B w w') : RdRows w' B A n c rs := by
  obtain ⟨h1, h2, h3, h4, h5⟩ := h
  refine ⟨h1, h2, h3, fun x hx => (h4 x hx).below hb, fun hn => ?_⟩
  obtain ⟨b, off, e, hb1, hc⟩ := h5 hn
  exact ⟨b, off, e, hb1, fun i hi => (hb.cell (p := ⟨b, off + i, none⟩) hb1).trans (hc i hi)⟩
theorem RdRows.rdv (h : RdRows w B A n c rs) : RdV w B A n c (rs.map Row.v) := by
  obtain ⟨h1, h2, h3, h4, h5⟩ := h
  refine ⟨by simpa using h1, h2, by simp only [maxLen]; omega, fun hn => ?_⟩
  obtain ⟨b, off, e, hb1, hc⟩ := h5 hn
  refine ⟨b, off, e, hb1, fun j hj => ?_⟩
  have hj' : j < rs.length := by omega
  rw [hc j hj', List.getElem?_map, List.getElem?_eq_getElem hj']
  rfl
theorem RdRows.rdl (h : RdRows w B A n c rs) (hB : B ≤ w.heap.size) : RdL w A n c (texts rs) := by
  obtain ⟨h1, h2, h3, h4, h5⟩ := h
  refine ⟨by simpa [texts] using h1, h2, by omega, fun i hi => ?_⟩
  have hi' : i < rs.length := by simpa [texts] using hi
  obtain ⟨b, off, e, hb1, hc⟩ := h5 (by omega)
  have e2 : (texts rs)[i] = rs[i].l := by simp [texts]
  rw [e2]
  exact ⟨b, off, _, _, _, e, hc i hi', Rd.more (h4 _ (List.getElem_mem hi')) hB⟩
/-- a list of an argument's texts, in memory of its own -/
theorem rows_rdl {base : Nat} {e : TypeId} (h : OwnV w base e (.slice A n c) (rs.map Row.v)) (hr : ∀ r ∈ rs, r.ok w w.heap.size) : RdL w A n c (texts rs) := by
  have hd := h.rd
  refine ⟨by have := hd.1; simpa [texts] using this, hd.2.1, hd.max, fun i hi => ?_⟩
  have hi' : i < rs.length := by simpa [texts] using hi
  have hn : i < n := by have := hd.1; simp at this; omega
  obtain ⟨b, off, rfl, hb, q⟩ := hd.at_ hn
  have e2 : (texts rs)[i] = rs[i].l := by simp [texts]
  rw [e2]
  rw [List.getElem?_map, List.getElem?_eq_getElem hi'] at q
  exact ⟨b, off, _, _, _, rfl, q, hr _ (List.getElem_mem hi')⟩
theorem rows_one (rs : List Row) : ∀ u ∈ rs.map Row.v, u.oneCell' = true := by
  intro u hu
  obtain ⟨r, _, rfl⟩ := List.mem_map.1 hu
  rfl
end

/-- a log on a disk, and two lists of arguments' texts beside them -/
def CrF (F FL : Nat → Prop) (rs : List Rec) (w : World) (D G : Nat) (s : St) (v : Value) (xs : List Row) (v2 : Value) (ys : List Row) (wr : World) : Prop :=
  DiskAt wr F D s ∧ LogAt wr FL G D nmLg rs ∧ (∀ k, FL k → ¬ F k) ∧ (∀ k, F k → w.heap.size ≤ k) ∧ (∀ k, FL k → w.heap.size ≤ k) ∧ Below w.heap.size w wr ∧ OwnV wr w.heap.size 27 v (xs.map Row.v) ∧ OwnV wr w.heap.size 27 v2 (ys.map Row.v) ∧
  (∀ k, v.ownBlock = some k → ¬ F k ∧ ¬ FL k) ∧ (∀ k, v2.ownBlock = some k → ¬ F k ∧ ¬ FL k) ∧ ∀ k, v.ownBlock = some k → v2.ownBlock ≠ some k
def Cr (w : World) (D G : Nat) (s : St) (ls : List (List UInt8)) (v : Value) (xs : List Row) (v2 : Value) (ys : List Row) (wr : World) : Prop := ∃ F FL rs, recs rs = ls ∧ CrF F FL rs w D G s v xs v2 ys wr

section
variable {w wr w' : World} {F FL : Nat → Prop} {rs : List Rec} {D G : Nat} {s : St} {v v2 : Value} {xs ys : List Row}
theorem ownV_turned {P : Nat → Prop} {base : Nat} {e : TypeId} {v : Value} {us : List Value} (h : OwnV wr base e v us) (ht : Turned P wr w') (hn : ∀ k, v.ownBlock = some k → ¬ P k) : OwnV w' base e v us := row_turned h ht hn
/-- behind a call of the log or the disk -/
theorem CrF.turn (h : CrF F FL rs w D G s v xs v2 ys wr) {F' FL' : Nat → Prop} {rs' : List Rec} {G' : Nat} {s' : St} (hd : DiskAt w' F' D s') (hl : LogAt w' FL' G' D nmLg rs') (hap : ∀ k, FL' k → ¬ F' k) (ht : Turned (fun k => F k ∨ FL k) wr w') (hs : Spread F F' wr) (hsl : Spread FL FL' wr) :
    CrF F' FL' rs' w D G' s' v xs v2 ys w' := by
  obtain ⟨h1, h2, h3, h4, h5, h6, h7, h8, h9, h10, h11⟩ := h
  have hw := h6.size
  refine ⟨hd, hl, hap, fun k hk => (hs k hk).elim (h4 k) (fun h => by omega), fun k hk => (hsl k hk).elim (h5 k) (fun h => by omega), h6.trans (ht.below hw (fun k hk => hk.elim (h4 k) (h5 k))), ownV_turned h7 ht (fun k hk h => h.elim (h9 k hk).1 (h9 k hk).2), ownV_turned h8 ht (fun k hk h => h.elim (h10 k hk).1 (h10 k hk).2), fun k hk => ⟨fun hf => ?_, fun hf => ?_⟩, fun k hk => ⟨fun hf => ?_, fun hf => ?_⟩, h11⟩
  · exact (hs k hf).elim (h9 k hk).1 (fun h => by have := (h7.lt k hk).2; omega)
  · exact (hsl k hf).elim (h9 k hk).2 (fun h => by have := (h7.lt k hk).2; omega)
  · exact (hs k hf).elim (h10 k hk).1 (fun h => by have := (h8.lt k hk).2; omega)
  · exact (hsl k hf).elim (h10 k hk).2 (fun h => by have := (h8.lt k hk).2; omega)
theorem CrF.did (h : CrF F FL rs w D G s v xs v2 ys wr) {x : Int} {s' : St} {ls : List (List UInt8)} {e : Ending} (hd : WalDid F FL D G x s' nmLg ls wr e w') : e = .returned (.int .i64 x) ∧ Cr w D G s' ls v xs v2 ys w' := by
  obtain ⟨h1, F', FL', rs', h2, h3, h4, h5, h6, h7, h8⟩ := hd
  exact ⟨h1, F', FL', rs', h4, h.turn h2 h3 h5 h6 h7 h8⟩
theorem CrF.disk (h : CrF F FL rs w D G s v xs v2 ys wr) {x : Int} {s' : St} {e : Ending} (hd : Did F D x s' wr e w') : e = .returned (.int .i64 x) ∧ Cr w D G s' (recs rs) v xs v2 ys w' := by
  obtain ⟨h1, F', h2, h3, h4⟩ := hd
  refine ⟨h1, F', FL, rs, rfl, h.turn h2 (h.2.1.turned h3 h.2.2.1) (fun k hk hf => ?_) (h3.more (fun _ _ h => .inl h)) h4 (Spread.refl _ _)⟩
  exact (h4 k hf).elim (h.2.2.1 k hk) (fun h0 => by have := h.2.1.foot hk; omega)
theorem CrF.opened (h : CrF F FL rs w D G s v xs v2 ys wr) {s' : St} {ls : List (List UInt8)} {e : Ending} (hd : Opened F D s' nmLg ls wr e w') : ∃ G', e = .returned (.tuple #[.pointer (some ⟨G', 0, none⟩), .int .i64 0]) ∧ Cr w D G' s' ls v xs v2 ys w' := by
  obtain ⟨G', FL', rs', F', h1, h2, h3, h4, h5, h6, h7, h8⟩ := hd
  exact ⟨G', h1, F', FL', rs', h3, h.turn h4 h2 h6 (h7.more (fun _ _ h => .inl h)) h8 (fun k hk => .inr (h5 k hk))⟩
theorem CrF.below (h : CrF F FL rs w D G s v xs v2 ys wr) (hb : Below wr.heap.size wr w') : CrF F FL rs w D G s v xs v2 ys w' :=
  h.turn (h.1.below hb) (h.2.1.below hb) h.2.2.1 (Turned.of_below hb) (Spread.refl _ _) (Spread.refl _ _)
/-- the first list has grown -/
theorem CrF.push (h : CrF F FL rs w D G s v xs v2 ys wr) {o : Obj} {v9 : Value} {zs : List Row} (hO : OwnV w' w.heap.size 27 v9 (xs.map Row.v ++ zs.map Row.v)) (hg : (wr.alloc o).grownBy w' v.ownBlock) (hat : v9.ownBlock = v.ownBlock ∨ v9.ownBlock = some (wr.heap.size + 1)) :
    CrF F FL rs w D G s v9 (xs ++ zs) v2 ys w' := by
  obtain ⟨h1, h2, h3, h4, h5, h6, h7, h8, h9, h10, h11⟩ := h
  have hT : Turned (fun k => v.ownBlock = some k) wr w' := ((Turned.refl _ wr).alloc o).grown hg (fun k hk => .inl hk)
  have hnew : ∀ k, v9.ownBlock = some k → v.ownBlock = some k ∨ wr.heap.size ≤ k := fun k hk => by
    rcases hat with h | h
    · exact .inl (h ▸ hk)
    · right; rw [h] at hk; injection hk with hk; omega
  refine ⟨h1.far hT (fun k hk hv => (h9 k hv).1 hk), h2.turned hT (fun k hk hv => (h9 k hv).2 hk), h3, h4, h5, h6.trans (hT.below h6.size (fun k hk => (h7.lt k hk).1)), by rw [List.map_append]; exact hO, ownV_turned h8 hT (fun k hk hv => h11 k hv hk), fun k hk => ?_, h10, fun k hk hv => ?_⟩
  · rcases hnew k hk with h | h
    · exact h9 k h
    · exact ⟨fun hf => by have := h1.foot hf; omega, fun hf => by have := h2.foot hf; omega⟩
  · rcases hnew k hk with h | h
    · exact h11 k h hv
    · have := (h8.lt k hv).2; omega
/-- the second list has grown -/
theorem CrF.push2 (h : CrF F FL rs w D G s v xs v2 ys wr) {v9 : Value} {zs : List Row} (hO : OwnV w' w.heap.size 27 v9 (ys.map Row.v ++ zs.map Row.v)) (hg : wr.grownBy w' v2.ownBlock) (hat : v9.ownBlock = v2.ownBlock ∨ v9.ownBlock = some wr.heap.size) :
    CrF F FL rs w D G s v xs v9 (ys ++ zs) w' := by
  obtain ⟨h1, h2, h3, h4, h5, h6, h7, h8, h9, h10, h11⟩ := h
  have hT : Turned (fun k => v2.ownBlock = some k) wr w' := (Turned.refl _ wr).grown hg (fun k hk => .inl hk)
  have hnew : ∀ k, v9.ownBlock = some k → v2.ownBlock = some k ∨ wr.heap.size ≤ k := fun k hk => by
    rcases hat with h | h
    · exact .inl (h ▸ hk)
    · right; rw [h] at hk; injection hk with hk; omega
  refine ⟨h1.far hT (fun k hk hv => (h10 k hv).1 hk), h2.turned hT (fun k hk hv => (h10 k hv).2 hk), h3, h4, h5, h6.trans (hT.below h6.size (fun k hk => (h8.lt k hk).1)), ownV_turned h7 hT (fun k hk hv => h11 k hk hv), by rw [List.map_append]; exact hO, h9, fun k hk => ?_, fun k hk hv => ?_⟩
  · rcases hnew k hk with h | h
    · exact h10 k h
    · exact ⟨fun hf => by have := h1.foot hf; omega, fun hf => by have := h2.foot hf; omega⟩
  · rcases hnew k hv with h | h
    · exact h11 k hk h
    · have := (h7.lt k hk).2; omega
end
end Go.Proofs.YtjdkpcibdjhdoaaDoor
namespace Go.Proofs.YtjdkpcibdjhdoaaDoor
open Go.RowKit Mem FM
set_option linter.unusedVariables false

/-- the log's file ahead of the first Sync, the records ls being in it -/
def bA (ls : List (List UInt8)) : Option (List UInt8 × Nat) := match ls with
  | [] => none
  | x :: r => some (M.frames (x :: r), 0)
theorem bA_dat (ls : List (List UInt8)) : datO (bA ls) = M.frames ls := by cases ls <;> rfl
theorem bA_sur (ls : List (List UInt8)) : surO (bA ls) = 0 := by cases ls <;> rfl
theorem bA_snoc (ls : List (List UInt8)) (x : List UInt8) : bA (ls ++ [x]) = some (M.frames ls ++ M.frame x, 0) := by
  cases ls with
  | nil => simp [bA, M.frames]
  | cons a r =>
    show some (M.frames (a :: r ++ [x]), 0) = _
    rw [M.frames_snoc]
theorem u_app (ls : List (List UInt8)) (x : List UInt8) (o : Nat) (h : (M.frames ls).length + (M.frame x).length ≤ 8000000) : lappR (wu (lfO (bA ls)) o 0 false) nmLg x = (0, wu (lfO (bA (ls ++ [x]))) (o + 1) 0 false) := by
  unfold lappR
  rw [q_app (bA ls) (M.frame x) o 0 (by rw [bA_dat]; exact h), bA_dat, bA_sur, bA_snoc]
  rfl
/-- .. behind it -/
def bS (ls : List (List UInt8)) : Option (List UInt8 × Nat) := match ls with
  | [] => none
  | x :: r => some (M.frames (x :: r), (M.frames (x :: r)).length)
theorem bS_dat (ls : List (List UInt8)) : datO (bS ls) = M.frames ls := by cases ls <;> rfl
theorem bS_sur (ls : List (List UInt8)) : surO (bS ls) = (M.frames ls).length := by cases ls <;> rfl
theorem u_sync (ls : List (List UInt8)) (o : Nat) : ∃ o', o' ≤ o + 1 ∧ lsyncR (wu (lfO (bA ls)) o 0 false) nmLg ls.length = (0, wu (lfO (bS ls)) o' 0 false) := by
  cases ls with
  | nil => exact ⟨o, by omega, q_sync_none o 0⟩
  | cons a r => exact ⟨o + 1, by omega, q_sync o 0 _ (M.frames (a :: r)) 0⟩

/-- in the midst of the second records: those that are in the file, those that the log has; off or not -/
structure Amid (fl al : List (List UInt8)) (i : Nat) (b : Option (List UInt8 × Nat)) (off : Bool) (ls : List (List UInt8)) (k : Nat) : Prop where
  /-- of all records the first j are in the file; k of them are durable -/
  file : ∃ j, fl.length ≤ j ∧ j ≤ fl.length + i ∧ k ≤ j ∧ datO b = M.frames (al.take j) ∧ (off = false → j = fl.length + i)
  log : ∃ r, fl.length ≤ r ∧ r ≤ fl.length + i ∧ ls = al.take r ∧ (off = false → r = fl.length + i)
  sure : (M.frames (al.take k)).length = surO b
theorem frames_nil {ls : List (List UInt8)} (h : M.frames ls = []) : ls = [] := by
  cases ls with
  | nil => rfl
  | cons a r =>
    rw [M.frames_cons] at h
    have := congrArg List.length h
    rw [List.length_append, M.frame_len] at this
    simp at this
theorem amid_start (fl sl : List (List UInt8)) : Amid fl (fl ++ sl) 0 (bS fl) false fl fl.length where
  file := ⟨fl.length, Nat.le_refl _, by omega, Nat.le_refl _, by rw [bS_dat]; simp, fun _ => rfl⟩
  log := ⟨fl.length, Nat.le_refl _, by omega, by simp, fun _ => rfl⟩
  sure := by rw [bS_sur]; simp
section
variable {fl al : List (List UInt8)} {i k o fu : Nat} {b : Option (List UInt8 × Nat)} {off : Bool} {ls : List (List UInt8)}
/-- one more of the second records, or none: the power is off -/
theorem amid_app (h : Amid fl al i b off ls k) (x : List UInt8) (hx : al[fl.length + i]? = some x) (hb : (M.frames al).length ≤ 4000000) :
    ∃ b' off' o' fu', o' ≤ o + 1 ∧ (lappR (wu (lfO b) o fu off) nmLg x).2 = wu (lfO b') o' fu' off' ∧ Amid fl al (i + 1) b' off' (lappLs ls (lappR (wu (lfO b) o fu off) nmLg x).1 x) k := by
  obtain ⟨⟨j, j1, j2, j3, j4, j5⟩, ⟨r, r1, r2, r3, r4⟩, hs⟩ := h
  cases off with
  | true =>
    refine ⟨b, true, o, fu, by omega, ?_, ?_⟩
    · unfold lappR; rw [q_app_off]
    · unfold lappR
      rw [q_app_off]
      refine ⟨⟨j, j1, by omega, j3, j4, by simp⟩, ⟨r, r1, by omega, ?_, by simp⟩, hs⟩
      unfold lappLs
      rw [if_neg (by simp)]
      exact r3
  | false =>
    have hj := j5 rfl
    have hr := r4 rfl
    subst hj hr
    obtain ⟨hlt, hxe⟩ := List.getElem?_eq_some_iff.1 hx
    have ht : al.take (fl.length + i + 1) = al.take (fl.length + i) ++ [x] := by rw [List.take_succ_eq_append_getElem hlt, hxe]
    have hlen : (datO b).length + (M.frame x).length ≤ 8000000 := by
      have h1 := M.frames_mono al (show fl.length + i + 1 ≤ al.length by omega)
      rw [List.take_length, ht, M.frames_snoc, List.length_append, ← j4] at h1
      omega
    have he : lappR (wu (lfO b) o fu false) nmLg x = (opErr fu, wu (lfO (some (datO b ++ M.frame x, surO b))) (o + 1) (fu - 1) (fu == 1)) := q_app b (M.frame x) o fu hlen
    refine ⟨some (datO b ++ M.frame x, surO b), fu == 1, o + 1, fu - 1, Nat.le_refl _, by rw [he], ?_⟩
    rw [he]
    refine ⟨⟨fl.length + i + 1, by omega, by omega, by omega, ?_, fun _ => by omega⟩, ?_, hs⟩
    · show datO b ++ M.frame x = _
      rw [ht, M.frames_snoc, ← j4]
    · by_cases h1 : fu = 1
      · subst h1
        refine ⟨fl.length + i, by omega, by omega, ?_, by simp⟩
        unfold lappLs
        rw [if_neg (show ¬ opErr 1 = 0 by decide)]
        exact r3
      · refine ⟨fl.length + i + 1, by omega, by omega, ?_, fun _ => by omega⟩
        unfold lappLs opErr
        rw [if_neg h1, if_pos rfl, ht, r3]
theorem amid_le (h : Amid fl al i b off ls k) : surO b ≤ (datO b).length := by
  obtain ⟨⟨j, j1, j2, j3, j4, j5⟩, _, hs⟩ := h
  rw [← hs, j4]
  exact M.frames_mono al j3
/-- the second Sync: done, then all are durable; or not -/
theorem amid_sync (h : Amid fl al i b off ls k) (hi : fl.length + i = al.length) (hk : surO b ≤ (datO b).length) :
    ∃ b' off' o' fu' k', o' ≤ o + 1 ∧ (lsyncR (wu (lfO b) o fu off) nmLg ls.length).2 = wu (lfO b') o' fu' off' ∧ Amid fl al i b' off' ls k' ∧ surO b' ≤ (datO b').length ∧ (((lsyncR (wu (lfO b) o fu off) nmLg ls.length).1 = 0 ∧ k' = al.length) ∨ ((lsyncR (wu (lfO b) o fu off) nmLg ls.length).1 ≠ 0 ∧ k' = k)) := by
  obtain ⟨⟨j, j1, j2, j3, j4, j5⟩, ⟨r, r1, r2, r3, r4⟩, hs⟩ := h
  cases off with
  | true =>
    rw [q_sync_off]
    exact ⟨b, true, o, fu, k, by omega, rfl, ⟨⟨j, j1, j2, j3, j4, by simp⟩, ⟨r, r1, r2, r3, by simp⟩, hs⟩, hk, .inr ⟨by simp, rfl⟩⟩
  | false =>
    have hj := j5 rfl
    have hr := r4 rfl
    subst hj hr
    rcases b with _ | ⟨p, kk⟩
    · have he : al.take (fl.length + i) = [] := frames_nil (by rw [← j4]; rfl)
      have hl : ls = [] := by rw [r3, he]
      subst hl
      have hal : al.length = 0 := by
        have h0 : (al.take (fl.length + i)).length = 0 := by rw [he]; rfl
        rw [List.length_take] at h0; omega
      refine ⟨none, false, o, fu, al.length, by omega, ?_, ⟨⟨fl.length + i, j1, j2, by omega, j4, fun _ => rfl⟩, ⟨fl.length + i, r1, r2, r3, fun _ => rfl⟩, ?_⟩, hk, .inl ⟨?_, rfl⟩⟩
      · exact congrArg Prod.snd (q_sync_none o fu)
      · rw [hal]; simp [M.frames, surO]
      · exact congrArg Prod.fst (q_sync_none o fu)
    · have he : lsyncR (wu (lfO (some (p, kk))) o fu false) nmLg ls.length = if fu = 1 then (10, wu [fg p kk] (o + 1) 0 true) else (0, wu [fg p p.length] (o + 1) (fu - 1) false) := q_sync o fu ls.length p kk
      rw [he]
      have hp : p = M.frames (al.take (fl.length + i)) := j4
      by_cases h1 : fu = 1
      · rw [if_pos h1]
        exact ⟨some (p, kk), true, o + 1, 0, k, by omega, rfl, ⟨⟨fl.length + i, j1, j2, j3, j4, by simp⟩, ⟨fl.length + i, r1, r2, r3, by simp⟩, hs⟩, hk, .inr ⟨by simp, rfl⟩⟩
      · rw [if_neg h1]
        refine ⟨some (p, p.length), false, o + 1, fu - 1, al.length, by omega, rfl, ⟨⟨fl.length + i, j1, j2, by omega, j4, fun _ => rfl⟩, ⟨fl.length + i, r1, r2, r3, fun _ => rfl⟩, ?_⟩, Nat.le_refl _, .inl ⟨rfl, rfl⟩⟩
        show (M.frames (al.take al.length)).length = p.length
        rw [hp, hi]
/-- behind Set, Restart and Open: the new records where it is done, else a beginning of the elder ones -/
theorem amid_end (h : Amid fl al i b off ls k) (hk : surO b ≤ (datO b).length) (hal : ∀ x ∈ al, x.length ≤ 65535) (hb : (M.frames al).length ≤ 2000000) (ns : List (List UInt8)) (hns : ∀ x ∈ ns, x.length ≤ 65535) (hnb : (M.frames ns).length ≤ 2000000) (ks : List Int) (hi : fl.length + i = al.length) :
    ∃ s2 : St, restarted (replacedR (wu (lfO b) o fu off) nmLg (M.frames ns)).2 ks = s2 ∧ s2.ops ≤ o + 3 ∧ (openedR s2 nmLg).1 = 0 ∧
      (((replacedR (wu (lfO b) o fu off) nmLg (M.frames ns)).1 = 0 ∧ (M.scan (readR s2 nmLg).1).1 = ns) ∨ ((replacedR (wu (lfO b) o fu off) nmLg (M.frames ns)).1 ≠ 0 ∧ ∃ t, k ≤ t ∧ t ≤ al.length ∧ (M.scan (readR s2 nmLg).1).1 = al.take t)) := by
  refine ⟨_, rfl, ?_⟩
  have hdl : (datO b).length ≤ 2000000 := by
    obtain ⟨⟨j, j1, j2, j3, j4, j5⟩, _, _⟩ := h
    rw [j4]
    have := M.frames_mono al (show j ≤ al.length by omega)
    rw [List.take_length] at this
    omega
  have notdone : ∀ (c : Option (List UInt8 × Nat)) (o' fu' : Nat) (off' : Bool), o' ≤ o + 3 → (restarted (wu (lfO b ++ fnO c) o' fu' off') ks).ops ≤ o + 3 ∧ (openedR (restarted (wu (lfO b ++ fnO c) o' fu' off') ks) nmLg).1 = 0 ∧ ∃ t, k ≤ t ∧ t ≤ al.length ∧ (M.scan (readR (restarted (wu (lfO b ++ fnO c) o' fu' off') ks) nmLg).1).1 = al.take t := by
    intro c o' fu' off' ho
    obtain ⟨b', c', m, e1, m1, m2, m3⟩ := q_restart b o' fu' c off' ks hk
    rw [e1]
    have hq := q_open b' o' c' (by rw [m3, List.length_take]; omega)
    refine ⟨ho, hq.1, ?_⟩
    rw [hq.2, m3]
    obtain ⟨⟨j, j1, j2, j3, j4, j5⟩, _, hs⟩ := h
    rw [j4]
    obtain ⟨t, t1, t2, t3⟩ := M.scan_cut (al.take j) m (fun x hx => hal x (List.mem_of_mem_take hx)) (by rw [← j4]; exact m2)
    rw [List.length_take] at t1
    refine ⟨t, ?_, by omega, ?_⟩
    · refine t3 k (by rw [List.length_take]; omega) ?_
      rw [List.take_take, Nat.min_eq_left j3, hs]
      exact m1
    · rw [t2, List.take_take, Nat.min_eq_left (by omega)]
  cases off with
  | true =>
    rw [r_off]
    have := notdone none o fu true (by omega)
    rw [show lfO b ++ fnO none = lfO b by simp [fnO]] at this
    exact ⟨this.1, this.2.1, .inr ⟨by simp, this.2.2⟩⟩
  | false =>
    obtain ⟨hops, hc⟩ := r_rep b (M.frames ns) o fu (by omega)
    rcases hc with ⟨o', fu', he⟩ | ⟨c, o', fu', off', he⟩
    · rw [he] at hops ⊢
      obtain ⟨b', c', m, e1, m1, m2, m3⟩ := q_restart (some (M.frames ns, (M.frames ns).length)) o' fu' none false ks (Nat.le_refl _)
      rw [show lfO (some (M.frames ns, (M.frames ns).length)) ++ fnO none = [fg (M.frames ns) (M.frames ns).length] from rfl] at e1
      show (restarted (wu _ _ _ _) ks).ops ≤ _ ∧ _
      rw [e1]
      have hm : m = (M.frames ns).length := Nat.le_antisymm m2 m1
      have hd : datO b' = M.frames ns := by
        rw [m3, hm]
        exact List.take_length
      have hq := q_open b' o' c' (by rw [hd]; omega)
      refine ⟨hops, hq.1, .inl ⟨rfl, ?_⟩⟩
      rw [hq.2, hd, M.scan_all ns hns]
    · rw [he] at hops ⊢
      have := notdone c o' fu' off' hops
      exact ⟨this.1, this.2.1, .inr ⟨by simp, this.2.2⟩⟩
end
end Go.Proofs.YtjdkpcibdjhdoaaDoor
namespace Go.Proofs.YtjdkpcibdjhdoaaDoor
open Go.RowKit Mem FM
set_option linter.unusedVariables false
set_option maxRecDepth 100000

theorem u_open0 : openedR (St.new 8388608) nmLg = (0, wu (lfO (bA [])) 0 0 false) ∧ (M.scan (readR (St.new 8388608) nmLg).1).1 = [] := by
  have hr : readR (St.new 8388608) nmLg = ([], 8) := by unfold readR; rw [show (St.new 8388608).off = false from rfl, if_pos rG]; rfl
  have hd : droppedR (St.new 8388608) nmLg = (0, wu (lfO (bA [])) 0 0 false) := by
    unfold droppedR removed
    rw [nmN_lg, show (St.new 8388608).off = false from rfl, if_pos rN]
    rfl
  have hs : M.scan [] = ([], 0) := M.scan_all [] (by simp)
  rw [hr, hs]
  refine ⟨?_, rfl⟩
  unfold openedR
  rw [hr, hd, hs, if_neg (by simp), if_neg (by simp), if_neg (by simp)]
theorem Cr.start {w wr w' : World} {F : Nat → Prop} {D : Nat} {s' : St} {ls : List (List UInt8)} {e : Ending} (h : Opened F D s' nmLg ls wr e w') (hF : ∀ k, F k → w.heap.size ≤ k) (hb : Below w.heap.size w wr) :
    ∃ G, e = .returned (.tuple #[.pointer (some ⟨G, 0, none⟩), .int .i64 0]) ∧ Cr w D G s' ls (.slice none 0 0) [] (.slice none 0 0) [] w' := by
  obtain ⟨G, h1, F', FL, rs, h4, h2, h3, h6, h7, h8, h9⟩ := Wal.of_opened h hF hb
  exact ⟨G, h1, F', FL, rs, h3, h4, h2, h6, h7, h8, h9, OwnV.nil _ _ _, OwnV.nil _ _ _, fun k hk => by simp [Value.ownBlock] at hk, fun k hk => by simp [Value.ownBlock] at hk, fun k hk => by simp [Value.ownBlock] at hk⟩
theorem firm_row {F : Nat → Prop} {w wr : World} {r : Row} (h : r.ok w w.heap.size) (hb : Below w.heap.size w wr) (hF : ∀ k, F k → w.heap.size ≤ k) : Firm F wr r.A r.n r.c r.l := fun w' ht =>
  ((Rd.below h hb).keep fun p hp => ht.cell (by have := hb.size; omega) (fun hf => by have := hF _ hf; omega)).more (Nat.le_trans hb.size ht.size)
theorem texts_take (rs : List Row) (i : Nat) : (texts rs).take i = texts (rs.take i) := by simp [texts, List.map_take]
theorem texts_app (a b : List Row) : texts (a ++ b) = texts a ++ texts b := by simp [texts]
theorem not_long {rs : List Row} (h : (rs.any fun r => decide (65535 < r.l.length)) = false) : ∀ x ∈ texts rs, x.length ≤ 65535 := by
  intro x hx
  obtain ⟨r, hr, rfl⟩ := List.mem_map.1 hx
  have := List.any_eq_false.1 h r hr
  simpa using this

end Go.Proofs.YtjdkpcibdjhdoaaDoor
