/-
  What Append and Sync do, by contracts.
-/
import Derived.Test.YtjdkpcibdjhdoaaDoorDiskF
namespace Go.Proofs.YtjdkpcibdjhdoaaDoor
open Go.RowKit Mem FM

def wrote (s : St) (n l : List UInt8) : Int × St := if s.room - used s.files < l.length then (11, s) else (opErr s.fuse, s.op (grow n l s.files))
def appended (s : St) (nm : ByteArray) (l : List UInt8) : Int × St := if ready1 nm s.off = 0 then wrote s nm.data.toList l else (ready1 nm s.off, s)
def withSync (s : St) (nm : ByteArray) : Int × St :=
  match find nm.data.toList s.files with
  | none => (8, s)
  | some f => if s.fuse = 1 then (10, s.op s.files) else (0, s.op (set nm.data.toList (fun _ => ⟨f.name, f.data, f.data.length, ()⟩) s.files))
def synced (s : St) (nm : ByteArray) : Int × St := if ready1 nm s.off = 0 then withSync s nm else (ready1 nm s.off, s)

theorem Did.from_ {F : Nat → Prop} {D : Nat} {x : Int} {s : St} {w w1 : World} (ht : Turned F w w1) {e : Ending} {w' : World} (h : Did F D x s w1 e w') : Did F D x s w e w' := by
  obtain ⟨h1, F', h2, h3, h4⟩ := h
  exact ⟨h1, F', h2, ht.trans h3, fun k hk => (h4 k hk).elim .inl (fun h => .inr (Nat.le_trans ht.size h))⟩
theorem DiskAt.alloc {w : World} {F : Nat → Prop} {D : Nat} {s : St} (h : DiskAt w F D s) (o : Obj) : DiskAt (w.alloc o) F D s :=
  h.far (G := fun _ => False) ((Turned.refl _ w).alloc o) (fun _ _ h => h)
theorem DiskAt.off_ {w : World} {F : Nat → Prop} {D : Nat} {s : St} (h : DiskAt w F D s) : w.cell? ⟨D, 5, none⟩ = some (.bool s.off) := by
  obtain ⟨b, nn, cs, h1, _⟩ := h
  exact h1.c5
theorem nameOk_size {nm : ByteArray} (h : nameOk nm = true) : nm.size ≤ 32 := by
  unfold nameOk at h
  simp at h
  exact h.1.2
theorem ready1_ok {nm : ByteArray} {off : Bool} (h : ready1 nm off = 0) : nameOk nm = true ∧ off = false := by
  unfold ready1 at h
  split at h
  · rename_i h1
    refine ⟨h1, ?_⟩
    cases off
    · rfl
    · simp at h
  · simp at h

theorem write_any (D B : Nat) (F : Nat → Prop) (s : St) (nm : ByteArray) (A : Option Addr) (n c : Nat) (l : List UInt8) (w : World) (h : DiskAt w F D s) (hs : nm.size ≤ 32) (hr : Rd w B A n c l) (hB : B ≤ w.heap.size) (hops : s.ops + 1 < 1099511627776) :
    Calls Tryd.prog 85 #[.pointer (some ⟨D, 0, none⟩), .string nm, .slice A n c] w (Did F D (wrote s nm.data.toList l).1 (wrote s nm.data.toList l).2 w) := by
  unfold wrote
  by_cases hf : s.room - used s.files < l.length
  · rw [if_pos hf]; exact write_full D B F s nm A n c l w h hr (by rw [hr.len]; exact hf)
  · rw [if_neg hf]
    have hf' : ¬ s.room - used s.files < n := by rw [hr.len]; exact hf
    cases hx : find nm.data.toList s.files with
    | some f => exact write_old D B F s nm A n c l w h (by omega) hr hf' f hx hops
    | none => exact write_new D B F s nm A n c l w h hs hr hB hf' hx hops

set_option maxRecDepth 100000 in
set_option maxHeartbeats 400000 in
theorem append_any (D B : Nat) (F : Nat → Prop) (s : St) (nm : ByteArray) (A : Option Addr) (n c : Nat) (l : List UInt8) (w : World) (h : DiskAt w F D s) (hs : nm.size ≤ 9223372036854775807) (hr : Rd w B A n c l) (hB : B ≤ w.heap.size) (hops : s.ops + 1 < 1099511627776) :
    Calls Tryd.prog 94 #[.pointer (some ⟨D, 0, none⟩), .string nm, .slice A n c] w (Did F D (appended s nm l).1 (appended s nm l).2 w) := by
  have h1 := h.alloc (.cells #[.string nm] 9)
  have HR := Lib.hid (ready_one D w.heap.size nm s.off _ hs h1.off_ ((cellAt 0 (heapNew (w := w) (.cells #[.string nm] 9 (0, 0)))).trans rfl))
  have HT := Lib.hid ((Turned.refl F w).alloc (.cells #[.string nm] 9))
  have HE := Lib.hid (show appended s nm l = if ready1 nm s.off = 0 then wrote s nm.data.toList l else (ready1 nm s.off, s) from rfl)
  have HD1 := Lib.hid h1
  have hr1 := hr.alloc hB (.cells #[.string nm] 9)
  clear h1
  by_cases hrd : ready1 nm s.off = 0
  · have HW := Lib.hid (write_any D B F s nm A n c l _ HD1.out (nameOk_size (ready1_ok hrd).1) hr1 (by simp; omega) hops)
    go_enter Tryd.func94, Tryd.ntmps94
    go_wp2_with fail
    refine HR.out.mono ?_
    rintro e w1 ⟨rfl, rfl⟩
    rw [hrd]
    go_wp2_with fail
    refine HW.out.mono ?_
    rintro e w2 hdid
    have HDID := Lib.hid hdid
    obtain ⟨rfl, -⟩ := hdid
    clear HR HW
    have HE2 := Lib.hid (show appended s nm l = wrote s nm.data.toList l by rw [HE.out, if_pos hrd])
    generalize hxx : (wrote s nm.data.toList l).1 = xx at *
    have HXX := Lib.hid hxx
    clear hxx
    go_wp2
    go_ret
    rw [HE2.out, HXX.out]
    exact HDID.out.from_ HT.out
  · have hq : (ready1 nm s.off != 0) = true := by simpa using hrd
    go_enter Tryd.func94, Tryd.ntmps94
    go_wp2_with fail
    refine HR.out.mono ?_
    rintro e w1 ⟨rfl, rfl⟩
    have HE2 := Lib.hid (show appended s nm l = (ready1 nm s.off, s) by rw [HE.out, if_neg hrd])
    generalize ready1 nm s.off = xx at *
    go_wp2
    go_ret
    rw [HE2.out]
    exact ⟨rfl, F, HD1.out, HT.out, Spread.refl F w⟩

set_option maxRecDepth 100000 in
set_option maxHeartbeats 400000 in
theorem sync1_any (g : Nat) (v : Value) (A : Option Addr) (n c : Nat) (sure : Int) (w : World) (hv : v = .slice A n c) (h : w.heap[g]? = some (.cells #[v, .int .i64 sure] 126 (0, 0))) :
    Calls Tryd.prog 77 #[.pointer (some ⟨g, 0, none⟩)] w (fun e w' => e = .returned (.tuple #[]) ∧ w' = w.setCell ⟨g, 1, none⟩ (.int .i64 n)) := by
  subst hv
  have k0 := (cellAt 0 h).trans (rfl : _ = some (Value.slice A n c))
  have k1 := (cellAt 1 h).trans (rfl : _ = some (Value.int .i64 sure))
  have f1 := freeAt 1 h
  clear h
  go_enter Tryd.func77, Tryd.ntmps77
  go_wp2
  refine bodyPost_end (results_none rfl _ _ _) rfl ?_
  exact ⟨rfl, rfl⟩

set_option maxRecDepth 100000 in
set_option maxHeartbeats 400000 in
theorem with_none (D : Nat) (F : Nat → Prop) (s : St) (nm : ByteArray) (fv : Value) (w : World) (h : DiskAt w F D s) (hs : nm.size ≤ 9223372036854775807) (hf : find nm.data.toList s.files = none) :
    Calls Tryd.prog 76 #[.pointer (some ⟨D, 0, none⟩), .string nm, fv] w (fun e w' => e = .returned (.int .i64 8) ∧ w' = w) := by
  obtain ⟨b, nn, cs, hdb, hFD, hfs, hnn, hcs, -⟩ := h
  rw [← hcs, bare_find] at hf
  have hcf : find nm.data.toList cs = none := by
    cases hx : find nm.data.toList cs with
    | none => rfl
    | some x => rw [hx] at hf; cases hf
  have hlook := hfs.look nm hs
  rw [hcf] at hlook
  simp only at hlook
  have c2 := hdb.c2
  clear hdb hfs hcs hf hcf
  go_enter Tryd.func76, Tryd.ntmps76
  go_wp2
  go_ret
  exact ⟨rfl, rfl⟩

set_option maxRecDepth 100000 in
set_option maxHeartbeats 400000 in
theorem with_off (D : Nat) (F : Nat → Prop) (s : St) (nm : ByteArray) (fv : Value) (w : World) (h : DiskAt w F D s) (hs : nm.size ≤ 9223372036854775807) (f0 : File Unit) (hf : find nm.data.toList s.files = some f0) (hfu : s.fuse = 1) (hops : s.ops + 1 < 1099511627776) :
    Calls Tryd.prog 76 #[.pointer (some ⟨D, 0, none⟩), .string nm, fv] w (Did F D 10 (s.op s.files) w) := by
  have HD := Lib.hid h
  obtain ⟨b, nn, cs, hdb, hFD, hfs, hnn, hcs, hu, hroom, hfuse, hops0, hFlt⟩ := h
  rw [← hcs, bare_find] at hf
  cases hcf : find nm.data.toList cs with
  | none => rw [hcf] at hf; cases hf
  | some cf =>
    have hlook := hfs.look nm hs
    rw [hcf] at hlook
    simp only at hlook
    have c2 := hdb.c2
    have HB := Lib.hid (begin_nat _ _ _ _ _ _ _ _ hdb hops0 hfuse)
    have HDB := Lib.hid hdb; have HFS := Lib.hid hfs; have HCS := Lib.hid hcs
    have HE := Lib.hid (show opErr s.fuse = 10 by rw [hfu]; rfl)
    clear hdb hfs hcs hf hcf
    go_enter Tryd.func76, Tryd.ntmps76
    go_wp2_with fail
    refine HB.out.mono ?_
    rintro e w1 ⟨rfl, hdb1, ht1⟩
    rw [HE.out]
    go_wp2
    go_ret
    exact ⟨rfl, F, DiskAt.mk' HDB.out HFS.out ht1 hdb1 hFD (show nn ≤ s.ops + 1 by omega) HCS.out hu hroom (show s.fuse - 1 ≤ _ by omega) hops hFlt, ht1.more (fun k _ e => by rw [e]; exact hFD), Spread.refl F w⟩

set_option maxRecDepth 100000 in
set_option maxHeartbeats 400000 in
theorem with_sync (D : Nat) (F : Nat → Prop) (s : St) (nm : ByteArray) (w : World) (h : DiskAt w F D s) (hs : nm.size ≤ 9223372036854775807) (f0 : File Unit) (hf : find nm.data.toList s.files = some f0) (hfu : s.fuse ≠ 1) (hops : s.ops + 1 < 1099511627776) :
    Calls Tryd.prog 76 #[.pointer (some ⟨D, 0, none⟩), .string nm, .func (.func 77) #[] #[]] w
      (Did F D 0 (s.op (set nm.data.toList (fun _ => ⟨f0.name, f0.data, f0.data.length, ()⟩) s.files)) w) := by
  have HD := Lib.hid h
  obtain ⟨b, nn, cs, hdb, hFD, hfs, hnn, hcs, hu, hroom, hfuse, hops0, hFlt⟩ := h
  rw [← hcs, bare_find] at hf
  cases hcf : find nm.data.toList cs with
  | none => rw [hcf] at hf; cases hf
  | some cf =>
    rw [hcf] at hf
    injection hf with hf
    have hlook := hfs.look nm hs
    rw [hcf] at hlook
    simp only at hlook
    have c2 := hdb.c2
    have HB := Lib.hid (begin_nat _ _ _ _ _ _ _ _ hdb hops0 hfuse)
    have HDB := Lib.hid hdb; have HFS := Lib.hid hfs; have HCS := Lib.hid hcs; have HCF := Lib.hid hcf; have HF0 := Lib.hid hf
    have HE := Lib.hid (show opErr s.fuse = 0 by unfold opErr; rw [if_neg hfu])
    clear hdb hfs hcs hcf hf
    go_enter Tryd.func76, Tryd.ntmps76
    go_wp2_with fail
    refine HB.out.mono ?_
    rintro e w1 ⟨rfl, hdb1, ht1⟩
    rw [HE.out]
    have hfs1 := HFS.out.db HDB.out ht1
    have hat1 := hfs1.mem HCF.out
    obtain ⟨A, c, hv, -⟩ := hat1.2.2.1.open_
    have HS := Lib.hid (sync1_any cf.x.g cf.x.v A cf.data.length c cf.sure w1 hv hat1.1)
    have HDB1 := Lib.hid hdb1; have HFS1 := Lib.hid hfs1; have HAT1 := Lib.hid hat1; have HT1 := Lib.hid ht1
    clear hdb1 hfs1 hat1 ht1 hv hlook c2
    go_wp2_with fail
    refine HS.out.mono ?_
    rintro e w2 ⟨rfl, rfl⟩
    go_wp2
    go_ret
    have ht2 : Turned (fun k => k = cf.x.g ∨ cf.x.v.ownBlock = some k) w1 (w1.setCell ⟨cf.x.g, 1, none⟩ (.int .i64 (cf.data.length : Int))) := (Turned.refl _ w1).setCell (p := ⟨cf.x.g, 1, none⟩) (.inl (.inl rfl)) _
    have hdb2 := HDB1.out.turned ht2 (by
      rintro (e | e)
      · exact db_ne_file HDB1.out HAT1.out e.symm
      · exact own_ne_db HDB1.out HAT1.out.2.2.1 e)
    have hfs2 := HFS1.out.change (c' := ⟨cf.name, cf.data, cf.data.length, cf.x⟩) (F' := F) HCF.out rfl rfl (by
      obtain ⟨g1, g2, g3, g4, g5, g6, g7⟩ := HAT1.out
      exact ⟨(heapSet 1 _ g1).trans rfl, g2, g3.turned ((Turned.refl (· = cf.x.g) w1).setCell (p := ⟨cf.x.g, 1, none⟩) (.inl rfl) _) (fun k hk e => own_ne_file HAT1.out g3 (by rw [hk, e])), g4, Nat.le_refl _, g6, g7⟩) ht2 (fun _ h => h) (fun k hk => .inl hk)
    have hb : bare (set nm.data.toList (fun _ => (⟨cf.name, cf.data, cf.data.length, cf.x⟩ : File Spot)) cs) = set nm.data.toList (fun _ => ⟨f0.name, f0.data, f0.data.length, ()⟩) s.files := by
      rw [bare_set _ _ (fun _ => ⟨f0.name, f0.data, f0.data.length, ()⟩) (fun _ => by rw [← HF0.out]; rfl), HCS.out]
    have hus : used (set nm.data.toList (fun _ => (⟨f0.name, f0.data, f0.data.length, ()⟩ : File Unit)) s.files) = used s.files := by
      rw [← hb, bare_used, ← HCS.out, bare_used]
      have := used_set (hh := fun _ => (⟨cf.name, cf.data, cf.data.length, cf.x⟩ : File Spot)) HFS.out.rise HCF.out
      simp only at this; omega
    have hsz : w1.heap.size = (w1.setCell ⟨cf.x.g, 1, none⟩ (.int .i64 (cf.data.length : Int))).heap.size := by simp [World.setCell]
    refine ⟨rfl, F, ⟨b, nn, _, ?_, hFD, hfs2, (show nn ≤ s.ops + 1 by omega), hb, ?_, hroom, (show s.fuse - 1 ≤ _ by omega), hops, fun k hk => ?_⟩, ?_, Spread.refl F w⟩
    · show DB _ D (s.room : Int) ((used (set nm.data.toList (fun _ => (⟨f0.name, f0.data, f0.data.length, ()⟩ : File Unit)) s.files) : Nat) : Int) b _ _ _
      rw [hus]; exact hdb2
    · show used (set nm.data.toList (fun _ => (⟨f0.name, f0.data, f0.data.length, ()⟩ : File Unit)) s.files) ≤ s.room
      rw [hus]; exact hu
    · rw [← hsz]; exact Nat.lt_of_lt_of_le (hFlt k hk) HT1.out.size
    · refine (HT1.out.more (fun k _ e => by rw [e]; exact hFD)).trans (ht2.more fun k _ e => ?_)
      rcases e with e | e
      · rw [e]; exact HAT1.out.2.1
      · exact HAT1.out.2.2.2.1 k e

theorem with_sync_any (D : Nat) (F : Nat → Prop) (s : St) (nm : ByteArray) (w : World) (h : DiskAt w F D s) (hs : nm.size ≤ 9223372036854775807) (hops : s.ops + 1 < 1099511627776) :
    Calls Tryd.prog 76 #[.pointer (some ⟨D, 0, none⟩), .string nm, .func (.func 77) #[] #[]] w (Did F D (withSync s nm).1 (withSync s nm).2 w) := by
  unfold withSync
  cases hx : find nm.data.toList s.files with
  | none =>
    refine (with_none D F s nm _ w h hs hx).mono ?_
    rintro e w' ⟨rfl, rfl⟩
    exact ⟨rfl, F, h, Turned.refl _ _, Spread.refl _ _⟩
  | some f =>
    simp only
    by_cases hf : s.fuse = 1
    · rw [if_pos hf]; exact with_off D F s nm _ w h hs f hx hf hops
    · rw [if_neg hf]; exact with_sync D F s nm w h hs f hx hf hops

set_option maxRecDepth 100000 in
set_option maxHeartbeats 400000 in
theorem sync_any (D : Nat) (F : Nat → Prop) (s : St) (nm : ByteArray) (w : World) (h : DiskAt w F D s) (hs : nm.size ≤ 9223372036854775807) (hops : s.ops + 1 < 1099511627776) :
    Calls Tryd.prog 63 #[.pointer (some ⟨D, 0, none⟩), .string nm] w (Did F D (synced s nm).1 (synced s nm).2 w) := by
  have h1 := h.alloc (.cells #[.string nm] 9)
  have HR := Lib.hid (ready_one D w.heap.size nm s.off _ hs h1.off_ ((cellAt 0 (heapNew (w := w) (.cells #[.string nm] 9 (0, 0)))).trans rfl))
  have HT := Lib.hid ((Turned.refl F w).alloc (.cells #[.string nm] 9))
  have HE := Lib.hid (show synced s nm = if ready1 nm s.off = 0 then withSync s nm else (ready1 nm s.off, s) from rfl)
  have HD1 := Lib.hid h1
  clear h1
  by_cases hrd : ready1 nm s.off = 0
  · have HW := Lib.hid (with_sync_any D F s nm _ HD1.out hs hops)
    go_enter Tryd.func63, Tryd.ntmps63
    go_wp2_with fail
    refine HR.out.mono ?_
    rintro e w1 ⟨rfl, rfl⟩
    rw [hrd]
    go_wp2_with fail
    refine HW.out.mono ?_
    rintro e w2 hdid
    have HDID := Lib.hid hdid
    obtain ⟨rfl, -⟩ := hdid
    clear HR HW
    have HE2 := Lib.hid (show synced s nm = withSync s nm by rw [HE.out, if_pos hrd])
    generalize hxx : (withSync s nm).1 = xx at *
    have HXX := Lib.hid hxx
    clear hxx
    go_wp2
    go_ret
    rw [HE2.out, HXX.out]
    exact HDID.out.from_ HT.out
  · have hq : (ready1 nm s.off != 0) = true := by simpa using hrd
    go_enter Tryd.func63, Tryd.ntmps63
    go_wp2_with fail
    refine HR.out.mono ?_
    rintro e w1 ⟨rfl, rfl⟩
    have HE2 := Lib.hid (show synced s nm = (ready1 nm s.off, s) by rw [HE.out, if_neg hrd])
    generalize ready1 nm s.off = xx at *
    go_wp2
    go_ret
    rw [HE2.out]
    exact ⟨rfl, F, HD1.out, HT.out, Spread.refl F w⟩

end Go.Proofs.YtjdkpcibdjhdoaaDoor
