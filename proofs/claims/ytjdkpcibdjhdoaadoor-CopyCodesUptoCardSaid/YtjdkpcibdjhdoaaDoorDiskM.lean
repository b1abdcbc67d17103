/-
  What Put and drop do, by contracts.
-/
import Derived.Test.YtjdkpcibdjhdoaaDoorDiskL
namespace Go.Proofs.YtjdkpcibdjhdoaaDoor
open Go.RowKit Mem FM

def putNew (s : St) (nm : ByteArray) (l : List UInt8) : Int × St :=
  match find nm.data.toList s.files with
  | some _ => (9, s)
  | none => wrote s nm.data.toList l
def putR (s : St) (nm : ByteArray) (l : List UInt8) : Int × St := if ready1 nm s.off = 0 then putNew s nm l else (ready1 nm s.off, s)

set_option maxRecDepth 100000 in
set_option maxHeartbeats 400000 in
theorem put_any (D B : Nat) (F : Nat → Prop) (s : St) (nm : ByteArray) (A : Option Addr) (n c : Nat) (l : List UInt8) (w : World) (h : DiskAt w F D s) (hs : nm.size ≤ 9223372036854775807) (hr : Rd w B A n c l) (hB : B ≤ w.heap.size) (hops : s.ops + 1 < 1099511627776) :
    Calls Tryd.prog 73 #[.pointer (some ⟨D, 0, none⟩), .string nm, .slice A n c] w (Did F D (putR s nm l).1 (putR s nm l).2 w) := by
  have h1 := h.alloc (.cells #[.string nm] 9)
  have HR := Lib.hid (ready_one D w.heap.size nm s.off _ hs h1.off_ ((cellAt 0 (heapNew (w := w) (.cells #[.string nm] 9 (0, 0)))).trans rfl))
  have HT := Lib.hid ((Turned.refl F w).alloc (.cells #[.string nm] 9))
  have HE := Lib.hid (show putR s nm l = if ready1 nm s.off = 0 then putNew s nm l else (ready1 nm s.off, s) from rfl)
  have HD1 := Lib.hid h1
  have hr1 := hr.alloc hB (.cells #[.string nm] 9)
  clear h1
  by_cases hrd : ready1 nm s.off = 0
  · have HW := Lib.hid (write_any D B F s nm A n c l _ HD1.out (nameOk_size (ready1_ok hrd).1) hr1 (by simp; omega) hops)
    obtain ⟨b, nn, cs, hdb, hFD, hfs, hnn, hcs, -⟩ := HD1.out
    have hlook := hfs.look nm hs
    have c2 := hdb.c2
    have HF := Lib.hid (show find nm.data.toList s.files = (find nm.data.toList cs).map File.bare by rw [← hcs, bare_find])
    cases hcf : find nm.data.toList cs with
    | some cf =>
      rw [hcf] at hlook
      simp only at hlook
      have HE2 := Lib.hid (show putR s nm l = (9, s) by rw [HE.out, if_pos hrd]; unfold putNew; rw [HF.out, hcf]; rfl)
      clear hcf hcs hdb hfs
      go_enter Tryd.func73, Tryd.ntmps73
      go_wp2_with fail
      refine HR.out.mono ?_
      rintro e w1 ⟨rfl, rfl⟩
      rw [hrd]
      go_wp2
      go_ret
      rw [HE2.out]
      exact ⟨rfl, F, HD1.out, HT.out, Spread.refl F w⟩
    | none =>
      rw [hcf] at hlook
      simp only at hlook
      have HE2 := Lib.hid (show putR s nm l = wrote s nm.data.toList l by rw [HE.out, if_pos hrd]; unfold putNew; rw [HF.out, hcf]; rfl)
      clear hcf hcs hdb hfs
      go_enter Tryd.func73, Tryd.ntmps73
      go_wp2_with fail
      refine HR.out.mono ?_
      rintro e w1 ⟨rfl, rfl⟩
      rw [hrd]
      go_wp2_with fail
      refine HW.out.mono ?_
      rintro e w2 hdid
      have HDID := Lib.hid hdid
      obtain ⟨rfl, -⟩ := hdid
      clear HR HW
      generalize hxx : (wrote s nm.data.toList l).1 = xx at *
      have HXX := Lib.hid hxx
      clear hxx
      go_wp2
      go_ret
      rw [HE2.out, HXX.out]
      exact HDID.out.from_ HT.out
  · have hq : (ready1 nm s.off != 0) = true := by simpa using hrd
    go_enter Tryd.func73, Tryd.ntmps73
    go_wp2_with fail
    refine HR.out.mono ?_
    rintro e w1 ⟨rfl, rfl⟩
    have HE2 := Lib.hid (show putR s nm l = (ready1 nm s.off, s) by rw [HE.out, if_neg hrd])
    generalize ready1 nm s.off = xx at *
    go_wp2
    go_ret
    rw [HE2.out]
    exact ⟨rfl, F, HD1.out, HT.out, Spread.refl F w⟩

def Dropped (F : Nat → Prop) (D : Nat) (s : St) (n : List UInt8) (w : World) (e : Ending) (w' : World) : Prop := e = .returned (.tuple #[]) ∧ DiskAt w' F D (s.with_ (del n s.files)) ∧ Turned F w w'

set_option maxRecDepth 100000 in
set_option maxHeartbeats 1000000 in
theorem drop_any (D : Nat) (F : Nat → Prop) (s : St) (nm : ByteArray) (w : World) (h : DiskAt w F D s) (hs : nm.size ≤ 9223372036854775807) :
    Calls Tryd.prog 82 #[.pointer (some ⟨D, 0, none⟩), .string nm] w (Dropped F D s nm.data.toList w) := by
  have HD := Lib.hid h
  obtain ⟨b, nn, cs, hdb, hFD, hfs, hnn, hcs, hu, hroom, hfuse, hops0, hFlt⟩ := h
  have hlook := hfs.look nm hs
  have c1 := hdb.c1; have c2 := hdb.c2; have f1 := hdb.free 1
  have HF := Lib.hid (show find nm.data.toList s.files = (find nm.data.toList cs).map File.bare by rw [← hcs, bare_find])
  cases hcf : find nm.data.toList cs with
  | none =>
    rw [hcf] at hlook
    simp only at hlook
    have HS := Lib.hid (show s.with_ (del nm.data.toList s.files) = s by unfold St.with_; rw [del_none (by rw [HF.out, hcf]; rfl)])
    clear hcf hcs hdb hfs
    go_enter Tryd.func82, Tryd.ntmps82
    go_wp2
    refine bodyPost_end (results_none rfl _ _ _) rfl ?_
    exact ⟨rfl, by rw [HS.out]; exact HD.out, Turned.refl _ _⟩
  | some cf =>
    rw [hcf] at hlook
    simp only at hlook
    obtain ⟨g1, g2, g3, g4, g5, g6, g7⟩ := hfs.mem hcf
    obtain ⟨A, c, hv, hrd1⟩ := g3.open_
    rw [hv] at g1
    have k0 : w.cell? ⟨cf.x.g, 0, none⟩ = some (Value.slice A cf.data.length c) := (cellAt 0 g1).trans rfl
    have hle : cf.data.length ≤ used s.files := by
      have := used_mem (find_name hcf).2
      rw [← bare_used, hcs] at this
      exact this
    have HUD := Lib.hid (show used (del nm.data.toList s.files) + cf.data.length = used s.files by
      have := used_del hfs.rise hcf
      rw [← bare_used, bare_del, hcs, ← bare_used cs, hcs] at this; exact this)
    have HDB := Lib.hid hdb; have HFS := Lib.hid hfs; have HCS := Lib.hid hcs; have HCF := Lib.hid hcf
    have HK := Lib.hid (keyOf_str nm hs)
    obtain ⟨m, hmap, -⟩ := id hfs
    have HM := Lib.hid hmap
    clear hdb hfs hcs hcf hmap g1 g3 g4 hv hrd1
    generalize hus : used s.files = us at *
    have HUS := Lib.hid hus
    clear hus
    generalize hdl : cf.data.length = dl at *
    clear hdl
    have hw1 : IntKind.i64.wrap ((us : Int) - (dl : Int)) = ((us - dl : Nat) : Int) := by rw [IntWalk.i64_in _ (by omega)]; omega
    go_enter Tryd.func82, Tryd.ntmps82
    go_wp2_with fail
    go_region
    have hdb1 : DB (w.setCell ⟨D, 1, none⟩ (.int .i64 ((us - dl : Nat) : Int))).drew D s.room ((us - dl : Nat) : Int) b s.ops s.fuse s.off := HDB.out.s1 _
    have hbD : b ≠ D := map_ne_db HDB.out HM.out
    have hm1 : (w.setCell ⟨D, 1, none⟩ (.int .i64 ((us - dl : Nat) : Int))).drew.ownsMap Tryd.prog 9 rdPtr b nn m := HM.out.setCell (a := ⟨D, 1, none⟩) hbD _
    have ht1 : Turned (· = D) w (w.setCell ⟨D, 1, none⟩ (.int .i64 ((us - dl : Nat) : Int))).drew := ((Turned.refl (· = D) w).setCell (p := ⟨D, 1, none⟩) (.inl rfl) _).drew
    have hfs1 := HFS.out.db HDB.out ht1
    generalize (w.setCell ⟨D, 1, none⟩ (.int .i64 ((us - dl : Nat) : Int))).drew = w1 at *
    have d2 := hdb1.c2
    have HDB1 := Lib.hid hdb1; have HM1 := Lib.hid hm1; have HT1 := Lib.hid ht1; have HFS1 := Lib.hid hfs1
    clear hdb1 hm1 ht1 hfs1 c1 c2 f1 k0 hlook hw1
    go_wp2_with (at_delete; go_must (refine wpList_delete_own _ rfl _ _ _ _ rfl _ Tryd.keyed Tryd.underlying74 rdPtr b nn m rfl HM1.out _ _ rfl HK.out ?_))
    intro w2 hm2 hturn2
    have ht2 : Turned (· = b) w1 w2 := (Turned.refl (· = b) w1).grown hturn2.grown fun k hk => .inl (by injection hk with hk; exact hk.symm)
    have hfs2 : FilesAt w2 F b nn (del nm.data.toList cs) := HFS1.out.drop (fun m' hm' => by rw [ownsMap_unique hm' HM1.out]; exact hm2) ht2
    have hdb2 := HDB1.out.turned ht2 (fun e => hbD e.symm)
    have HFS2 := Lib.hid hfs2; have HDB2 := Lib.hid hdb2; have HT2 := Lib.hid ht2
    clear hm2 hturn2 ht2 hfs2 hdb2
    go_wp2
    refine bodyPost_end (results_none rfl _ _ _) rfl ?_
    have hbF : F b := by obtain ⟨_, _, hb, _⟩ := HFS.out; exact hb
    have hud : used (del nm.data.toList s.files) = us - dl := by have := HUD.out; omega
    refine ⟨rfl, ⟨b, nn, _, ?_, hFD, HFS2.out, hnn, ?_, ?_, hroom, hfuse, hops0, fun k hk => Nat.lt_of_lt_of_le (hFlt k hk) (Nat.le_trans HT1.out.size HT2.out.size)⟩, (HT1.out.more fun k _ e => by rw [e]; exact hFD).trans (HT2.out.more fun k _ e => by rw [e]; exact hbF)⟩
    · show DB w2 D s.room ((used (del nm.data.toList s.files) : Nat) : Int) b s.ops s.fuse s.off
      rw [hud]; exact HDB2.out
    · show bare (del nm.data.toList cs) = del nm.data.toList s.files
      rw [bare_del, HCS.out]
    · show used (del nm.data.toList s.files) ≤ s.room
      omega
end Go.Proofs.YtjdkpcibdjhdoaaDoor
