/-
  What 'with' does with Rename's closure, by contract.
-/
import Derived.Test.YtjdkpcibdjhdoaaDoorDiskP
namespace Go.Proofs.YtjdkpcibdjhdoaaDoor
open Go.RowKit Mem FM

def renameF (n t : List UInt8) (f : File Unit) (fs : List (File Unit)) : List (File Unit) := ins ⟨t, f.data, f.sure, ()⟩ (del n (del t fs))
def withRen (s : St) (nm to : ByteArray) : Int × St :=
  match find nm.data.toList s.files with
  | none => (8, s)
  | some f => if s.fuse = 1 then (10, s.op s.files) else (0, s.op (renameF nm.data.toList to.data.toList f s.files))

set_option maxRecDepth 100000 in
set_option maxHeartbeats 400000 in
theorem with_rename (D : Nat) (F : Nat → Prop) (s : St) (nm to : ByteArray) (cd ct cn : Nat) (w : World) (h : DiskAt w F D s) (hs : nm.size ≤ 32) (hs2 : to.size ≤ 32) (hne : nm.data.toList ≠ to.data.toList) (h1 : w.cell? ⟨cd, 0, none⟩ = some (.pointer (some ⟨D, 0, none⟩))) (h2 : w.cell? ⟨ct, 0, none⟩ = some (.string to)) (h3 : w.cell? ⟨cn, 0, none⟩ = some (.string nm)) (hcd : ¬ F cd) (hct : ¬ F ct) (hcn : ¬ F cn)
    (f0 : File Unit) (hf : find nm.data.toList s.files = some f0) (hfu : s.fuse ≠ 1) (hops : s.ops + 1 < 1099511627776) :
    Calls Tryd.prog 76 #[.pointer (some ⟨D, 0, none⟩), .string nm, .func (.func 86) #[] #[.pointer (some ⟨cd, 0, none⟩), .pointer (some ⟨ct, 0, none⟩), .pointer (some ⟨cn, 0, none⟩)]] w
      (Did F D 0 (s.op (renameF nm.data.toList to.data.toList f0 s.files)) w) := by
  obtain ⟨b, nn, cs, hdb, hFD, hfs, hnn, hcs, hu, hroom, hfuse, hops0, hFlt⟩ := h
  rw [← hcs, bare_find] at hf
  cases hcf : find nm.data.toList cs with
  | none => rw [hcf] at hf; cases hf
  | some cf =>
    rw [hcf] at hf
    injection hf with hf
    have hlook := hfs.look nm (by omega)
    rw [hcf] at hlook
    simp only at hlook
    have c2 := hdb.c2
    have HB := Lib.hid (begin_nat _ _ _ _ _ _ _ _ hdb hops0 hfuse)
    have HDB := Lib.hid hdb; have HFS := Lib.hid hfs; have HCS := Lib.hid hcs; have HCF := Lib.hid hcf; have HF0 := Lib.hid hf
    have HE := Lib.hid (show opErr s.fuse = 0 by unfold opErr; rw [if_neg hfu])
    have H1 := Lib.hid h1; have H2 := Lib.hid h2; have H3 := Lib.hid h3
    have HUC := Lib.hid (show used cs = used s.files by rw [← hcs, bare_used])
    clear hdb hfs hcs hcf hf h1 h2 h3
    go_enter Tryd.func76, Tryd.ntmps76
    go_wp2_with fail
    refine HB.out.mono ?_
    rintro e w1 ⟨rfl, hdb1, ht1⟩
    rw [HE.out]
    have hfs1 := HFS.out.db HDB.out ht1
    have hk : ∀ (p : Nat) (v : Value), w.cell? ⟨p, 0, none⟩ = some v → ¬ F p → w1.cell? ⟨p, 0, none⟩ = some v := fun p v hv hp =>
      (ht1.cell (p := ⟨p, 0, none⟩) (World.block_lt_of_cell? w _ hv) (fun e => hp (by have e : p = D := e; rw [e]; exact hFD))).trans hv
    rw [← HUC.out] at hdb1
    have HR := Lib.hid (rename1_any D b nn cd ct cn F cs _ _ _ _ nm to cf w1 hdb1 hfs1 hFD (by rw [HUC.out]; omega) hs hs2 HCF.out hne (by omega) (hk _ _ H1.out hcd) (hk _ _ H2.out hct) (hk _ _ H3.out hcn) hcd hct hcn)
    have HT1 := Lib.hid ht1
    clear hdb1 ht1 hfs1 hk hlook c2
    go_wp2_with fail
    refine HR.out.mono ?_
    rintro e w2 ⟨rfl, hdb2, hfs2, ht2⟩
    have HDB2 := Lib.hid hdb2; have HFS2 := Lib.hid hfs2; have HT2 := Lib.hid ht2
    clear hdb2 hfs2 ht2
    go_wp2
    go_ret
    have hcf1 : find nm.data.toList (del to.data.toList cs) = some cf := by rw [find_del, if_neg hne]; exact HCF.out
    have hb : bare (ins ⟨to.data.toList, cf.data, cf.sure, cf.x⟩ (del nm.data.toList (del to.data.toList cs))) = renameF nm.data.toList to.data.toList f0 s.files := by
      rw [bare_ins, bare_del, bare_del, HCS.out, ← HF0.out]
      rfl
    have hus : used (renameF nm.data.toList to.data.toList f0 s.files) = used (del to.data.toList cs) := by
      rw [← hb, bare_used, used_ins]
      have := used_del (HFS.out.rise.del (n := to.data.toList)) hcf1
      simp only; omega
    have hle : used (del to.data.toList cs) ≤ used s.files := by
      rw [← HUC.out]
      cases hx : find to.data.toList cs with
      | none => rw [del_none hx]; exact Nat.le_refl _
      | some y => have := used_del HFS.out.rise hx; omega
    refine ⟨rfl, F, ⟨b, nn + 1, _, ?_, hFD, HFS2.out, (show nn + 1 ≤ s.ops + 1 by omega), hb, ?_, hroom, (show s.fuse - 1 ≤ _ by omega), hops, fun k hk => Nat.lt_of_lt_of_le (hFlt k hk) (Nat.le_trans HT1.out.size HT2.out.size)⟩, (HT1.out.more fun k _ e => by rw [e]; exact hFD).trans HT2.out, Spread.refl F w⟩
    · show DB w2 D s.room ((used (renameF nm.data.toList to.data.toList f0 s.files) : Nat) : Int) b _ _ _
      rw [hus]; exact HDB2.out
    · show used (renameF nm.data.toList to.data.toList f0 s.files) ≤ s.room
      rw [hus]; omega

theorem with_rename_any (D : Nat) (F : Nat → Prop) (s : St) (nm to : ByteArray) (cd ct cn : Nat) (w : World) (h : DiskAt w F D s) (hs : nm.size ≤ 32) (hs2 : to.size ≤ 32) (hne : nm.data.toList ≠ to.data.toList) (h1 : w.cell? ⟨cd, 0, none⟩ = some (.pointer (some ⟨D, 0, none⟩))) (h2 : w.cell? ⟨ct, 0, none⟩ = some (.string to)) (h3 : w.cell? ⟨cn, 0, none⟩ = some (.string nm)) (hcd : ¬ F cd) (hct : ¬ F ct) (hcn : ¬ F cn) (hops : s.ops + 1 < 1099511627776) :
    Calls Tryd.prog 76 #[.pointer (some ⟨D, 0, none⟩), .string nm, .func (.func 86) #[] #[.pointer (some ⟨cd, 0, none⟩), .pointer (some ⟨ct, 0, none⟩), .pointer (some ⟨cn, 0, none⟩)]] w
      (Did F D (withRen s nm to).1 (withRen s nm to).2 w) := by
  unfold withRen
  cases hx : find nm.data.toList s.files with
  | none =>
    refine (with_none D F s nm _ w h (by omega) hx).mono ?_
    rintro e w' ⟨rfl, rfl⟩
    exact ⟨rfl, F, h, Turned.refl _ _, Spread.refl _ _⟩
  | some f =>
    simp only
    by_cases hf : s.fuse = 1
    · rw [if_pos hf]; exact with_off D F s nm _ w h (by omega) f hx hf hops
    · rw [if_neg hf]; exact with_rename D F s nm to cd ct cn w h hs hs2 hne h1 h2 h3 hcd hct hcn f hx hf hops
end Go.Proofs.YtjdkpcibdjhdoaaDoor
