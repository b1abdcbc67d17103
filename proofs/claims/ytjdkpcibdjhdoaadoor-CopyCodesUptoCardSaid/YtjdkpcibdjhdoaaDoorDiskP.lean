/-
  What Rename's closure does, by contract, at the files themselves.
-/
import Derived.Test.YtjdkpcibdjhdoaaDoorDiskO
namespace Go.Proofs.YtjdkpcibdjhdoaaDoor
open Go.RowKit Mem FM

set_option maxRecDepth 100000 in
set_option maxHeartbeats 1000000 in
theorem rename1_any (D b nn cd ct cn : Nat) (F : Nat → Prop) (cs : List (File Spot)) (room ops fuse : Int) (off : Bool) (nm to : ByteArray) (cf : File Spot) (w : World) (hdb : DB w D room (used cs : Nat) b ops fuse off) (hfs : FilesAt w F b nn cs) (hFD : F D) (hu : used cs ≤ 67108864)
    (hs : nm.size ≤ 32) (hs2 : to.size ≤ 32) (hcf : find nm.data.toList cs = some cf) (hne : nm.data.toList ≠ to.data.toList) (hnn : nn < 1099511627776)
    (k1 : w.cell? ⟨cd, 0, none⟩ = some (.pointer (some ⟨D, 0, none⟩))) (k2 : w.cell? ⟨ct, 0, none⟩ = some (.string to)) (k3 : w.cell? ⟨cn, 0, none⟩ = some (.string nm)) (n1 : ¬ F cd) (n2 : ¬ F ct) (n3 : ¬ F cn) :
    Calls Tryd.prog 86 #[.pointer (some ⟨cf.x.g, 0, none⟩), .pointer (some ⟨cd, 0, none⟩), .pointer (some ⟨ct, 0, none⟩), .pointer (some ⟨cn, 0, none⟩)] w (fun e w' => e = .returned (.tuple #[]) ∧
      DB w' D room (used (del to.data.toList cs) : Nat) b ops fuse off ∧ FilesAt w' F b (nn + 1) (ins ⟨to.data.toList, cf.data, cf.sure, cf.x⟩ (del nm.data.toList (del to.data.toList cs))) ∧ Turned F w w') := by
  have HDR := Lib.hid (drop_conc D b nn F cs room ops fuse off to w hdb hfs hFD hu (by omega))
  have HK1 := Lib.hid (keyOf_str nm (by omega)); have HK2 := Lib.hid (keyOf_str to (by omega))
  have HCF := Lib.hid hcf; have HFS := Lib.hid hfs; have HNE := Lib.hid hne
  have hbF : F b := by obtain ⟨_, _, hb, _⟩ := hfs; exact hb
  have HC := Lib.hid (show ∀ (w' : World) (p v), w.cell? ⟨p, 0, none⟩ = some v → ¬ F p → Turned F w w' → w'.cell? ⟨p, 0, none⟩ = some v from fun w' p v hv hp ht => (ht.cell (p := ⟨p, 0, none⟩) (World.block_lt_of_cell? w _ hv) hp).trans hv)
  clear hcf hdb hfs hne
  go_enter Tryd.func86, Tryd.ntmps86
  go_wp2_with fail
  refine HDR.out.mono ?_
  rintro e w1 ⟨rfl, hdb1, hfs1, ht1⟩
  have q1 := HC.out w1 _ _ k1 n1 ht1; have q2 := HC.out w1 _ _ k2 n2 ht1; have q3 := HC.out w1 _ _ k3 n3 ht1
  have q4 := hdb1.c2
  obtain ⟨m1, hm1, -⟩ := id hfs1
  have HDB1 := Lib.hid hdb1; have HFS1 := Lib.hid hfs1; have HT1 := Lib.hid ht1; have HM1 := Lib.hid hm1
  clear hdb1 hfs1 ht1 hm1 HDR
  go_wp2_with fail
  go_still_tail 5, (by kernel_rfl)
  change wpList _ _ _ _ _ w1.drew
  go_wp2_with (at_delete; go_must (refine wpList_delete_own _ rfl _ _ _ _ rfl _ Tryd.keyed Tryd.underlying74 rdPtr b nn m1 rfl (show w1.drew.ownsMap Tryd.prog 9 rdPtr b nn m1 from HM1.out) _ _ rfl HK1.out ?_))
  intro w2 hm2 hturn2
  have ht2 : Turned (· = b) w1 w2 := ((Turned.refl (· = b) w1).drew).grown hturn2.grown fun k hk => .inl (by injection hk with hk; exact hk.symm)
  have hfs2 : FilesAt w2 F b nn (del nm.data.toList (del to.data.toList cs)) := HFS1.out.drop (fun m' hm' => by rw [ownsMap_unique hm' HM1.out]; exact hm2) ht2
  have hdb2 := HDB1.out.turned ht2 (fun e => map_ne_db HDB1.out HM1.out e.symm)
  have hT2 : Turned F w w2 := HT1.out.trans (ht2.more fun k _ e => by rw [e]; exact hbF)
  have r1 := HC.out w2 _ _ k1 n1 hT2; have r2 := HC.out w2 _ _ k2 n2 hT2
  have r4 := hdb2.c2
  have HDB2 := Lib.hid hdb2; have HFS2 := Lib.hid hfs2; have HT2 := Lib.hid ht2; have HM2 := Lib.hid hm2; have HTT2 := Lib.hid hT2
  clear hdb2 hfs2 ht2 hm2 hturn2 hT2 q1 q2 q3 q4
  go_wp2_with fail
  go_still_tail 6, (by kernel_rfl)
  change wpList _ _ _ _ _ w2.drew
  go_wp2_with (at_mapUpdate; go_must (refine wpList_mapUpdate_own _ rfl _ _ _ _ rfl _ _ Tryd.keyed Tryd.underlying74 rdPtr b nn _ rfl (show w2.drew.ownsMap Tryd.prog 9 rdPtr b nn _ from HM2.out) (by simp only [maxLen]; omega) _ _ _ rfl rfl HK2.out _ [] rfl ?_))
  intro w3 hm3 hg3
  have ht3 : Turned (· = b) w2 w3 := ((Turned.refl (· = b) w2).drew).grown hg3 fun k hk => .inl (by injection hk with hk; exact hk.symm)
  have hdb3 := HDB2.out.turned ht3 (fun e => map_ne_db HDB2.out HM2.out e.symm)
  have HDB3 := Lib.hid hdb3; have HT3 := Lib.hid ht3; have HM3 := Lib.hid hm3
  clear hdb3 ht3 hm3 hg3
  go_wp2
  refine bodyPost_end (results_none rfl _ _ _) rfl ?_
  have hcs := HFS.out
  obtain ⟨hcn, hcm⟩ := find_name HCF.out
  obtain ⟨m0, h1, h2, h3, h4, h5, h6⟩ := HFS.out
  have hat := h6 cf hcm
  have hTall : Turned F w w3 := HTT2.out.trans (HT3.out.more fun k _ e => by rw [e]; exact hbF)
  have hcf2 : FileAt w3 F ⟨to.data.toList, cf.data, cf.sure, cf.x⟩ := by
    have hcf1 : find nm.data.toList (del to.data.toList cs) = some cf := by rw [find_del, if_neg HNE.out]; exact HCF.out
    obtain ⟨g1, g2, g3, g4, g5, g6, g7⟩ := HFS1.out.mem hcf1
    have hnb : cf.x.g ≠ b := fun e => map_ne_file (HFS1.out.mem hcf1) HM1.out e.symm
    have hnv : ∀ k, cf.x.v.ownBlock = some k → k ≠ b := fun k hk e => own_ne_map HM1.out g3 (by rw [hk, e])
    have ht13 : Turned (· = b) w1 w3 := HT2.out.trans HT3.out
    exact ⟨(ht13.block _ (heapLt g1) hnb).trans g1, g2, g3.turned ht13 hnv, g4, g5, g6, by simpa using hs2⟩
  refine ⟨rfl, HDB3.out, ?_, hTall⟩
  refine HFS2.out.add (c := ⟨to.data.toList, cf.data, cf.sure, cf.x⟩) ?_ hcf2 ?_ HT3.out (fun _ h => h) ?_
  · show find to.data.toList _ = none
    rw [find_del]
    split
    · rfl
    · rw [find_del, if_pos rfl]
  · intro m' hm'
    rw [ownsMap_unique hm' HM2.out]
    exact HM3.out
  · intro f hf
    have hf1 := (List.mem_filter.1 hf)
    have hf2 := (List.mem_filter.1 hf1.1)
    have hap := apart_of_mem h4 h5 hcm hf2.1 (by rw [hcn]; intro e; have := hf1.2; rw [← e] at this; simp at this)
    exact ⟨hap.1, hap.2⟩
end Go.Proofs.YtjdkpcibdjhdoaaDoor
