/-
  What Restart does, by contract.
-/
import Derived.Test.YtjdkpcibdjhdoaaDoorDiskI
import Derived.Deep.RegionWith
namespace Go.Proofs.YtjdkpcibdjhdoaaDoor
open Go.RowKit Mem FM Go.Maps Go.Sort Go.Shelf

def lostF (k : Int) (f : File Unit) : File Unit := ⟨f.name, f.data.take (left f.data.length f.sure k), left f.data.length f.sure k, ()⟩
def restartFs (ks : List Int) (fs : List (File Unit)) : List (File Unit) := fs.mapIdx fun j f => lostF (ks[j]?.getD 0) f
def mid (ks : List Int) (fs : List (File Unit)) (i : Nat) : List (File Unit) := restartFs ks (fs.take i) ++ fs.drop i
def St.with_ (s : St) (fs : List (File Unit)) : St := ⟨s.room, fs, s.ops, s.fuse, s.off⟩
def restarted (s : St) (ks : List Int) : St := ⟨s.room, restartFs ks s.files, s.ops, 0, false⟩

theorem mid_zero (ks : List Int) (fs : List (File Unit)) : mid ks fs 0 = fs := by simp [mid, restartFs]
theorem mid_end (ks : List Int) (fs : List (File Unit)) {i : Nat} (h : fs.length ≤ i) : mid ks fs i = restartFs ks fs := by
  simp [mid, List.take_of_length_le h, List.drop_eq_nil_of_le h]
theorem mid_at (ks : List Int) {fs : List (File Unit)} {i : Nat} (h : i < fs.length) : mid ks fs i = restartFs ks (fs.take i) ++ fs[i] :: fs.drop (i + 1) := by
  unfold mid; rw [List.drop_eq_getElem_cons h]
theorem mid_succ (ks : List Int) {fs : List (File Unit)} {i : Nat} (h : i < fs.length) : mid ks fs (i + 1) = restartFs ks (fs.take i) ++ lostF (ks[i]?.getD 0) fs[i] :: fs.drop (i + 1) := by
  unfold mid
  rw [List.take_succ_eq_append_getElem h]
  unfold restartFs
  rw [List.mapIdx_concat]
  simp [List.length_take, Nat.min_eq_left (Nat.le_of_lt h)]
theorem set_at {a r : List (File Unit)} {f f' : File Unit} (h : Rise (a ++ f :: r)) : set f.name (fun _ => f') (a ++ f :: r) = a ++ f' :: r := by
  obtain ⟨h1, h2, h3⟩ := List.pairwise_append.1 h
  obtain ⟨h4, h5⟩ := List.pairwise_cons.1 h2
  have hset : ∀ l : List (File Unit), (∀ g ∈ l, g.name ≠ f.name) → set f.name (fun _ => f') l = l := fun l hl =>
    (List.map_congr_left fun g hg => if_neg (hl g hg)).trans (List.map_id l)
  have e1 : set f.name (fun _ => f') (a ++ f :: r) = set f.name (fun _ => f') a ++ set f.name (fun _ => f') (f :: r) := List.map_append
  have e2 : set f.name (fun _ => f') (f :: r) = f' :: set f.name (fun _ => f') r := by unfold FM.set; rw [List.map_cons, if_pos rfl]
  rw [e1, e2, hset a (fun g hg e => by have := h3 g hg f (by simp); rw [e] at this; exact FM.lt_irrefl _ this), hset r (fun g hg e => by have := h4 g hg; rw [e] at this; exact FM.lt_irrefl _ this)]
theorem DiskAt.rise {w : World} {F : Nat → Prop} {D : Nat} {s : St} (h : DiskAt w F D s) : Rise s.files := by
  obtain ⟨b, nn, cs, _, _, hfs, _, hcs, _⟩ := h
  rw [← hcs]
  unfold bare
  exact List.pairwise_map.2 hfs.rise

theorem ownsRow_read {w : World} {base n : Nat} {e : TypeId} {v : Value} {xs : List Value} (h : w.ownsRow base e 1 v n xs) :
    ∃ A c, v = .slice A n c ∧ n ≤ c ∧ c ≤ 9223372036854775807 ∧ (0 < n → ∃ b, A = some ⟨b, 0, none⟩ ∧ base ≤ b ∧ b < w.heap.size ∧ ∀ j, j < n → w.cell? ⟨b, j, none⟩ = xs[j]?) := by
  have hx := h
  rcases h.2 with ⟨rfl, h0⟩ | ⟨g, cap, cur, rfl, hg, hh, hnc, hcm, hsz, htk⟩
  · exact ⟨none, 0, by rw [h0], by omega, by omega, fun hp => by omega⟩
  · refine ⟨_, cap, rfl, hnc, by simpa only [maxLen] using hcm, fun _ => ⟨g, rfl, hg, heapLt hh, fun j hj => ?_⟩⟩
    rw [cellAt j hh, ← htk, List.getElem?_take, if_pos (by omega)]
    simp

/-- one file has lost what it loses -/
theorem FilesAt.lost {w w' : World} {F : Nat → Prop} {b nn : Nat} {cs : List (File Spot)} {cf : File Spot} {k : Int} {A : Option Addr} {c : Nat}
    (hfs : FilesAt w F b nn cs) (hcf : find cf.name cs = some cf) (hv : cf.x.v = .slice A cf.data.length c)
    (hh : w'.heap[cf.x.g]? = some (.cells #[.slice A (left cf.data.length cf.sure k) c, .int .i64 (left cf.data.length cf.sure k : Nat)] 126 (0, 0))) (ht : Turned (· = cf.x.g) w w') :
    FilesAt w' F b nn (set cf.name (fun _ => ⟨cf.name, cf.data.take (left cf.data.length cf.sure k), left cf.data.length cf.sure k, ⟨cf.x.g, .slice A (left cf.data.length cf.sure k) c⟩⟩) cs) := by
  have hat := hfs.mem hcf
  obtain ⟨g1, g2, g3, g4, g5, g6, g7⟩ := hat
  obtain ⟨l1, l2⟩ := left_le (keep := k) g5
  have hob : ∀ m : Nat, (Value.slice A m c).ownBlock = cf.x.v.ownBlock := fun m => by rw [hv]; cases A <;> rfl
  refine hfs.change hcf rfl rfl ⟨hh, g2, ?_, fun k hk => g4 k (by rw [← hob]; exact hk), by simp; omega, by simp; omega, g7⟩ (ht.more fun k _ e => .inl e) (fun _ h => h) (fun k hk => .inl (by rw [← hob]; exact hk))
  have h3 := g3.turned ht (fun k hk e => own_ne_file (hfs.mem hcf) g3 (by rw [hk, e]))
  rw [hv] at h3
  exact h3.cut l2

end Go.Proofs.YtjdkpcibdjhdoaaDoor
