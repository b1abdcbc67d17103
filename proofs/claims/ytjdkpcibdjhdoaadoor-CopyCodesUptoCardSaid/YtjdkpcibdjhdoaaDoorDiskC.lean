/-
  What a disk is in memory ('DiskAt'): its block, its map, its files.
-/
import Derived.Test.YtjdkpcibdjhdoaaDoorDiskB
import Derived.Test.YtjdkpcibdjhdoaaDoorDiskMath
import Derived.Sort.KeysCollected
namespace Go.Proofs.YtjdkpcibdjhdoaaDoor
open Go.RowKit Mem FM

/-- where a file lies: its struct's block, its slice -/
structure Spot where
  g : Nat
  v : Value

/-- how a pointer to a file is read -/
def rdPtr : Value → Option (DataW Unit × List MemPlace)
  | .pointer none => some (.nil, [])
  | .pointer (some ⟨g, 0, none⟩) => some (.lit (.int .i64 (g : Int)), [])
  | _ => none
theorem rdPtr_nil {v : Value} {ps : List MemPlace} (h : rdPtr v = some (.nil, ps)) : v = .pointer none := by
  unfold rdPtr at h
  split at h
  · rfl
  · cases h
  · cases h
theorem rdPtr_at {v : Value} {g : Nat} {ps : List MemPlace} (h : rdPtr v = some (.lit (.int .i64 (g : Int)), ps)) : v = .pointer (some ⟨g, 0, none⟩) := by
  unfold rdPtr at h
  split at h
  · cases h
  · rename_i g'
    simp only [Option.some.injEq, Prod.mk.injEq, DataW.lit.injEq, Lit.int.injEq, true_and] at h
    have : g' = g := by have := h.1; omega
    rw [this]
  · cases h

/-- the map's datum m says where the files cs lie -/
def MapOf (m : DataW Unit) (cs : List (File Spot)) : Prop := ∀ n z, m.atKey (.string n) z = ((find n cs).map fun c => DataW.lit (.int .i64 (c.x.g : Int))).getD z

def FileAt (w : World) (F : Nat → Prop) (c : File Spot) : Prop :=
  w.heap[c.x.g]? = some (.cells #[c.x.v, .int .i64 (c.sure : Int)] 126 (0, 0)) ∧ F c.x.g ∧ Own w 0 5 c.x.v c.data ∧ (∀ k, c.x.v.ownBlock = some k → F k) ∧ c.sure ≤ c.data.length ∧ c.data.length ≤ 67108864 ∧ c.name.length ≤ 32

def Apart (a b : File Spot) : Prop := a.x.g ≠ b.x.g ∧ ∀ k, a.x.v.ownBlock = some k → b.x.v.ownBlock ≠ some k

/-- a disk's state -/
structure St where
  room : Nat
  files : List (File Unit)
  ops : Nat
  fuse : Nat
  off : Bool

def FilesAt (w : World) (F : Nat → Prop) (b nn : Nat) (cs : List (File Spot)) : Prop :=
  ∃ m, w.ownsMap Tryd.prog 9 rdPtr b nn m ∧ F b ∧ MapOf m cs ∧ Rise cs ∧ cs.Pairwise Apart ∧ ∀ c ∈ cs, FileAt w F c

/-- block D is a disk of the state s; all its blocks are of F -/
def DiskAt (w : World) (F : Nat → Prop) (D : Nat) (s : St) : Prop :=
  ∃ b nn cs, DB w D s.room (used s.files) b s.ops s.fuse s.off ∧ F D ∧ FilesAt w F b nn cs ∧ nn ≤ s.ops ∧ bare cs = s.files ∧ used s.files ≤ s.room ∧ s.room ≤ 67108864 ∧ s.fuse ≤ 9223372036854775807 ∧ s.ops < 1099511627776 ∧ ∀ k, F k → k < w.heap.size

section
variable {w w' : World} {F F' G : Nat → Prop} {b nn D : Nat} {cs : List (File Spot)} {s : St}
theorem FileAt.turned {c : File Spot} (h : FileAt w F c) (ht : Turned G w w') (hd : ∀ k, F k → ¬ G k) (hF : ∀ k, F k → F' k) : FileAt w' F' c := by
  obtain ⟨h1, h2, h3, h4, h5⟩ := h
  exact ⟨(ht.block _ (heapLt h1) (hd _ h2)).trans h1, hF _ h2, h3.turned ht (fun k hk => hd k (h4 k hk)), fun k hk => hF k (h4 k hk), h5⟩
theorem ownsMap_turned {m : DataW Unit} (h : w.ownsMap Tryd.prog 9 rdPtr b nn m) (ht : Turned G w w') (hb : ¬ G b) : w'.ownsMap Tryd.prog 9 rdPtr b nn m := by
  have hlt := h.lt
  obtain ⟨es, clock, hh, r⟩ := h
  exact ⟨es, clock, (ht.block b hlt hb).trans hh, r⟩
/-- what lies apart turns nothing -/
theorem DiskAt.far (h : DiskAt w F D s) (ht : Turned G w w') (hd : ∀ k, F k → ¬ G k) : DiskAt w' F D s := by
  obtain ⟨b, nn, cs, h1, h2, ⟨m, h3, h4, h5, h6, h7, h8⟩, h9, h10, h11, h12, h13, h14, h15⟩ := h
  exact ⟨b, nn, cs, (ht.block D (heapLt h1) (hd D h2)).trans h1, h2, ⟨m, ownsMap_turned h3 ht (hd b h4), h4, h5, h6, h7, fun c hc => (h8 c hc).turned ht hd (fun _ h => h)⟩, h9, h10, h11, h12, h13, h14, fun k hk => Nat.lt_of_lt_of_le (h15 k hk) ht.size⟩
theorem DiskAt.drew (h : DiskAt w F D s) : DiskAt w.drew F D s := h
theorem DiskAt.drewN (h : DiskAt w F D s) (n : Nat) : DiskAt (w.drewN n) F D s := h

/-- blocks of other kinds are other blocks -/
theorem db_ne_file {room used ops fuse : Int} {off : Bool} {c : File Spot} (h : DB w D room used b ops fuse off) (hc : FileAt w F c) : c.x.g ≠ D := by
  intro e
  have h1 := hc.1
  rw [e] at h1
  have := h.symm.trans h1
  simp at this
theorem map_ne_db {room used ops fuse : Int} {off : Bool} {m : DataW Unit} {bb : Nat} (h : DB w D room used bb ops fuse off) (hm : w.ownsMap Tryd.prog 9 rdPtr b nn m) : b ≠ D := by
  intro e
  obtain ⟨es, clock, hh, _⟩ := hm
  rw [e] at hh
  have := h.symm.trans hh
  simp at this
theorem map_ne_file {m : DataW Unit} {c : File Spot} (hc : FileAt w F c) (hm : w.ownsMap Tryd.prog 9 rdPtr b nn m) : b ≠ c.x.g := by
  intro e
  obtain ⟨es, clock, hh, _⟩ := hm
  have h1 := hc.1
  rw [← e] at h1
  have := hh.symm.trans h1
  simp at this
theorem own_heap {v : Value} {l : List UInt8} {k : Nat} {e : TypeId} (h : Own w 0 e v l) (hk : v.ownBlock = some k) : ∃ cur, w.heap[k]? = some (.cells cur e (0, 0)) := by
  rcases h.2 with ⟨rfl, _⟩ | ⟨g, cap, cur, rfl, _, hh, _⟩
  · cases hk
  · simp only [Value.ownBlock, Option.some.injEq] at hk
    subst hk
    exact ⟨cur, hh⟩
theorem own_ne_db {room used ops fuse : Int} {off : Bool} {v : Value} {l : List UInt8} (h : DB w D room used b ops fuse off) (ho : Own w 0 5 v l) : v.ownBlock ≠ some D := by
  intro hk
  obtain ⟨cur, hh⟩ := own_heap ho hk
  have := h.symm.trans hh
  simp at this
theorem own_ne_map {m : DataW Unit} {v : Value} {l : List UInt8} (hm : w.ownsMap Tryd.prog 9 rdPtr b nn m) (ho : Own w 0 5 v l) : v.ownBlock ≠ some b := by
  intro hk
  obtain ⟨cur, hh⟩ := own_heap ho hk
  obtain ⟨es, clock, h2, _⟩ := hm
  have := h2.symm.trans hh
  simp at this
theorem own_ne_file {c : File Spot} {v : Value} {l : List UInt8} (hc : FileAt w F c) (ho : Own w 0 5 v l) : v.ownBlock ≠ some c.x.g := by
  intro hk
  obtain ⟨cur, hh⟩ := own_heap ho hk
  have := hc.1.symm.trans hh
  simp at this
end

section
variable {m : DataW Unit} {cs : List (File Spot)}
theorem MapOf.empty : MapOf (.map []) [] := fun _ _ => rfl
theorem MapOf.put (h : MapOf m cs) (hm : Maps.IsMap m) {c : File Spot} (hn : find c.name cs = none) : MapOf (m.put (.string c.name) (.lit (.int .i64 (c.x.g : Int)))) (ins c cs) := by
  intro n z
  rw [find_ins hn]
  by_cases e : c.name = n
  · subst e
    rw [if_pos rfl, Maps.atKey_put_same hm (show WideAt.IsKeyLit (.string c.name) from trivial)]; rfl
  · rw [if_neg e, Maps.atKey_put_other (by intro h2; injection h2 with h2; exact e h2.symm), h n z]
theorem MapOf.del (h : MapOf m cs) (n0 : List UInt8) : MapOf (m.del (.string n0)) (FM.del n0 cs) := by
  intro n z
  rw [find_del]
  by_cases e : n = n0
  · subst e
    rw [if_pos rfl, Maps.atKey_del_same]; rfl
  · rw [if_neg e, Maps.atKey_del_other (by intro h2; injection h2 with h2; exact e h2), h n z]
theorem MapOf.set (h : MapOf m cs) (n0 : List UInt8) {hh : File Spot → File Spot} (hk : ∀ f, (hh f).name = f.name) (hg : ∀ f, (hh f).x.g = f.x.g) : MapOf m (FM.set n0 hh cs) := by
  intro n z
  rw [find_set hk, h n z]
  cases find n cs with
  | none => rfl
  | some f =>
    simp only [Option.map_some, Option.getD_some]
    split
    · rw [hg]
    · rfl
end
end Go.Proofs.YtjdkpcibdjhdoaaDoor
