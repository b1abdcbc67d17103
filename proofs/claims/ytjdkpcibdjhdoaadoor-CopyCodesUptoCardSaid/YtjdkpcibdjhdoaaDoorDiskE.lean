/-
  What a change of one file, a new file and the loss of one do to 'FilesAt'; what the map answers.
-/
import Derived.Test.YtjdkpcibdjhdoaaDoorDiskD
namespace Go.Proofs.YtjdkpcibdjhdoaaDoor
open Go.RowKit Mem FM

theorem Tryd.keyed : Maps.Keyed Tryd.prog 9 := Maps.string_keyed Tryd.underlying9
theorem Tryd.zeroPtr (w : World) : (zeroValue 123).run Tryd.prog w = .ok (.pointer none) w := by
  have h : (Tryd.prog.info? 123).map (fun i => i.zero) = some (some (.pointer none)) := by kernel_rfl
  cases hi : Tryd.prog.info? 123 with
  | none => rw [hi] at h; cases h
  | some i =>
    rw [hi] at h
    simp only [Option.map_some, Option.some.injEq] at h
    simp [zeroValue, typeInfo, hi, h]
theorem keyOf_str (s : ByteArray) (hs : s.size ≤ 9223372036854775807) : keyOf Tryd.prog 9 (.string s) = some (.string s.data.toList) :=
  WideMaps.keyOf_string_mk Tryd.underlying9 (by simpa only [maxLen] using hs)

section
variable {w w' : World} {F F' : Nat → Prop} {b nn : Nat} {cs : List (File Spot)} {n : List UInt8} {c c' : File Spot}
theorem FilesAt.look (h : FilesAt w F b nn cs) (s : ByteArray) (hs : s.size ≤ 9223372036854775807) :
    (Instr.lookup 74 (.map (some b)) (.string s) false).run Tryd.prog w = .ok (match find s.data.toList cs with | some c => .pointer (some ⟨c.x.g, 0, none⟩) | none => .pointer none) w := by
  obtain ⟨m, h1, _, h3, _⟩ := h
  obtain ⟨v, ps, hrun, hv⟩ := h1.lookup Tryd.keyed Tryd.underlying74 (Tryd.zeroPtr w) (zd := .nil) (zp := []) rfl (keyOf_str s hs)
  rw [hrun]
  rw [h3] at hv
  cases hf : find s.data.toList cs with
  | none => rw [hf] at hv; rw [rdPtr_nil hv]
  | some c => rw [hf] at hv; rw [rdPtr_at hv]

theorem mem_set {l : List (File Spot)} {n : List UInt8} {hh : File Spot → File Spot} {f : File Spot} (hf : f ∈ set n hh l) : ∃ f0 ∈ l, f = if f0.name = n then hh f0 else f0 := by
  obtain ⟨f0, h1, h2⟩ := List.mem_map.1 hf
  exact ⟨f0, h1, h2.symm⟩
theorem apart_of_mem {l : List (File Spot)} (hr : Rise l) (hp : l.Pairwise Apart) {x y : File Spot} (hx : x ∈ l) (hy : y ∈ l) (hne : x.name ≠ y.name) : Apart x y := by
  induction l with
  | nil => cases hx
  | cons a r ih =>
    obtain ⟨h1, h2⟩ := List.pairwise_cons.1 hp
    rcases List.mem_cons.1 hx with rfl | hx'
    · rcases List.mem_cons.1 hy with rfl | hy
      · exact absurd rfl hne
      · exact h1 y hy
    · rcases List.mem_cons.1 hy with rfl | hy
      · obtain ⟨g1, g2⟩ := h1 x hx'
        exact ⟨Ne.symm g1, fun k hk he => g2 k he hk⟩
      · exact ih hr.tail h2 hx' hy

/-- a file has changed, and nothing else of the disk -/
theorem FilesAt.change (h : FilesAt w F b nn cs) (hc : find n cs = some c) (hn : c'.name = c.name) (hg : c'.x.g = c.x.g) (h' : FileAt w' F' c') (ht : Turned (fun k => k = c.x.g ∨ c.x.v.ownBlock = some k) w w')
    (hF : ∀ k, F k → F' k) (hnew : ∀ k, c'.x.v.ownBlock = some k → c.x.v.ownBlock = some k ∨ w.heap.size ≤ k) : FilesAt w' F' b nn (set n (fun _ => c') cs) := by
  obtain ⟨m, h1, h2, h3, h4, h5, h6⟩ := h
  obtain ⟨hcn, hcm⟩ := find_name hc
  have hcat := h6 c hcm
  have hset : ∀ f ∈ cs, f.name = n → f = c := fun f hf e => by
    have := find_of_mem h4 hf
    rw [e, hc] at this
    exact (Option.some.inj this).symm
  have hk : set n (fun _ => c') cs = set n (fun f => if f.name = n then c' else f) cs := by
    unfold FM.set
    refine List.map_congr_left fun f _ => ?_
    by_cases e : f.name = n
    · rw [if_pos e, if_pos e]; exact (if_pos e).symm
    · rw [if_neg e, if_neg e]
  have hkn : ∀ f : File Spot, (if f.name = n then c' else f).name = f.name := fun f => by
    split
    · rename_i e; rw [hn, hcn, e]
    · rfl
  refine ⟨m, ownsMap_turned h1 ht ?_, hF _ h2, ?_, ?_, ?_, ?_⟩
  · rintro (e | e)
    · exact map_ne_file hcat h1 e
    · exact own_ne_map h1 hcat.2.2.1 e
  · intro n' z
    rw [h3 n' z, hk, find_set hkn]
    cases hf : find n' cs with
    | none => rfl
    | some f =>
      simp only [Option.map_some, Option.getD_some]
      obtain ⟨e1, e2⟩ := find_name hf
      by_cases e : f.name = n
      · rw [if_pos e, if_pos e, hset f e2 e, hg]
      · rw [if_neg e]
  · rw [hk]; exact h4.set hkn
  · unfold FM.set
    refine List.pairwise_map.2 (List.Pairwise.imp_of_mem (fun {x y} hx hy hxy => ?_) (List.Pairwise.and h4 h5))
    obtain ⟨hlt, hap⟩ := hxy
    have old : ∀ f ∈ cs, ∀ k, f.x.v.ownBlock = some k → k < w.heap.size := fun f hf k hk => by
      have := (h6 f hf).2.2.1.lt k hk
      exact this.2
    by_cases ex : x.name = n
    · have ey : y.name ≠ n := fun e => FM.lt_irrefl n (by rw [ex, e] at hlt; exact hlt)
      rw [if_pos ex, if_neg ey]
      have := hset x hx ex; subst this
      refine ⟨by rw [hg]; exact hap.1, fun k hk he => ?_⟩
      rcases hnew k hk with h1 | h1
      · exact hap.2 k h1 he
      · have := old y hy k he; omega
    · rw [if_neg ex]
      by_cases ey : y.name = n
      · rw [if_pos ey]
        have := hset y hy ey; subst this
        refine ⟨by rw [hg]; exact hap.1, fun k hk he => ?_⟩
        rcases hnew k he with h1 | h1
        · exact hap.2 k hk h1
        · have := old x hx k hk; omega
      · rw [if_neg ey]; exact hap
  · intro f hf
    obtain ⟨f0, hf0, rfl⟩ := mem_set hf
    by_cases e : f0.name = n
    · rw [if_pos e]; exact h'
    · rw [if_neg e]
      have hap := apart_of_mem h4 h5 hcm hf0 (by rw [hcn]; exact fun h => e h.symm)
      obtain ⟨g1, g2, g3, g4, g5⟩ := h6 f0 hf0
      refine ⟨(ht.block _ (heapLt g1) ?_).trans g1, hF _ g2, g3.turned ht fun k hk => ?_, fun k hk => hF k (g4 k hk), g5⟩
      · rintro (h | h)
        · exact hap.1 h.symm
        · exact own_ne_file (h6 f0 hf0) hcat.2.2.1 h
      · rintro (h | h)
        · rw [h] at hk; exact own_ne_file hcat g3 hk
        · exact hap.2 k h hk

/-- a new file -/
theorem FilesAt.add (h : FilesAt w F b nn cs) (hc : find c.name cs = none) (h' : FileAt w' F' c)
    (hm : ∀ m, w.ownsMap Tryd.prog 9 rdPtr b nn m → w'.ownsMap Tryd.prog 9 rdPtr b (nn + 1) (m.put (.string c.name) (.lit (.int .i64 (c.x.g : Int)))))
    (ht : Turned (· = b) w w') (hF : ∀ k, F k → F' k) (hg : ∀ f ∈ cs, Apart c f) : FilesAt w' F' b (nn + 1) (ins c cs) := by
  obtain ⟨m, h1, h2, h3, h4, h5, h6⟩ := h
  refine ⟨_, hm m h1, hF _ h2, h3.put h1.isMap hc, h4.ins hc, ?_, ?_⟩
  · have hs : ∀ x y : File Spot, Apart x y → Apart y x := fun x y hxy => ⟨Ne.symm hxy.1, fun k hk he => hxy.2 k he hk⟩
    clear h' hm ht h3 h6 h4 hc
    induction cs with
    | nil => simp [ins]
    | cons a r ih =>
      obtain ⟨g1, g2⟩ := List.pairwise_cons.1 h5
      unfold ins
      split
      · refine List.pairwise_cons.2 ⟨fun y hy => hg y hy, h5⟩
      · refine List.pairwise_cons.2 ⟨fun y hy => ?_, ih (fun f hf => hg f (List.mem_cons_of_mem _ hf)) g2⟩
        rcases mem_ins.1 hy with rfl | hy
        · exact hs _ _ (hg a (by simp))
        · exact g1 y hy
  · intro f hf
    rcases mem_ins.1 hf with rfl | hf
    · exact h'
    · obtain ⟨g1, g2, g3, g4, g5⟩ := h6 f hf
      refine ⟨(ht.block _ (heapLt g1) ?_).trans g1, hF _ g2, g3.turned ht fun k hk e => ?_, fun k hk => hF k (g4 k hk), g5⟩
      · exact fun e => map_ne_file (h6 f hf) h1 e.symm
      · rw [e] at hk; exact own_ne_map h1 g3 hk

/-- a file is gone from the map -/
theorem FilesAt.drop (h : FilesAt w F b nn cs) (hm : ∀ m, w.ownsMap Tryd.prog 9 rdPtr b nn m → w'.ownsMap Tryd.prog 9 rdPtr b nn (m.del (.string n))) (ht : Turned (· = b) w w') : FilesAt w' F b nn (del n cs) := by
  obtain ⟨m, h1, h2, h3, h4, h5, h6⟩ := h
  refine ⟨_, hm m h1, h2, h3.del n, h4.del, h5.filter _, fun f hf => ?_⟩
  have hf := (List.mem_filter.1 hf).1
  obtain ⟨g1, g2, g3, g4, g5⟩ := h6 f hf
  refine ⟨(ht.block _ (heapLt g1) ?_).trans g1, g2, g3.turned ht fun k hk e => ?_, g4, g5⟩
  · exact fun e => map_ne_file (h6 f hf) h1 e.symm
  · rw [e] at hk; exact own_ne_map h1 g3 hk
end
end Go.Proofs.YtjdkpcibdjhdoaaDoor
