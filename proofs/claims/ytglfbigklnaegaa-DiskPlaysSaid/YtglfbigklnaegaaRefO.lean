/-
  What an act keeps of a disk's state: its room, and which names its files have.
-/
import Derived.Test.YtglfbigklnaegaaRefN
namespace Go.Proofs.Ytglfbigklnaegaa
open Go.RowKit Mem FM
set_option linter.unusedVariables false
set_option maxRecDepth 100000

/-- from s to s': the room is the same, at most one operation, and a file has a name that was there, or one of Q -/
def Goes (Q : List UInt8 → Prop) (s s' : St) : Prop := s'.room = s.room ∧ s'.ops ≤ s.ops + 1 ∧ ∀ f ∈ s'.files, (∃ g ∈ s.files, g.name = f.name) ∨ Q f.name

section
variable {Q : List UInt8 → Prop} {s : St} {fs : List (File Unit)}
theorem Goes.same (Q : List UInt8 → Prop) (s : St) : Goes Q s s := ⟨rfl, by omega, fun f hf => .inl ⟨f, hf, rfl⟩⟩
theorem Goes.op (h : ∀ f ∈ fs, (∃ g ∈ s.files, g.name = f.name) ∨ Q f.name) : Goes Q s (s.op fs) := ⟨rfl, Nat.le_refl _, h⟩
theorem names_set {n : List UInt8} {f0 : File Unit} (hf : find n fs = some f0) (d : List UInt8) (k : Nat) : ∀ f ∈ set n (fun _ => ⟨f0.name, d, k, ()⟩) fs, ∃ g ∈ fs, g.name = f.name := by
  intro f h
  obtain ⟨g, hg, rfl⟩ := List.mem_map.1 h
  refine ⟨g, hg, ?_⟩
  split
  · rename_i e; rw [e]; exact (find_name hf).1.symm
  · rfl
theorem names_grow (n l : List UInt8) (fs : List (File Unit)) : ∀ f ∈ grow n l fs, (∃ g ∈ fs, g.name = f.name) ∨ f.name = n := by
  intro f h
  unfold grow at h
  split at h
  · rename_i f0 hf
    exact .inl (names_set hf _ _ f h)
  · rcases mem_ins.1 h with rfl | h
    · exact .inr rfl
    · exact .inl ⟨f, h, rfl⟩
theorem names_restart (ks : List Int) (fs : List (File Unit)) : ∀ f ∈ restartFs ks fs, ∃ g ∈ fs, g.name = f.name := by
  intro f h
  unfold restartFs at h
  obtain ⟨i, hi, rfl⟩ := List.mem_mapIdx.1 h
  exact ⟨fs[i], List.getElem_mem hi, rfl⟩
end

/-- the act's own names, where they can be a file's -/
def OwnName (a : ActD) (n : List UInt8) : Prop := (n = a.name.data.toList ∧ nameOk a.name = true) ∨ (n = a.to.data.toList ∧ nameOk a.to = true)
theorem wrote_goes (s : St) (nm : ByteArray) (l : List UInt8) (Q : List UInt8 → Prop) (hQ : Q nm.data.toList) : Goes Q s (wrote s nm.data.toList l).2 := by
  unfold wrote
  split
  · exact Goes.same _ _
  · exact Goes.op (fun f hf => (names_grow _ _ _ f hf).imp id (fun e => by rw [e]; exact hQ))
theorem ready1_named {nm : ByteArray} {off : Bool} (h : ready1 nm off = 0) : nameOk nm = true := by
  unfold ready1 at h
  split at h
  · assumption
  · cases h
theorem stepD_goes (s : St) (a : ActD) : Goes (OwnName a) s (stepD s a) := by
  unfold stepD
  split
  · unfold appended
    split
    · rename_i h; exact wrote_goes s a.name a.l _ (.inl ⟨rfl, ready1_named h⟩)
    · exact Goes.same _ _
  · unfold putR
    split
    · rename_i h
      unfold putNew
      split
      · exact Goes.same _ _
      · exact wrote_goes s a.name a.l _ (.inl ⟨rfl, ready1_named h⟩)
    · exact Goes.same _ _
  · unfold synced
    split
    · unfold withSync
      split
      · exact Goes.same _ _
      · rename_i f hf
        split
        · exact Goes.op (fun f hf => .inl ⟨f, hf, rfl⟩)
        · exact Goes.op (fun g hg => .inl (names_set hf _ _ g hg))
    · exact Goes.same _ _
  · unfold removed
    split
    · unfold withDel
      split
      · exact Goes.same _ _
      · split
        · exact Goes.op (fun f hf => .inl ⟨f, hf, rfl⟩)
        · exact Goes.op (fun f hf => .inl ⟨f, (List.mem_filter.1 hf).1, rfl⟩)
    · exact Goes.same _ _
  · unfold renamed
    split
    · rename_i h
      split
      · exact Goes.same _ _
      · split
        · exact Goes.same _ _
        · unfold withRen
          split
          · exact Goes.same _ _
          · split
            · exact Goes.op (fun f hf => .inl ⟨f, hf, rfl⟩)
            · refine Goes.op (fun f hf => ?_)
              unfold renameF at hf
              rcases mem_ins.1 hf with rfl | hf
              · exact .inr (.inr ⟨rfl, (ready2_ok h).2.1⟩)
              · exact .inl ⟨f, (List.mem_filter.1 (List.mem_filter.1 hf).1).1, rfl⟩
    · exact Goes.same _ _
  · exact Goes.same _ _
  · split
    · exact Goes.same _ _
    · exact ⟨rfl, by simp, fun f hf => .inl ⟨f, hf, rfl⟩⟩
  · exact ⟨rfl, by simp [restarted], fun f hf => .inl (names_restart _ _ f hf)⟩

/-- every file's name can be one -/
def Named (s : St) : Prop := ∀ f ∈ s.files, nameOk ⟨f.name.toArray⟩ = true
theorem bytes_back (nm : ByteArray) : (⟨nm.data.toList.toArray⟩ : ByteArray) = nm := by
  obtain ⟨⟨l⟩⟩ := nm
  rfl
theorem Named.step {s : St} (h : Named s) (a : ActD) : Named (stepD s a) := by
  intro f hf
  rcases (stepD_goes s a).2.2 f hf with ⟨g, hg, e⟩ | ⟨e, ho⟩ | ⟨e, ho⟩
  · rw [← e]; exact h g hg
  · rw [e, bytes_back]; exact ho
  · rw [e, bytes_back]; exact ho
/-- no file has that name -/
def Free (n : List UInt8) (s : St) : Prop := ∀ f ∈ s.files, f.name ≠ n
theorem Free.step {n : List UInt8} {s : St} (h : Free n s) (a : ActD) (h1 : a.name.data.toList ≠ n) (h2 : a.to.data.toList ≠ n) : Free n (stepD s a) := by
  intro f hf
  rcases (stepD_goes s a).2.2 f hf with ⟨g, hg, e⟩ | ⟨e, ho⟩ | ⟨e, ho⟩
  · rw [← e]; exact h g hg
  · rw [e]; exact h1
  · rw [e]; exact h2
theorem read_named {s : St} (h : Named s) (hr : Rise s.files) {i : Nat} (hi : i < s.files.length) : readR s ⟨s.files[i].name.toArray⟩ = if s.off then ([], 10) else (s.files[i].data, 0) := by
  have hok := h _ (List.getElem_mem hi)
  have hf : find (⟨s.files[i].name.toArray⟩ : ByteArray).data.toList s.files = some s.files[i] := find_of_mem hr (List.getElem_mem hi)
  unfold readR ready1
  rw [if_pos hok, hf]
  cases s.off <;> rfl
theorem sure_named {s : St} (hr : Rise s.files) {i : Nat} (hi : i < s.files.length) : ((find (⟨s.files[i].name.toArray⟩ : ByteArray).data.toList s.files).map fun f => (f.sure : Int)).getD 0 = (s.files[i].sure : Int) := by
  have hf : find (⟨s.files[i].name.toArray⟩ : ByteArray).data.toList s.files = some s.files[i] := find_of_mem hr (List.getElem_mem hi)
  rw [hf]; rfl
end Go.Proofs.Ytglfbigklnaegaa
