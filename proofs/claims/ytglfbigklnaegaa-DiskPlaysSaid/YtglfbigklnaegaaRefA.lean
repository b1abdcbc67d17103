/-
  The document's own disk in memory ('RefAt'), and what its At, Used, op and there do, by contracts.
-/
import Derived.Test.YtglfbigklnaegaaDiskR
import Derived.Deep.AppendLies
import Derived.Great.BuildSlice
import Derived.BigQuiet
import Derived.Deep.QuietTactic
import Derived.Deep.RegionHeld3
import Derived.Sort.Walk0
namespace Go.Proofs.Ytglfbigklnaegaa
open Go.RowKit Mem FM
set_option linter.unusedVariables false
set_option maxRecDepth 100000
variable {K : Nat → Prop}

/-- where a file's bytes lie -/
structure Sl where
  A : Option Addr
  c : Nat
/-- bytes that can be read as long as nothing is turned but F -/
def Steady (K F : Nat → Prop) (w : World) (A : Option Addr) (n c : Nat) (l : List UInt8) : Prop := ∀ w', Turned (fun k => F k ∨ K k) w w' → Rd w' w'.heap.size A n c l
/-- .. as long as F alone has turned -/
theorem Steady.at_ {K F : Nat → Prop} {w w' : World} {A : Option Addr} {n c : Nat} {l : List UInt8} (h : Steady K F w A n c l) (ht : Turned F w w') : Rd w' w'.heap.size A n c l := h w' (ht.more (fun _ _ hk => .inl hk))
theorem Steady.other {K K' F : Nat → Prop} {w w' : World} {A : Option Addr} {n c : Nat} {l : List UInt8} (h : Steady K F w A n c l) (ht : Turned K w w') (hs : Spread K K' w) : Steady K' F w' A n c l := fun w2 h2 => h w2 ((ht.more (fun _ _ hk => .inr hk)).trans' (F' := fun k => F k ∨ K' k) (fun k hk => hk.elim (fun h => .inl (.inl h)) (fun h => (hs k h).imp .inr id)) h2)
theorem Steady.step {K F F' : Nat → Prop} {w w' : World} {A : Option Addr} {n c : Nat} {l : List UInt8} (h : Steady K F w A n c l) (ht : Turned F w w') (hs : Spread F F' w) : Steady K F' w' A n c l := fun w2 h2 => h w2 ((ht.more (fun _ _ hk => .inl hk)).trans' (F' := fun k => F' k ∨ K k) (fun k hk => hk.elim (fun h => (hs k h).imp .inl id) (fun h => .inl (.inr h))) h2)
theorem Steady.rd {K F : Nat → Prop} {w : World} {A : Option Addr} {n c : Nat} {l : List UInt8} (h : Steady K F w A n c l) : Rd w w.heap.size A n c l := h w (Turned.refl _ _)

def rcell (f : File Sl) : List Value := [.string ⟨f.name.toArray⟩, .slice f.x.A f.data.length f.x.c, .int .i64 (f.sure : Int)]
def rcells (fs : List (File Sl)) : List Value := fs.flatMap rcell
theorem rcells_len (l : List (File Sl)) : (rcells l).length = l.length * 3 := by
  induction l with
  | nil => rfl
  | cons a r ih => show (rcell a ++ rcells r).length = _; rw [List.length_append, ih]; simp [rcell]; omega
theorem rcells_app (l r : List (File Sl)) : rcells (l ++ r) = rcells l ++ rcells r := by simp [rcells]
theorem rcells_at {l : List (File Sl)} {i : Nat} (hi : i < l.length) : (rcells l)[i * 3]? = some (.string ⟨l[i].name.toArray⟩) ∧ (rcells l)[i * 3 + 1]? = some (.slice l[i].x.A l[i].data.length l[i].x.c) ∧ (rcells l)[i * 3 + 2]? = some (.int .i64 (l[i].sure : Int)) := by
  induction l generalizing i with
  | nil => simp at hi
  | cons a r ih =>
    have e : rcells (a :: r) = .string ⟨a.name.toArray⟩ :: .slice a.x.A a.data.length a.x.c :: .int .i64 (a.sure : Int) :: rcells r := rfl
    rw [e]
    cases i with
    | zero => simp
    | succ j =>
      have := ih (i := j) (by simpa using hi)
      rw [show (j + 1) * 3 = j * 3 + 3 by omega]
      simpa using this

def RB (w : World) (X : Nat) (v : Value) (s : St) : Prop := w.heap[X]? = some (.cells #[v, .int .i64 (s.room : Int), .int .i64 (s.fuse : Int), .bool s.off, .int .i64 (s.ops : Int)] 31 (0, 0))
def RefF (K : Nat → Prop) (w : World) (F : Nat → Prop) (X : Nat) (v : Value) (fs : List (File Sl)) (s : St) : Prop :=
  RB w X v s ∧ F X ∧ w.ownsRow 0 60 3 v fs.length (rcells fs) ∧ (∀ k, v.ownBlock = some k → F k) ∧ bare fs = s.files ∧ Rise fs ∧
  (∀ f ∈ fs, Steady K F w f.x.A f.data.length f.x.c f.data ∧ f.sure ≤ f.data.length) ∧ (used s.files ≤ s.room ∧ s.room ≤ 67108864 ∧ s.fuse ≤ 9223372036854775807 ∧ s.ops < 1099511627776 ∧ fs.length ≤ s.ops) ∧ ∀ k, F k → k < w.heap.size
def RefAt (K : Nat → Prop) (w : World) (F : Nat → Prop) (X : Nat) (s : St) : Prop := ∃ v fs, RefF K w F X v fs s
/-- the answer x; the state is s' -/
def RDid (K F : Nat → Prop) (X : Nat) (x : Int) (s' : St) (w : World) (e : Ending) (w' : World) : Prop := e = .returned (.int .i64 x) ∧ ∃ F', RefAt K w' F' X s' ∧ Turned F w w' ∧ Spread F F' w

section
variable {w w' : World} {F : Nat → Prop} {X : Nat} {v : Value} {fs : List (File Sl)} {s : St}
theorem RB.c0 (h : RB w X v s) : w.cell? ⟨X, 0, none⟩ = some v := (cellAt 0 h).trans rfl
theorem RB.c1 (h : RB w X v s) : w.cell? ⟨X, 1, none⟩ = some (.int .i64 (s.room : Int)) := (cellAt 1 h).trans rfl
theorem RB.c2 (h : RB w X v s) : w.cell? ⟨X, 2, none⟩ = some (.int .i64 (s.fuse : Int)) := (cellAt 2 h).trans rfl
theorem RB.c3 (h : RB w X v s) : w.cell? ⟨X, 3, none⟩ = some (.bool s.off) := (cellAt 3 h).trans rfl
theorem RB.c4 (h : RB w X v s) : w.cell? ⟨X, 4, none⟩ = some (.int .i64 (s.ops : Int)) := (cellAt 4 h).trans rfl
theorem RefF.form (h : RefF K w F X v fs s) : ∃ A c, v = .slice A fs.length c ∧ fs.length ≤ c ∧ c ≤ 9223372036854775807 := by
  rcases h.2.2.1.2 with ⟨rfl, h0⟩ | ⟨g, cap, cur, rfl, _, _, h1, h2, _⟩
  · exact ⟨none, 0, by rw [h0], by omega, by omega⟩
  · exact ⟨_, cap, rfl, h1, by simpa only [maxLen] using h2⟩
theorem RefF.at_ {n i c : Nat} {A : Option Addr} (h : RefF K w F X (.slice A n c) fs s) (hi : i < fs.length) : ∃ g, A = some ⟨g, 0, none⟩ ∧ g < w.heap.size ∧ F g ∧
    w.heap[g]? ≠ none ∧ w.cell? ⟨g, i * 3, none⟩ = some (.string ⟨fs[i].name.toArray⟩) ∧ w.cell? ⟨g, i * 3 + 1, none⟩ = some (.slice fs[i].x.A fs[i].data.length fs[i].x.c) ∧ w.cell? ⟨g, i * 3 + 2, none⟩ = some (.int .i64 (fs[i].sure : Int)) := by
  have hx := h.2.2.1
  rcases hx.2 with ⟨h1, h0⟩ | ⟨g, cap, cur, h1, hg, hh, hnc, hcm, _⟩
  · omega
  · have hF := h.2.2.2.1
    injection h1 with e1 e2 e3
    subst e1 e2 e3
    obtain ⟨a1, a2, a3⟩ := rcells_at hi
    refine ⟨g, rfl, (Array.getElem?_eq_some_iff.1 hh).1, hF g rfl, by rw [hh]; simp, ?_, ?_, ?_⟩
    · rw [World.ownsRow.cellAt hx (i * 3) (by rw [← rcells_len]; exact (List.getElem?_eq_some_iff.1 a1).1), a1]
    · rw [World.ownsRow.cellAt hx (i * 3 + 1) (by rw [← rcells_len]; exact (List.getElem?_eq_some_iff.1 a2).1), a2]
    · rw [World.ownsRow.cellAt hx (i * 3 + 2) (by rw [← rcells_len]; exact (List.getElem?_eq_some_iff.1 a3).1), a3]
end

/-- the place of the file of that name; -1: none -/
def placeOf (n : List UInt8) (fs : List (File Sl)) : Int := match fs.findIdx? (fun f => f.name == n) with
  | some i => (i : Int)
  | none => -1
theorem place_at {n : List UInt8} {fs : List (File Sl)} {i : Nat} (hi : i < fs.length) (he : fs[i].name = n) (hb : ∀ j (h : j < fs.length), j < i → ¬ fs[j].name = n) : placeOf n fs = (i : Int) := by
  have : fs.findIdx? (fun f => f.name == n) = some i := by
    rw [List.findIdx?_eq_some_iff_getElem]
    exact ⟨hi, by simpa using he, fun j hj => by have := hb j (by omega) hj; simpa using this⟩
  unfold placeOf; rw [this]
theorem place_none {n : List UInt8} {fs : List (File Sl)} (hb : ∀ j (h : j < fs.length), ¬ fs[j].name = n) : placeOf n fs = -1 := by
  have : fs.findIdx? (fun f => f.name == n) = none := by
    rw [List.findIdx?_eq_none_iff]
    intro f hf
    obtain ⟨j, hj, rfl⟩ := List.mem_iff_getElem.1 hf
    simpa using hb j hj
  unfold placeOf; rw [this]
theorem eq_name (a : List UInt8) (s : ByteArray) : (a == s.toList) = decide (a = s.data.toList) := by
  rw [Lib.toList_data, Bool.eq_iff_iff]
  simp

set_option maxHeartbeats 1000000 in
theorem ref_at_any (X : Nat) (F : Nat → Prop) (v : Value) (fs : List (File Sl)) (s : St) (nm : ByteArray) (w : World) (h : RefF K w F X v fs s) :
    Calls Try.prog 38 #[.pointer (some ⟨X, 0, none⟩), .string nm] w (fun e w' => e = .returned (.int .i64 (placeOf nm.data.toList fs)) ∧ w' = w) := by
  obtain ⟨A, c, rfl, hc, hcm⟩ := h.form
  have c0 := h.1.c0
  have HR := Lib.hid h
  obtain ⟨n, hn⟩ : ∃ n, fs.length = n := ⟨_, rfl⟩
  have HN := Lib.hid hn
  rw [hn] at hc c0 HR
  have H0 := Lib.hid (show ∀ j (h : j < fs.length), j < 0 → ¬ fs[j].name = nm.data.toList from fun j _ hj => by omega)
  clear h hn
  go_enter Try.func38, Try.ntmps38
  go_wp2
  go_loop [5] (fun p => ∃ i : Nat, p = .int .i64 (i : Int) ∧ i ≤ n ∧ Hid (∀ j (h : j < fs.length), j < i → ¬ fs[j].name = nm.data.toList)) (fun p => n - (intOf p).toNat)
  case atStart => exact ⟨0, rfl, by omega, H0⟩
  case round =>
    obtain ⟨i, rfl, hi, HI⟩ := hrel
    by_cases hlt : i < n
    · have hix : i < fs.length := by rw [HN.out]; exact hlt
      obtain ⟨g, rfl, hg, _, _, q, _, _⟩ := HR.out.at_ hix
      have hil : (i : Int) < (n : Int) := by omega
      by_cases he : fs[i].name = nm.data.toList
      · have HP := Lib.hid (place_at hix he HI.out)
        have hq : (fs[i].name == nm.toList) = true := by rw [eq_name]; simpa using he
        clear he
        generalize fs[i].name = y at *
        go_wp2
        go_ret
        exact ⟨by rw [HP.out]; rfl, rfl⟩
      · have HI2 := Lib.hid (show ∀ j (h : j < fs.length), j < i + 1 → ¬ fs[j].name = nm.data.toList from fun j h hj => by
          by_cases e : j = i
          · subst e; exact he
          · exact HI.out j h (by omega))
        have hq : (fs[i].name == nm.toList) = false := by rw [eq_name]; simpa using he
        clear he
        generalize fs[i].name = y at *
        go_wp2
        go_round
        case rel => exact ⟨i + 1, by go_num, by omega, HI2⟩
        case measure => simp [intOf]; omega
    · have HP := Lib.hid (place_none (n := nm.data.toList) (fs := fs) (fun j hj => HI.out j hj (by have := HN.out; omega)))
      go_wp2
      go_ret
      exact ⟨by rw [HP.out]; rfl, rfl⟩

theorem used_take {fs : List (File Sl)} {i : Nat} (h : i < fs.length) : used (fs.take (i + 1)) = used (fs.take i) + fs[i].data.length := by
  unfold used
  rw [List.take_succ_eq_append_getElem h, List.map_append, List.sum_append]
  simp only [List.map_cons, List.map_nil, List.sum_cons, List.sum_nil, Nat.add_zero]
theorem used_le (fs : List (File Sl)) (i : Nat) : used (fs.take i) ≤ used fs := by
  have e : used fs = used (fs.take i) + used (fs.drop i) := by
    unfold used
    rw [← List.sum_append, ← List.map_append, List.take_append_drop]
  omega

set_option maxHeartbeats 1000000 in
theorem ref_used_any (X : Nat) (F : Nat → Prop) (v : Value) (fs : List (File Sl)) (s : St) (w : World) (h : RefF K w F X v fs s) :
    Calls Try.prog 27 #[.pointer (some ⟨X, 0, none⟩)] w (fun e w' => e = .returned (.int .i64 (used s.files : Nat)) ∧ w' = w) := by
  obtain ⟨A, c, rfl, hc, hcm⟩ := h.form
  have c0 := h.1.c0
  have HR := Lib.hid h
  have HU := Lib.hid (show used s.files = used fs by rw [← h.2.2.2.2.1, bare_used])
  have HUB := Lib.hid (show used fs ≤ 67108864 by rw [← HU.out]; exact Nat.le_trans h.2.2.2.2.2.2.2.1.1 h.2.2.2.2.2.2.2.1.2.1)
  obtain ⟨n, hn⟩ : ∃ n, fs.length = n := ⟨_, rfl⟩
  have HN := Lib.hid hn
  rw [hn] at hc c0 HR
  clear h hn
  go_enter Try.func27, Try.ntmps27
  go_wp2
  go_loop [3, 4] (fun q p => ∃ i u : Nat, p = .int .i64 (i : Int) ∧ q = .int .i64 (u : Int) ∧ i ≤ n ∧ u ≤ 67108864 ∧ Hid (used (fs.take i) = u)) (fun _ p => n - (intOf p).toNat)
  case atStart => exact ⟨0, 0, rfl, rfl, by omega, by omega, Lib.hid rfl⟩
  case round =>
    obtain ⟨i, u, rfl, rfl, hi, hu, HI⟩ := hrel
    by_cases hlt : i < n
    · have hix : i < fs.length := by rw [HN.out]; exact hlt
      obtain ⟨g, rfl, hg, _, _, _, q, _⟩ := HR.out.at_ hix
      have hil : (i : Int) < (n : Int) := by omega
      have HT := Lib.hid (used_take hix)
      have HL := Lib.hid (used_le fs (i + 1))
      obtain ⟨d, hd⟩ : ∃ d, fs[i].data.length = d := ⟨_, rfl⟩
      rw [hd] at HT q
      have hdu : u + d ≤ 67108864 := by have h1 := HT.out; have h2 := HL.out; have h3 := HUB.out; have h4 := HI.out; omega
      clear hd
      go_wp2
      go_round
      case rel => exact ⟨i + 1, u + d, by go_num, by go_num, by omega, hdu, Lib.hid (by rw [HT.out, HI.out])⟩
      case measure => simp [intOf]; omega
    · have HE := Lib.hid (show used s.files = u by rw [HU.out, ← HI.out, List.take_of_length_le (by rw [HN.out]; omega)])
      go_wp2
      go_ret
      exact ⟨by rw [HE.out]; rfl, rfl⟩
end Go.Proofs.Ytglfbigklnaegaa
