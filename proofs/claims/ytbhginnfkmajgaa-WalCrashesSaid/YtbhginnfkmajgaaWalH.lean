/-
  What the document's Scan and Same do, by contracts; the law WalScans.
-/
import Derived.Test.YtbhginnfkmajgaaWalG
import Derived.Test.YtbhginnfkmajgaaPackP
namespace Go.Proofs.Ytbhginnfkmajgaa
open Go.RowKit Mem FM
set_option linter.unusedVariables false
set_option maxRecDepth 100000

/-- a row of slices whose bytes lie below B; the row itself is new -/
def RecsIn (w : World) (base B : Nat) (v : Value) (rs : List Rec) : Prop :=
  w.ownsRow base 34 1 v rs.length (rs.map Rec.v) ∧ ∀ r ∈ rs, ∃ A n c, r.v = .slice A n c ∧ Rd w B A n c r.l
theorem RecsIn.below {w w' : World} {base B : Nat} {v : Value} {rs : List Rec} (h : RecsIn w base B v rs) (hb : Below w.heap.size w w') (hB : B ≤ w.heap.size) : RecsIn w' base B v rs :=
  ⟨row_turned (G := fun _ => False) h.1 (Turned.of_below hb) (fun _ _ h => h), fun r hr => by
    obtain ⟨A, n, c, hv, hrd⟩ := h.2 r hr
    exact ⟨A, n, c, hv, hrd.below (hb.mono hB)⟩⟩
theorem RecsIn.form {w : World} {base B : Nat} {v : Value} {rs : List Rec} (h : RecsIn w base B v rs) : ∃ A c, v = .slice A rs.length c ∧ rs.length ≤ c ∧ c ≤ 9223372036854775807 := by
  rcases h.1.2 with ⟨rfl, h0⟩ | ⟨g, cap, cur, rfl, _, _, h1, h2, _⟩
  · exact ⟨none, 0, by rw [h0], by omega, by omega⟩
  · exact ⟨_, cap, rfl, h1, by simpa only [maxLen] using h2⟩

def RScanned (B : Nat) (l : List UInt8) (w : World) (e : Ending) (w' : World) : Prop :=
  ∃ v rs, e = .returned (.tuple #[v, .int .i64 ((M.scan l).2 : Int)]) ∧ RecsIn w' w.heap.size B v rs ∧ recs rs = (M.scan l).1 ∧ Below w.heap.size w w'
def RScanInv (B : Nat) (l : List UInt8) (w : World) (k : Nat) (v : Value) (rs : List Rec) (wr : World) : Prop :=
  RecsIn wr w.heap.size B v rs ∧ Below w.heap.size w wr ∧ recs rs ++ (M.scanFrom l k).1 = (M.scan l).1 ∧ (M.scanFrom l k).2 = (M.scan l).2

/-- a list of texts that can be read, slice by slice -/
def RdL (w : World) (A : Option Addr) (n c : Nat) (ls : List (List UInt8)) : Prop :=
  n = ls.length ∧ n ≤ c ∧ c ≤ 9223372036854775807 ∧ ∀ i (hi : i < ls.length), ∃ g off A' n' c', A = some ⟨g, off, none⟩ ∧ w.cell? ⟨g, off + i, none⟩ = some (.slice A' n' c') ∧ Rd w w.heap.size A' n' c' ls[i]
theorem RecsIn.rdl {w : World} {base B : Nat} {A : Option Addr} {n c : Nat} {rs : List Rec} (h : RecsIn w base B (.slice A n c) rs) (hB : B ≤ w.heap.size) : RdL w A n c (recs rs) := by
  obtain ⟨A', c', hv, h1, h2⟩ := h.form
  injection hv with e1 e2 e3
  subst e1 e2 e3
  refine ⟨by simp [recs], h1, h2, fun i hi => ?_⟩
  have hi' : i < rs.length := by simpa [recs] using hi
  obtain ⟨A1, n1, c1, hv1, hrd⟩ := h.2 rs[i] (List.getElem_mem hi')
  obtain ⟨g, cp, hvf⟩ : ∃ g cp, Value.slice A rs.length c = .slice (some ⟨g, 0, none⟩) rs.length cp := by
    rcases h.1.2 with ⟨_, h0⟩ | ⟨g, cap, cur, hv, _⟩
    · omega
    · exact ⟨g, cap, hv⟩
  injection hvf with e4 _ e5
  subst e4 e5
  have hcell := World.ownsRow.cellAt h.1 i (by omega)
  refine ⟨g, 0, A1, n1, c1, rfl, ?_, ?_⟩
  · rw [Nat.zero_add, hcell]
    simp [hi', hv1]
  · have e : (recs rs)[i] = rs[i].l := by simp [recs]
    rw [e]
    exact hrd.more hB
theorem RecsAt.rdl {w : World} {F : Nat → Prop} {A : Option Addr} {n c : Nat} {rs : List Rec} (h : RecsAt w F (.slice A n c) rs) : RdL w A n c (recs rs) := by
  refine RecsIn.rdl (base := 0) (B := w.heap.size) ⟨?_, fun r hr => ?_⟩ (Nat.le_refl _)
  · exact h.1
  · obtain ⟨A1, c1, hv, hrd⟩ := (h.2.2 r hr).1.open_
    exact ⟨A1, _, c1, hv, hrd⟩
end Go.Proofs.Ytbhginnfkmajgaa
