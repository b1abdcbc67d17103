/-
  A query as it lies in memory, which entries answer it; the entry that is asked: words for both.
-/
import Derived.Test.YtfapkpaohkdfpaaGreatDoorMatchC
namespace Go.Proofs.YtfapkpaohkdfpaaGreatDoor
open Go.RowKit Mem
set_option linter.unusedVariables false
set_option maxRecDepth 100000

/-- a query: its kind, its text, its number, where its kids lie, its kids -/
inductive Q where
  | mk (kind : Nat) (text : List UInt8) (num : Int) (A : Option Addr) (n c : Nat) (kids : List Q)
namespace Q
def cells : Q → List Value
  | mk k t z A n c _ => [.int .u8 (k : Int), .string ⟨t.toArray⟩, .int .i64 z, .slice A n c]
def val : Q → Value
  | mk k t z A n c _ => .agg #[.int .u8 (k : Int), .string ⟨t.toArray⟩, .int .i64 z, .slice A n c]
mutual
def has (time : Int) (terms : List (List UInt8)) : Q → Bool
  | mk k t z _ _ _ ks => if k = 0 then true else if k = 1 ∨ k = 2 then decide (t ∈ terms) else if k = 3 then hasAll time terms ks else if k = 4 then hasOne time terms ks
    else if k = 5 then decide (ks.length = 1) && !hasOne time terms ks else if k = 6 then decide (z < time) else if k = 7 then decide (time < z) else false
def hasAll (time : Int) (terms : List (List UInt8)) : List Q → Bool
  | [] => true
  | q :: r => has time terms q && hasAll time terms r
def hasOne (time : Int) (terms : List (List UInt8)) : List Q → Bool
  | [] => false
  | q :: r => has time terms q || hasOne time terms r
end
section
variable {tm z : Int} {ts : List (List UInt8)} {t : List UInt8} {A : Option Addr} {n c k : Nat} {ks : List Q}
theorem has0 : has tm ts (mk 0 t z A n c ks) = true := by simp [has]
theorem has1 : has tm ts (mk 1 t z A n c ks) = decide (t ∈ ts) := by simp [has]
theorem has2 : has tm ts (mk 2 t z A n c ks) = decide (t ∈ ts) := by simp [has]
theorem has3 : has tm ts (mk 3 t z A n c ks) = hasAll tm ts ks := by simp [has]
theorem has4 : has tm ts (mk 4 t z A n c ks) = hasOne tm ts ks := by simp [has]
theorem has5 : has tm ts (mk 5 t z A n c ks) = (decide (ks.length = 1) && !hasOne tm ts ks) := by simp [has]
theorem has6 : has tm ts (mk 6 t z A n c ks) = decide (z < tm) := by simp [has]
theorem has7 : has tm ts (mk 7 t z A n c ks) = decide (tm < z) := by simp [has]
theorem has8 : has tm ts (mk (k + 8) t z A n c ks) = false := by
  rw [has, if_neg (by omega), if_neg (by omega), if_neg (by omega), if_neg (by omega), if_neg (by omega), if_neg (by omega), if_neg (by omega)]
theorem hasOne1 (q : Q) : hasOne tm ts [q] = has tm ts q := by simp [hasOne]
end
/-- a row of queries -/
def Row (w : World) (B : Nat) (A : Option Addr) (n c : Nat) (ks : List Q) : Prop :=
  n = ks.length ∧ n ≤ c ∧ c ≤ 9223372036854775807 ∧ (0 < n → ∃ b off, A = some ⟨b, off, none⟩ ∧ b < B ∧ ∀ i (hi : i < ks.length) j, j < 4 → w.cell? ⟨b, off + i * 4 + j, none⟩ = ks[i].cells[j]?)
/-- a query's memory, below block B -/
inductive Ok (w : World) (B : Nat) : Q → Prop
  | mk {k : Nat} {t : List UInt8} {z : Int} {A : Option Addr} {n c : Nat} {ks : List Q} (h1 : k < 256) (h2 : -9223372036854775808 ≤ z ∧ z ≤ 9223372036854775807) (h3 : Row w B A n c ks) (h4 : ∀ q ∈ ks, Ok w B q) : Ok w B (.mk k t z A n c ks)
theorem Row.below {w w' : World} {B n c : Nat} {A : Option Addr} {ks : List Q} (h : Row w B A n c ks) (hb : Below B w w') : Row w' B A n c ks :=
  ⟨h.1, h.2.1, h.2.2.1, fun hn => by
    obtain ⟨b, off, e, hbB, hc⟩ := h.2.2.2 hn
    exact ⟨b, off, e, hbB, fun i hi j hj => (hb.cell (p := ⟨b, off + i * 4 + j, none⟩) hbB).trans (hc i hi j hj)⟩⟩
theorem Row.more {w : World} {B B' n c : Nat} {A : Option Addr} {ks : List Q} (h : Row w B A n c ks) (hB : B ≤ B') : Row w B' A n c ks :=
  ⟨h.1, h.2.1, h.2.2.1, fun hn => by
    obtain ⟨b, off, e, hbB, hc⟩ := h.2.2.2 hn
    exact ⟨b, off, e, by omega, hc⟩⟩
theorem Ok.on {w w' : World} {B : Nat} {q : Q} (h : Ok w B q) (hb : Below B w w') : Ok w' B q := by
  induction h with
  | mk h1 h2 h3 _ ih => exact .mk h1 h2 (h3.below hb) ih
theorem Ok.more {w : World} {B B' : Nat} {q : Q} (h : Ok w B q) (hB : B ≤ B') : Ok w B' q := by
  induction h with
  | mk h1 h2 h3 _ ih => exact .mk h1 h2 (h3.more hB) ih
theorem Row.at_ {w : World} {B n c i : Nat} {A : Option Addr} {ks : List Q} (h : Row w B A n c ks) (hi : i < n) : ∃ b off k t z A' n' c' ks', A = some ⟨b, off, none⟩ ∧ b < B ∧ ks[i]? = some (.mk k t z A' n' c' ks') ∧
    w.cell? ⟨b, off + i * 4, none⟩ = some (.int .u8 (k : Int)) ∧ w.cell? ⟨b, off + i * 4 + 1, none⟩ = some (.string ⟨t.toArray⟩) ∧ w.cell? ⟨b, off + i * 4 + 2, none⟩ = some (.int .i64 z) ∧ w.cell? ⟨b, off + i * 4 + 3, none⟩ = some (.slice A' n' c') := by
  obtain ⟨b, off, e, hb, hc⟩ := h.2.2.2 (by omega)
  have hi' : i < ks.length := by have := h.1; omega
  have h0 := hc i hi' 0 (by omega)
  have h1 := hc i hi' 1 (by omega)
  have h2 := hc i hi' 2 (by omega)
  have h3 := hc i hi' 3 (by omega)
  obtain ⟨q, hq⟩ : ∃ q, ks[i] = q := ⟨_, rfl⟩
  rw [hq] at h0 h1 h2 h3
  obtain ⟨k, t, z, A', n', c', ks'⟩ := q
  exact ⟨b, off, k, t, z, A', n', c', ks', e, hb, by rw [List.getElem?_eq_getElem hi', hq], h0, h1, h2, h3⟩
/-- the first ones do -/
def AllFrom (tm : Int) (ts : List (List UInt8)) (ks : List Q) (j : Nat) : Prop := hasAll tm ts ks = hasAll tm ts (ks.drop j)
def OneFrom (tm : Int) (ts : List (List UInt8)) (ks : List Q) (j : Nat) : Prop := hasOne tm ts ks = hasOne tm ts (ks.drop j)
section
variable {tm : Int} {ts : List (List UInt8)} {ks : List Q} {j : Nat} {q : Q}
theorem drop_at (hq : ks[j]? = some q) : ks.drop j = q :: ks.drop (j + 1) := by
  obtain ⟨h, e⟩ := List.getElem?_eq_some_iff.1 hq
  rw [List.drop_eq_getElem_cons h, e]
theorem AllFrom.stop (h : AllFrom tm ts ks j) (hq : ks[j]? = some q) (hb : has tm ts q = false) : hasAll tm ts ks = false := by rw [h, drop_at hq, hasAll, hb]; rfl
theorem AllFrom.step (h : AllFrom tm ts ks j) (hq : ks[j]? = some q) (hb : has tm ts q = true) : AllFrom tm ts ks (j + 1) := by unfold AllFrom at h ⊢; rw [h, drop_at hq, hasAll, hb]; rfl
theorem AllFrom.end_ (h : AllFrom tm ts ks j) (hj : ks.length ≤ j) : hasAll tm ts ks = true := by rw [h, List.drop_eq_nil_of_le hj, hasAll]
theorem OneFrom.stop (h : OneFrom tm ts ks j) (hq : ks[j]? = some q) (hb : has tm ts q = true) : hasOne tm ts ks = true := by rw [h, drop_at hq, hasOne, hb]; rfl
theorem OneFrom.step (h : OneFrom tm ts ks j) (hq : ks[j]? = some q) (hb : has tm ts q = false) : OneFrom tm ts ks (j + 1) := by unfold OneFrom at h ⊢; rw [h, drop_at hq, hasOne, hb]; rfl
theorem OneFrom.end_ (h : OneFrom tm ts ks j) (hj : ks.length ≤ j) : hasOne tm ts ks = false := by rw [h, List.drop_eq_nil_of_le hj, hasOne]
end
end Q

/-- the entry that is asked, in block g: its terms are taken, or not yet -/
def Asked (w : World) (g : Nat) (d : M.D) (tk : Bool) (A : Option Addr) (n c : Nat) : Prop :=
  w.heap[g]? = some (.cells #[.string ⟨d.id.toArray⟩, .int .i64 d.time, .string ⟨d.text.toArray⟩, .slice A n c, .bool tk] 124 (0, 0)) ∧ (tk = true → RdV w w.heap.size A n c (strs (M.terms d.text)))
def AskAt (w : World) (g : Nat) (d : M.D) : Prop := ∃ tk A n c, Asked w g d tk A n c
theorem AskAt.below {w w' : World} {g : Nat} {d : M.D} (h : AskAt w g d) (hb : Below w.heap.size w w') : AskAt w' g d := by
  obtain ⟨tk, A, n, c, h1, h2⟩ := h
  exact ⟨tk, A, n, c, (hb.block g (heapLt h1)).trans h1, fun e => ((h2 e).below hb).more hb.size⟩
theorem AskAt.alloc {w : World} {g : Nat} {d : M.D} (h : AskAt w g d) (o : Obj) : AskAt (w.alloc o) g d := h.below ((Below.refl _ _).alloc (Nat.le_refl _) o)
theorem AskAt.lt {w : World} {g : Nat} {d : M.D} (h : AskAt w g d) : g < w.heap.size := by
  obtain ⟨tk, A, n, c, h1, _⟩ := h
  exact heapLt h1
/-- what a call with the entry that is asked comes to -/
def Told (w0 : World) (g : Nat) (d : M.D) (b : Bool) (e : Ending) (w' : World) : Prop := e = .returned (.bool b) ∧ AskAt w' g d ∧ Below w0.heap.size w0 w'
end Go.Proofs.YtfapkpaohkdfpaaGreatDoor
