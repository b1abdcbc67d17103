/-
  The document's Same at packets that are the same; slices of packets; the law WireOrder.
-/
import Derived.Test.YtmhkpdfmjapdnaaWireF
namespace Go.Proofs.Ytmhkpdfmjapdnaa
open Go.RowKit Mem
set_option linter.unusedVariables false

set_option maxRecDepth 100000 in
set_option maxHeartbeats 400000 in
theorem same_eq (p : Pk) (A A' : Option Addr) (n c n' c' B : Nat) (w : World) (h : Rd w B A n c p.data) (h' : Rd w B A' n' c' p.data) (hB : B ≤ w.heap.size) :
    Calls Try.prog 12 #[.agg #[.int .i64 p.src, .int .i64 p.dst, .slice A n c], .agg #[.int .i64 p.src, .int .i64 p.dst, .slice A' n' c']] w (Yes w) := by
  have s1 := run_str (P := Try.prog) ((w.alloc (.cells #[.int .i64 p.src, .int .i64 p.dst, .slice A n c] 29)).alloc (.cells #[.int .i64 p.src, .int .i64 p.dst, .slice A' n' c'] 29)) B 27 9 5 Try.underlying27 Try.underlying5 Try.underlying9 _ _ _ _ ((h.alloc hB _).alloc (by simp; omega) _)
  have s2 := run_str (P := Try.prog) ((w.alloc (.cells #[.int .i64 p.src, .int .i64 p.dst, .slice A n c] 29)).alloc (.cells #[.int .i64 p.src, .int .i64 p.dst, .slice A' n' c'] 29)) B 27 9 5 Try.underlying27 Try.underlying5 Try.underlying9 _ _ _ _ ((h'.alloc hB _).alloc (by simp; omega) _)
  generalize (⟨p.data.toArray⟩ : ByteArray) = S at *
  clear h h'
  go_enter Try.func12, Try.ntmps12
  go_wp2
  go_ret
  exact ⟨rfl, ((Below.refl _ w).alloc (Nat.le_refl _) _).alloc (by simp) _⟩

/-- a slice of packets that came in: each with its bytes' slice -/
def RdPs (w : World) (B : Nat) (A : Option Addr) (n c : Nat) (xs : List (Pk × Option Addr × Nat × Nat)) : Prop :=
  n = xs.length ∧ n ≤ c ∧ c ≤ 9223372036854775807 ∧ (∀ x ∈ xs, x.1.fits ∧ Rd w B x.2.1 x.2.2.1 x.2.2.2 x.1.data ∧ x.2.2.2 ≤ 140737488351232) ∧
    (0 < n → ∃ b off, A = some ⟨b, off, none⟩ ∧ b < B ∧ ∀ i (hi : i < xs.length), w.cell? ⟨b, off + i * 3, none⟩ = some (.int .i64 xs[i].1.src) ∧ w.cell? ⟨b, off + i * 3 + 1, none⟩ = some (.int .i64 xs[i].1.dst) ∧ w.cell? ⟨b, off + i * 3 + 2, none⟩ = some (.slice xs[i].2.1 xs[i].2.2.1 xs[i].2.2.2))

section
variable {w w' : World} {B n c : Nat} {A : Option Addr} {xs : List (Pk × Option Addr × Nat × Nat)}
theorem RdPs.below (h : RdPs w B A n c xs) (hb : Below B w w') : RdPs w' B A n c xs := by
  obtain ⟨h1, h2, h3, h4, h5⟩ := h
  refine ⟨h1, h2, h3, fun x hx => ⟨(h4 x hx).1, (h4 x hx).2.1.below hb, (h4 x hx).2.2⟩, fun hn => ?_⟩
  obtain ⟨b, off, e, hb1, hc⟩ := h5 hn
  refine ⟨b, off, e, hb1, fun i hi => ?_⟩
  obtain ⟨k0, k1, k2⟩ := hc i hi
  exact ⟨(hb.cell (p := ⟨b, off + i * 3, none⟩) hb1).trans k0, (hb.cell (p := ⟨b, off + i * 3 + 1, none⟩) hb1).trans k1, (hb.cell (p := ⟨b, off + i * 3 + 2, none⟩) hb1).trans k2⟩
end

section
variable {H : Type} {enc : TypeId × Value → H} {w : World} {base fuel : Nat} {held : Bool}
theorem Try.packetCells' : 0 < Try.prog.cellsOf 29 := by rw [Try.packetCells]; omega
theorem open_packets {r : Reach} {b0 : Nat} {v : Value} {d : DataW H} {p : List MemPlace} (hv : Value.okWide Try.prog w r b0 26 v) (h : DataW.Trod enc Try.prog w base (fun _ => true) held 26 v d p) (hw : Light Try.prog 26 d) :
    ∃ A n c xs, v = .slice A n c ∧ RdPs w w.heap.size A n c xs := by
  obtain ⟨A0, n0, c0, rfl⟩ := Go.WideShapes.okWide_slice Try.underlying26 hv
  obtain ⟨fuel, hf⟩ := h
  obtain ⟨A, n, c, hcs, hl, hm, _, hel⟩ := open_elems Try.underlying26 Try.packetCells' (v := .slice A0 n0 c0) (by simpa [Value.cells] using hf) hw
  injection hcs with e1 e2 e3
  subst e1 e2 e3
  have hm' : c0 ≤ 9223372036854775807 := by simpa only [maxLen] using hm
  rcases Nat.eq_zero_or_pos n0 with h0 | h0
  · subst h0
    exact ⟨A0, 0, c0, [], rfl, rfl, hl, hm', by simp, fun h => absurd h (by omega)⟩
  · obtain ⟨b, off, rfl, hb, m, hi⟩ := hel h0
    have each : ∀ i, i < n0 → ∃ x : Pk × Option Addr × Nat × Nat, (x.1.fits ∧ Rd w w.heap.size x.2.1 x.2.2.1 x.2.2.2 x.1.data ∧ x.2.2.2 ≤ 140737488351232) ∧ w.cell? ⟨b, off + i * 3, none⟩ = some (.int .i64 x.1.src) ∧ w.cell? ⟨b, off + i * 3 + 1, none⟩ = some (.int .i64 x.1.dst) ∧ w.cell? ⟨b, off + i * 3 + 2, none⟩ = some (.slice x.2.1 x.2.2.1 x.2.2.2) := fun i hin => by
      obtain ⟨cs, y, hlen, hat, htr, hlt⟩ := hi i hin
      obtain ⟨q, A', n', c', rfl, hq, hr, hc⟩ := packet_cells htr hlt
      rw [Try.packetCells] at hat
      have k0 := hat 0 (by omega)
      have k1 := hat 1 (by omega)
      have k2 := hat 2 (by omega)
      refine ⟨(q, A', n', c'), ⟨hq, hr, hc⟩, ?_, ?_, ?_⟩
      · simpa [Nat.add_assoc] using k0
      · simpa [Nat.add_assoc] using k1
      · simpa [Nat.add_assoc] using k2
    haveI : Inhabited (Pk × Option Addr × Nat × Nat) := ⟨(⟨0, 0, []⟩, none, 0, 0)⟩
    obtain ⟨f, hfx⟩ := Go.Deep.choose_lt each
    refine ⟨_, n0, c0, (List.range n0).map f, rfl, by simp, hl, hm', fun x hx => ?_, fun _ => ⟨b, off, rfl, hb, fun i hi => ?_⟩⟩
    · obtain ⟨i, hi, rfl⟩ := List.mem_map.1 hx
      exact (hfx i (List.mem_range.1 hi)).1
    · have hin : i < n0 := by simpa using hi
      have e : ((List.range n0).map f)[i] = f i := by simp
      rw [e]
      exact (hfx i hin).2
end

/-- the network that the law has made, and what it began with -/
def Law (w : World) (F : Nat → Prop) (D : Nat) (ps : List Pk) (wr : World) : Prop := NetAt wr F D ps ∧ (∀ k, F k → w.heap.size ≤ k) ∧ Below w.heap.size w wr
end Go.Proofs.Ytmhkpdfmjapdnaa
