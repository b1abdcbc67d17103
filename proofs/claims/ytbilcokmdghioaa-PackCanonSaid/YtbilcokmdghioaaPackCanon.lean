/-
  The law PackCanon, by the contracts: a number has just one form.
-/
import Derived.Test.YtbilcokmdghioaaPackF
import Derived.Deep.RegionHeld
namespace Go.Proofs.Ytbilcokmdghioaa
open Go.RowKit Mem

/-- one byte less is none -/
theorem canon_less {l : List UInt8} {i : Nat} (h : (M.rdAt l i).2.2 = 0) : M.rdAt (l.take ((M.rdAt l i).2.1 - 1)) i = (0, 0, 3) := by
  obtain ⟨a, r, h1, h2, h3, h4⟩ := M.rdAt_ok h
  generalize M.rdAt l i = q at *
  obtain ⟨v, f, x⟩ := q
  simp only at h h2 h3 h4 ⊢
  have hla : a.length = i := by omega
  have hu := M.uv_len v
  have ht : l.take (f - 1) = a ++ (M.uv v).take ((M.uv v).length - 1) := by
    rw [h2, h4, List.take_append, List.take_of_length_le (by omega)]
    have e : a.length + (M.uv v).length - 1 - a.length = (M.uv v).length - 1 := by omega
    rw [e, List.take_append_of_le_length (by omega)]
  have hn : M.rd 0 0 ((M.uv v).take ((M.uv v).length - 1)) = none := by
    cases hr : M.rd 0 0 ((M.uv v).take ((M.uv v).length - 1)) with
    | none => rfl
    | some p =>
      exfalso
      obtain ⟨x', n'⟩ := p
      obtain ⟨r', e1, e2, e3⟩ := (M.rd_iff _ _ _).1 hr
      have e4 : M.uv v = M.uv x' ++ (r' ++ (M.uv v).drop ((M.uv v).length - 1)) := by
        rw [← List.append_assoc, ← e1, List.take_append_drop]
      have r1 := M.rd_uv x' (r' ++ (M.uv v).drop ((M.uv v).length - 1)) e3
      rw [← e4] at r1
      have r2 := M.rd_uv v [] h3
      rw [List.append_nil, r1] at r2
      injection r2 with r2
      injection r2 with _ r3
      have := congrArg List.length e1
      rw [List.length_take, List.length_append] at this
      omega
  rw [ht, rdAt_in (by simp; omega), ← hla, List.drop_left, hn]

set_option maxRecDepth 100000 in
set_option maxHeartbeats 2000000 in
theorem packCanon_any (A : Option Addr) (n c : Nat) (l : List UInt8) (at_ : Nat) (w : World) (h : Rd w w.heap.size A n c l) (hcz : c ≤ 140737488351232) (ha : at_ < 256) :
    Calls Try.prog 8 #[.slice A n c, .int .u8 at_] w (Yes w) := by
  have hc := h.cap
  have hm := h.max
  have HN := Lib.hid h.len
  have HA := Lib.hid (awake_any w)
  obtain ⟨k, hk⟩ : ∃ k, k = at_ % (n + 1) := ⟨_, rfl⟩
  have hkn : k ≤ n := by have := Nat.mod_lt at_ (show 0 < n + 1 by omega); omega
  have hk' : (at_ : Int) % ((n : Int) + 1) = (k : Int) := by rw [hk]; push_cast; rfl
  clear hk
  have HC := Lib.hid (fun (w1 : World) (hb1 : Below w.heap.size w w1) => readUvarint_any A n c _ l k w1 (h.below hb1) (by omega) (by omega))
  have HE := Lib.hid (M.rdAt_err l k)
  have HO := Lib.hid (@M.rdAt_le l k)
  have HOK := Lib.hid (@M.rdAt_ok l k)
  have HLESS := Lib.hid (@canon_less l k)
  generalize M.rdAt l k = r at *
  obtain ⟨v, f, x⟩ := r
  simp only at HE HO HOK HLESS
  by_cases hx : x = 0
  · subst hx
    have hf := HO.out rfl
    have hv : v < 18446744073709551616 ∧ M.uv v = (l.drop k).take (f - k) := by
      obtain ⟨a, r, e1, e2, hv, e4⟩ := HOK.out rfl
      refine ⟨by simpa using hv, ?_⟩
      have : k = a.length := by omega
      subst this
      rw [e2, e4, List.drop_left, Nat.add_sub_cancel_left]; simp
    obtain ⟨hv, huv⟩ := hv
    have HUV := Lib.hid huv
    clear huv
    have hfn : f ≤ n := by have := HN.out; omega
    have hkf : k < f := by omega
    have hf10 : f ≤ k + 10 := by omega
    clear hf
    have hn0 : 0 < n := by omega
    obtain ⟨b, off, rfl, hb, _⟩ := h.2.2.2 hn0
    have hcut := h.cut (i := k) (k := f) (by omega) (by omega)
    rw [if_neg (by omega), List.drop_take] at hcut
    simp only [Option.map_some, add_none] at hcut
    rw [← HUV.out] at hcut
    have hup := h.upto (k := f - 1) (by omega)
    have HL := Lib.hid (HLESS.out rfl)
    go_enter Try.func8, Try.ntmps8
    go_wp2_with fail
    refine HA.out.mono ?_
    rintro e w1 ⟨rfl, hb1⟩
    go_wp2_with fail
    refine (HC.out w1 hb1).mono ?_
    rintro e w1' ⟨rfl, rfl⟩
    have hi1 : (1 : Int) ≤ (f : Int) := by omega
    go_wp2_with fail
    refine (readUvarint_any _ _ c _ _ k w1 (hup.below hb1) (by omega) (by omega)).mono ?_
    rintro e w1' ⟨rfl, rfl⟩
    rw [HL.out]
    have hcut1 := hcut.below hb1
    have hw1 : IntKind.i64.wrap ((f : Int) - (k : Int)) = (f : Int) - (k : Int) := IntWalk.i64_in _ (by omega)
    have h10 : (f : Int) - (k : Int) ≤ 10 := by omega
    have hgt : (k : Int) < (f : Int) := by omega
    have hck : ¬ c = k := by omega
    have hfc : (f : Int) ≤ (c : Int) := by omega
    clear HE HO HOK HLESS HC HUV hi1
    go_wp2_with fail
    go_region_held (fun W => (convert 24 9 (.slice (some ⟨b, off + k, none⟩) (f - k) (c - k))).run Try.prog W = .ok (.string ⟨(M.uv v).toArray⟩) W)
      (first
        | exact hHeld
        | exact run_str (P := Try.prog) _ _ 24 9 5 Try.underlying24 Try.underlying5 Try.underlying9 _ _ _ _ hcut1.drew
        | exact run_str (P := Try.prog) _ _ 24 9 5 Try.underlying24 Try.underlying5 Try.underlying9 _ _ _ _ hk4)
      (first
        | (go_at_call 12; refine (uvarint_any v _ hv).mono ?_; rintro e w4 ⟨q, rfl, hown4, hb4⟩; obtain ⟨A4, c4, rfl, hrd4⟩ := hown4.open_; have hk4 := hcut1.drew.below (hb4.mono hb1.size); have hs4 := run_str (P := Try.prog) w4 _ 24 9 5 Try.underlying24 Try.underlying5 Try.underlying9 A4 _ c4 _ hrd4))
    all_goals
      go_wp2
      go_ret
      exact ⟨rfl, hb1.trans ((below_undrew hb4).mono hb1.size)⟩
  · have hvf : v = 0 ∧ f = 0 := by
      rcases HE.out with h | ⟨_, h⟩ | ⟨_, h⟩
      · exact absurd h hx
      · injection h with h1 h2; injection h2 with h2 _; exact ⟨h1, h2⟩
      · injection h with h1 h2; injection h2 with h2 _; exact ⟨h1, h2⟩
    obtain ⟨rfl, rfl⟩ := hvf
    have hbx : ((x : Int) != 0) = true := by rw [bne_iff_ne]; omega
    clear HE HO HOK HLESS
    go_enter Try.func8, Try.ntmps8
    go_wp2_with fail
    refine HA.out.mono ?_
    rintro e w1 ⟨rfl, hb1⟩
    go_wp2_with fail
    refine (HC.out w1 hb1).mono ?_
    rintro e w1' ⟨rfl, rfl⟩
    go_wp2
    go_ret
    exact ⟨rfl, hb1⟩
end Go.Proofs.Ytbilcokmdghioaa
