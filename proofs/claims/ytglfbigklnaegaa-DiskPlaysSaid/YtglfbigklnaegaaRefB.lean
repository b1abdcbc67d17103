/-
  What the document's op, there and Sync do, by contracts.
-/
import Derived.Test.YtglfbigklnaegaaRefA
import Derived.StillTailTactics
namespace Go.Proofs.Ytglfbigklnaegaa
open Go.RowKit Mem FM
set_option linter.unusedVariables false
set_option maxRecDepth 100000
variable {K : Nat → Prop}

theorem row_type {w : World} {n size base : Nat} {e : TypeId} {v : Value} {xs : List Value} {k : Nat} (h : w.ownsRow base e size v n xs) (hk : v.ownBlock = some k) : ∃ cur, w.heap[k]? = some (.cells cur e (0, 0)) := by
  rcases h.2 with ⟨rfl, _⟩ | ⟨g, cap, cur, rfl, _, hh, _⟩
  · cases hk
  · simp only [Value.ownBlock, Option.some.injEq] at hk
    subst hk
    exact ⟨cur, hh⟩
theorem row_far {w w' : World} {G : Nat → Prop} {base n size : Nat} {e : TypeId} {v : Value} {xs : List Value} (h : w.ownsRow base e size v n xs) (ht : Turned G w w') (hn : ∀ k, v.ownBlock = some k → ¬ G k) : w'.ownsRow base e size v n xs := by
  refine ⟨h.1, ?_⟩
  rcases h.2 with h2 | ⟨g, cap, cur, rfl, hg, hh, r⟩
  · exact .inl h2
  · exact .inr ⟨g, cap, cur, rfl, hg, (ht.block g (Array.getElem?_eq_some_iff.1 hh).1 (hn g rfl)).trans hh, r⟩

section
variable {w w' : World} {F : Nat → Prop} {X : Nat} {v : Value} {fs : List (File Sl)} {s s' : St}
theorem RefF.ne (h : RefF K w F X v fs s) {k : Nat} (hk : v.ownBlock = some k) : k ≠ X := by
  intro e
  subst e
  obtain ⟨cur, hh⟩ := row_type h.2.2.1 hk
  have := h.1.symm.trans hh
  simp at this
theorem setX {w w' : World} {X : Nat} (h : Turned (fun k => k = X) w w') (o : Nat) (u : Value) : Turned (fun k => k = X) w (w'.setCell ⟨X, o, none⟩ u) := Turned.setCell (F := fun k => k = X) (p := ⟨X, o, none⟩) h (.inl rfl) u
/-- the disk's own block has turned, nothing else -/
theorem RefF.reset (h : RefF K w F X v fs s) (ht : Turned (· = X) w w') (hb : RB w' X v s') (hf : s'.files = s.files) (hr : s'.room = s.room) (hfu : s'.fuse ≤ 9223372036854775807) (ho : s.ops ≤ s'.ops) (ho2 : s'.ops < 1099511627776) : RefF K w' F X v fs s' := by
  obtain ⟨h1, h2, h3, h4, h5, h6, h7, h8, h9⟩ := h
  have hT : Turned F w w' := ht.more (fun k _ hk => by subst hk; exact h2)
  refine ⟨hb, h2, row_far h3 ht (fun k hk e => RefF.ne ⟨h1, h2, h3, h4, h5, h6, h7, h8, h9⟩ hk e), h4, by rw [h5, hf], h6, fun f hf => ⟨(h7 f hf).1.step hT (Spread.refl _ _), (h7 f hf).2⟩, ⟨by rw [hf, hr]; exact h8.1, by rw [hr]; exact h8.2.1, hfu, ho2, by omega⟩, fun k hk => Nat.lt_of_lt_of_le (h9 k hk) ht.size⟩
theorem RefF.far {G : Nat → Prop} (h : RefF K w F X v fs s) (ht : Turned G w w') (hd : ∀ k, F k → ¬ G k) (hs : ∀ f ∈ fs, Steady K F w' f.x.A f.data.length f.x.c f.data) : RefF K w' F X v fs s := by
  obtain ⟨h1, h2, h3, h4, h5, h6, h7, h8, h9⟩ := h
  exact ⟨(ht.block X (h9 X h2) (hd X h2)).trans h1, h2, row_far h3 ht (fun k hk => hd k (h4 k hk)), h4, h5, h6, fun f hf => ⟨hs f hf, (h7 f hf).2⟩, h8, fun k hk => Nat.lt_of_lt_of_le (h9 k hk) ht.size⟩
theorem turned_none_mono {G : Nat → Prop} (h : Turned (fun _ => False) w w') : Turned G w w' := h.more (fun _ _ h => h.elim)
theorem RefF.below (h : RefF K w F X v fs s) (hb : Below w.heap.size w w') : RefF K w' F X v fs s :=
  h.far (G := fun _ => False) (Turned.of_below hb) (fun _ _ h => h) (fun f hf => (h.2.2.2.2.2.2.1 f hf).1.step (Turned.of_below hb) (Spread.refl _ _))
end

set_option maxHeartbeats 1000000 in
theorem ref_op_any (X : Nat) (F : Nat → Prop) (v : Value) (fs : List (File Sl)) (s : St) (w : World) (h : RefF K w F X v fs s) (ho : s.ops + 1 < 1099511627776) :
    Calls Try.prog 39 #[.pointer (some ⟨X, 0, none⟩)] w (fun e w' => e = .returned (.bool (s.off || s.fuse == 1)) ∧ RefF K w' F X v fs (s.op s.files) ∧ Turned (· = X) w w') := by
  have c2 := h.1.c2; have c3 := h.1.c3; have c4 := h.1.c4
  have f2 : w.frozen? ⟨X, 2, none⟩ = false := freeAt 2 h.1
  have f3 : w.frozen? ⟨X, 3, none⟩ = false := freeAt 3 h.1
  have f4 : w.frozen? ⟨X, 4, none⟩ = false := freeAt 4 h.1
  have HR := Lib.hid h
  have hfu := h.2.2.2.2.2.2.2.1.2.2.1
  have H1 := Lib.hid h.1
  have HOP := Lib.hid (show s.op s.files = ⟨s.room, s.files, s.ops + 1, s.fuse - 1, s.off || s.fuse == 1⟩ from rfl)
  clear h
  obtain ⟨room, files, ops, fuse, off⟩ := s
  simp only at c2 c3 c4 ho hfu HOP ⊢
  by_cases h0 : fuse = 0
  · subst h0
    go_enter Try.func39, Try.ntmps39
    go_wp2
    go_ret
    have ht : Turned (· = X) w (w.setCell ⟨X, 4, none⟩ (.int .i64 ((ops : Int) + 1))) := setX (Turned.refl _ w) _ _
    refine ⟨by cases off <;> rfl, ?_, ht⟩
    rw [HOP.out]
    exact HR.out.reset ht (show _ = _ from (heapSet 4 _ H1.out).trans (by cases off <;> rfl)) rfl rfl (by simp) (by simp) ho
  · by_cases h1 : fuse = 1
    · subst h1
      have hc2 : (w.setCell ⟨X, 4, none⟩ (.int .i64 ((ops : Int) + 1))).cell? ⟨X, 2, none⟩ = some (.int .i64 1) := by rw [World.cell?_setCell_other w _ _ _ (by simp)]; exact c2
      go_enter Try.func39, Try.ntmps39
      go_wp2
      go_ret
      have ht : Turned (· = X) w (((w.setCell ⟨X, 4, none⟩ (.int .i64 ((ops : Int) + 1))).setCell ⟨X, 2, none⟩ (.int .i64 0)).setCell ⟨X, 3, none⟩ (.bool true)) := setX (setX (setX (Turned.refl _ w) _ _) _ _) _ _
      refine ⟨by cases off <;> rfl, ?_, ht⟩
      rw [HOP.out]
      exact HR.out.reset ht (show _ = _ from (heapSet 3 _ (heapSet 2 _ (heapSet 4 _ H1.out))).trans (by cases off <;> rfl)) rfl rfl (by simp) (by simp) ho
    · obtain ⟨f', rfl⟩ : ∃ f', fuse = f' + 2 := ⟨fuse - 2, by omega⟩
      have hc2 : (w.setCell ⟨X, 4, none⟩ (.int .i64 ((ops : Int) + 1))).cell? ⟨X, 2, none⟩ = some (.int .i64 ((f' + 2 : Nat) : Int)) := by rw [World.cell?_setCell_other w _ _ _ (by simp)]; exact c2
      clear h0 h1
      go_enter Try.func39, Try.ntmps39
      go_wp2
      go_ret
      have ht : Turned (· = X) w ((w.setCell ⟨X, 4, none⟩ (.int .i64 ((ops : Int) + 1))).setCell ⟨X, 2, none⟩ (.int .i64 ((f' : Int) + 2 - 1))) := setX (setX (Turned.refl _ w) _ _) _ _
      have e1 : (off || (f' + 2 == 1)) = off := by simp
      refine ⟨by rw [e1]; rfl, ?_, ht⟩
      rw [HOP.out, e1]
      have e2 : ((f' + 2 - 1 : Nat) : Int) = (f' : Int) + 2 - 1 := by omega
      refine HR.out.reset ht ?_ rfl rfl (by show f' + 2 - 1 ≤ _; omega) (by simp) ho
      show _ = _
      rw [heapSet 2 _ (heapSet 4 _ H1.out)]
      simp only [e2]
      rfl

def thereE (s : St) (nm : ByteArray) : Int := if ready1 nm s.off = 0 then (match find nm.data.toList s.files with | none => 8 | some _ => 0) else ready1 nm s.off
theorem place_find {n : List UInt8} {fs : List (File Sl)} : (find n fs = none ∧ placeOf n fs = -1) ∨ ∃ i, ∃ (h : i < fs.length), find n fs = some fs[i] ∧ placeOf n fs = (i : Int) ∧ fs[i].name = n := by
  cases hf : fs.findIdx? (fun f => f.name == n) with
  | none =>
    left
    rw [List.findIdx?_eq_none_iff] at hf
    refine ⟨List.find?_eq_none.2 (fun f h => by have := hf f h; simpa using this), place_none (fun j hj => by have := hf fs[j] (List.getElem_mem hj); simpa using this)⟩
  | some i =>
    right
    have hq := hf
    rw [List.findIdx?_eq_some_iff_getElem] at hf
    obtain ⟨hi, he, hb⟩ := hf
    have he' : fs[i].name = n := by simpa using he
    refine ⟨i, hi, ?_, by unfold placeOf; rw [hq], he'⟩
    unfold find
    rw [List.find?_eq_some_iff_getElem]
    exact ⟨he, i, hi, rfl, fun j hj => by have := hb j hj; simpa using this⟩

set_option maxHeartbeats 1000000 in
theorem ref_there_any (X : Nat) (F : Nat → Prop) (v : Value) (fs : List (File Sl)) (s : St) (nm : ByteArray) (w : World) (h : RefF K w F X v fs s) (hs : nm.size ≤ 9223372036854775807) :
    Calls Try.prog 40 #[.pointer (some ⟨X, 0, none⟩), .string nm] w (fun e w' => e = .returned (.int .i64 (thereE s nm)) ∧ w' = w) := by
  have HNM := Lib.hid (ref_name_any nm w hs)
  have HAT := Lib.hid (ref_at_any X F v fs s nm w h)
  have c3 := h.1.c3
  have HE := Lib.hid (show thereE s nm = if ready1 nm s.off = 0 then (match find nm.data.toList s.files with | none => 8 | some _ => 0) else ready1 nm s.off from rfl)
  have HRD := Lib.hid (show ready1 nm s.off = if nameOk nm = true then (if s.off then 10 else 0) else 1 from rfl)
  have HF := Lib.hid (show find nm.data.toList s.files = (find nm.data.toList fs).map File.bare by rw [← h.2.2.2.2.1, bare_find])
  have HPF := Lib.hid (place_find (n := nm.data.toList) (fs := fs))
  generalize placeOf nm.data.toList fs = pl at *
  clear h
  cases hok : nameOk nm
  · have HX := Lib.hid (show thereE s nm = 1 by rw [HE.out, HRD.out, hok]; rfl)
    rw [hok] at HNM
    go_enter Try.func40, Try.ntmps40
    go_wp2_with fail
    refine HNM.out.mono ?_
    rintro e w1 ⟨rfl, rfl⟩
    go_wp2
    go_ret
    exact ⟨by rw [HX.out]; rfl, rfl⟩
  · rw [hok] at HNM
    cases hoff : s.off
    · rw [hoff] at c3
      rcases HPF.out with ⟨hf, hp⟩ | ⟨i, hi, hf, hp, _⟩
      · have HX := Lib.hid (show thereE s nm = 8 by rw [HE.out, HRD.out, hok, hoff, HF.out, hf]; rfl)
        rw [hp] at HAT
        clear hf hp hok hoff
        go_enter Try.func40, Try.ntmps40
        go_wp2_with fail
        refine HNM.out.mono ?_
        rintro e w1 ⟨rfl, rfl⟩
        go_wp2_with fail
        refine HAT.out.mono ?_
        rintro e w2 ⟨rfl, rfl⟩
        go_wp2
        go_ret
        exact ⟨by rw [HX.out]; rfl, rfl⟩
      · have HX := Lib.hid (show thereE s nm = 0 by rw [HE.out, HRD.out, hok, hoff, HF.out, hf]; rfl)
        rw [hp] at HAT
        clear hf hp hok hoff
        go_enter Try.func40, Try.ntmps40
        go_wp2_with fail
        refine HNM.out.mono ?_
        rintro e w1 ⟨rfl, rfl⟩
        go_wp2_with fail
        refine HAT.out.mono ?_
        rintro e w2 ⟨rfl, rfl⟩
        go_wp2
        go_ret
        exact ⟨by rw [HX.out]; rfl, rfl⟩
    · rw [hoff] at c3
      have HX := Lib.hid (show thereE s nm = 10 by rw [HE.out, HRD.out, hok, hoff]; rfl)
      clear hok hoff
      go_enter Try.func40, Try.ntmps40
      go_wp2_with fail
      refine HNM.out.mono ?_
      rintro e w1 ⟨rfl, rfl⟩
      go_wp2
      go_ret
      exact ⟨by rw [HX.out]; rfl, rfl⟩
end Go.Proofs.Ytglfbigklnaegaa
