/-
  What the document's drop and Remove do, by contracts.
-/
import Derived.Test.YtglfbigklnaegaaRefC
namespace Go.Proofs.Ytglfbigklnaegaa
open Go.RowKit Mem FM
set_option linter.unusedVariables false
set_option maxRecDepth 100000
variable {K : Nat → Prop}

theorem Try.infoF : (Try.prog.info? 60).map (fun i => (i.zero, i.size, i.bytes)) = some (some (.agg #[.string ⟨#[]⟩, .slice none 0 0, .int .i64 0]), 3, 48) := by kernel_rfl

/-- the files lie in a new row -/
theorem RefF.relaid {w w1 : World} {F : Nat → Prop} {X : Nat} {v v1 : Value} {fs ls : List (File Sl)} {s : St} (h : RefF K w F X v fs s) (hb : Below w.heap.size w w1) (hrow : w1.ownsRow w.heap.size 60 3 v1 ls.length (rcells ls))
    (hri : Rise ls) (hst : ∀ f ∈ ls, Steady K F w f.x.A f.data.length f.x.c f.data ∧ f.sure ≤ f.data.length) (hus : used ls ≤ s.room) (hln : ls.length ≤ s.ops) :
    ∃ F', RefF K (w1.setCell ⟨X, 0, none⟩ v1) F' X v1 ls ⟨s.room, bare ls, s.ops, s.fuse, s.off⟩ ∧ Turned F w (w1.setCell ⟨X, 0, none⟩ v1) ∧ Spread F F' w := by
  obtain ⟨h1, h2, h3, h4, h5, h6, h7, h8, h9⟩ := h
  have hX := h9 X h2
  have hT : Turned F w (w1.setCell ⟨X, 0, none⟩ v1) := Turned.setCell (p := ⟨X, 0, none⟩) (Turned.of_below hb) (.inl h2) v1
  have hS : Spread F (fun k => F k ∨ (w.heap.size ≤ k ∧ k < w1.heap.size)) w := fun k hk => hk.imp id And.left
  have hb1 : RB w1 X v s := (hb.block X hX).trans h1
  have hsz := hb.size
  refine ⟨fun k => F k ∨ (w.heap.size ≤ k ∧ k < w1.heap.size), ⟨(heapSet 0 v1 hb1).trans rfl, .inl h2, ?_, fun k hk => .inr (hrow.lt k hk), rfl, hri, fun f hf => ⟨(hst f hf).1.step hT hS, (hst f hf).2⟩, ⟨by rw [bare_used]; exact hus, h8.2.1, h8.2.2.1, h8.2.2.2.1, hln⟩, fun k hk => ?_⟩, hT, hS⟩
  · refine row_far (G := (· = X)) (ownsRow_base_a hrow (Nat.zero_le _)) ?_ (fun k hk e => by have := (hrow.lt k hk).1; omega)
    exact setX (Turned.refl _ _) 0 v1
  · have : k < w1.heap.size := by
      rcases hk with hk | hk
      · have := h9 k hk; omega
      · exact hk.2
    simpa [World.setCell] using this

def DropInv (w : World) (fs : List (File Sl)) (n : List UInt8) (i : Nat) (v : Value) (ls : List (File Sl)) (w' : World) : Prop :=
  w'.ownsRow w.heap.size 60 3 v ls.length (rcells ls) ∧ Below w.heap.size w w' ∧ ls = del n (fs.take i)
/-- without the file of that name -/
def RDropped (K F : Nat → Prop) (X : Nat) (fs : List (File Sl)) (s : St) (n : List UInt8) (w : World) (e : Ending) (w' : World) : Prop :=
  e = .returned (.tuple #[]) ∧ ∃ F' v, RefF K w' F' X v (del n fs) ⟨s.room, bare (del n fs), s.ops, s.fuse, s.off⟩ ∧ Turned F w w' ∧ Spread F F' w
theorem used_del_le (n : List UInt8) (fs : List (File Sl)) : used (del n fs) ≤ used fs := by
  induction fs with
  | nil => simp [del]
  | cons a r ih =>
    unfold del used at *
    by_cases h : (a.name != n) = true
    · simp only [List.filter_cons, h, if_true, List.map_cons, List.sum_cons]; omega
    · simp only [List.filter_cons, h, if_false, List.map_cons, List.sum_cons, Bool.false_eq_true]; omega
theorem del_take {n : List UInt8} {fs : List (File Sl)} {i : Nat} (h : i < fs.length) : del n (fs.take (i + 1)) = del n (fs.take i) ++ (if fs[i].name = n then [] else [fs[i]]) := by
  unfold del
  rw [List.take_succ_eq_append_getElem h, List.filter_append]
  by_cases e : fs[i].name = n <;> simp [e]

set_option maxHeartbeats 2000000 in
theorem ref_drop_any (X : Nat) (F : Nat → Prop) (v : Value) (fs : List (File Sl)) (s : St) (nm : ByteArray) (w : World) (h : RefF K w F X v fs s) :
    Calls Try.prog 43 #[.pointer (some ⟨X, 0, none⟩), .string nm] w (RDropped K F X fs s nm.data.toList w) := by
  obtain ⟨i0, hi, hz0, hz1, hz2⟩ := info_parts Try.infoF
  have HI := Lib.hid hi; have HZ0 := Lib.hid hz0; have HZ1 := Lib.hid hz1; have HZ2 := Lib.hid hz2
  clear hi hz0 hz1 hz2
  obtain ⟨A, c, rfl, hc, hcm⟩ := h.form
  have HR := Lib.hid h
  obtain ⟨n, hn⟩ : ∃ n, fs.length = n := ⟨_, rfl⟩
  have HN := Lib.hid hn
  rw [hn] at hc HR
  have hnn : n < 1099511627776 := by have := HR.out.2.2.2.2.2.2.2.1; omega
  have HS0 := Lib.hid (show DropInv w fs nm.data.toList 0 (.slice none 0 0) [] w from ⟨World.ownsRow_nil _ _ _ _, Below.refl _ _, by simp [del]⟩)
  clear h hn
  go_enter Try.func43, Try.ntmps43
  go_wp2
  go_loopw [4, 5] (fun o p wr => ∃ (i m c2 : Nat) (A2 : Option Addr) (ls : List (File Sl)), p = .int .i64 i ∧ o = .slice A2 m c2 ∧ i ≤ n ∧ m ≤ i ∧ Hid (ls.length = m) ∧ Hid (DropInv w fs nm.data.toList i (.slice A2 m c2) ls wr)) (fun _ p _ => n - (intOf p).toNat)
  case atStart => exact ⟨0, 0, 0, none, [], rfl, rfl, Nat.zero_le _, Nat.zero_le _, Lib.hid rfl, HS0⟩
  case round =>
    obtain ⟨i, m, c2, A2, ls, rfl, rfl, hi, hmi, HM, HV⟩ := hrel
    rename World => wr
    obtain ⟨hrow, hb, hls⟩ := HV.out
    have hRw := HR.out.below hb
    have HRW := Lib.hid hRw
    have c0 := hRw.1.c0
    have hbs : w.heap.size ≤ wr.heap.size := hb.size
    have HB := Lib.hid hb; have HLS := Lib.hid hls
    have HRM := Lib.hid (show wr.ownsRow w.heap.size 60 3 (.slice A2 m c2) m (rcells ls) by have := hrow; rwa [HM.out] at this)
    clear hrow hb hls hRw
    by_cases hlt : i < n
    · have hix : i < fs.length := by rw [HN.out]; exact hlt
      obtain ⟨g, rfl, hg, _, _, q0, q1, q2⟩ := HRW.out.at_ hix
      have hil : (i : Int) < (n : Int) := by omega
      have HDT := Lib.hid (del_take (n := nm.data.toList) hix)
      by_cases he : fs[i].name = nm.data.toList
      · have HV2 := Lib.hid (show DropInv w fs nm.data.toList (i + 1) (.slice A2 m c2) ls wr from ⟨HV.out.1, HV.out.2.1, by rw [HDT.out, if_pos he, List.append_nil]; exact HLS.out⟩)
        have hq : (fs[i].name == nm.toList) = true := by rw [eq_name]; simpa using he
        clear he
        generalize fs[i].name = y at *
        go_wp2
        go_roundw
        case rel => exact ⟨i + 1, m, c2, A2, ls, by go_num, rfl, by omega, by omega, HM, HV2⟩
        case measure => simp [intOf]; omega
      · have HLS2 := Lib.hid (show ls ++ [fs[i]] = del nm.data.toList (fs.take (i + 1)) by rw [HDT.out, if_neg he, HLS.out])
        have hq : (fs[i].name == nm.toList) = false := by rw [eq_name]; simpa using he
        have HQ := Lib.hid (show rcells [fs[i]] = [.string ⟨fs[i].name.toArray⟩, .slice fs[i].x.A fs[i].data.length fs[i].x.c, .int .i64 (fs[i].sure : Int)] from rfl)
        clear he
        generalize fs[i] = fi at *
        obtain ⟨y, hy⟩ : ∃ y, fi.name = y := ⟨_, rfl⟩
        obtain ⟨a1, ha1⟩ : ∃ a1, fi.x.A = a1 := ⟨_, rfl⟩
        obtain ⟨l1, hl1⟩ : ∃ l1, fi.data.length = l1 := ⟨_, rfl⟩
        obtain ⟨cc, hcc⟩ : ∃ cc, fi.x.c = cc := ⟨_, rfl⟩
        obtain ⟨su, hsu⟩ : ∃ su, (fi.sure : Int) = su := ⟨_, rfl⟩
        rw [hy] at q0 hq HQ
        rw [ha1, hl1, hcc] at q1 HQ
        rw [hsu] at q2 HQ
        clear hy ha1 hl1 hcc hsu
        go_wp2_with (at_builtin; go_must (refine wpList_append_lies _ rfl (.tmp 25) (.tmp 33) _ rfl w.heap.size 60 i0 _ 3 48 Try.underlying29 HI.out HZ0.out HZ1.out HZ2.out rfl (by omega) (.slice A2 m c2) m _ rfl (HRM.out.alloc _) ⟨wr.heap.size, 0, none⟩ 1 1 [.string ⟨y.toArray⟩, .slice a1 l1 cc, .int .i64 su] rfl rfl (World.news_of_block (cs := #[.string ⟨y.toArray⟩, .slice a1 l1 cc, .int .i64 su]) (t := 60) (fr := (0, 0)) (heap_alloc_new wr _)) (by simp [Value.oneCell']) (by omega) (by simp only [maxLen]; omega) (by omega) (by simp; omega) (wr.heap.size + 1) (by simp) ?_))
        intro g9 cap9 w9 hown9 hgrow9 hat9 hlt9
        have HM9 := Lib.hid (show (ls ++ [fi]).length = m + 1 by rw [List.length_append, HM.out]; rfl)
        have HV9 := Lib.hid (show DropInv w fs nm.data.toList (i + 1) (.slice (some ⟨g9, 0, none⟩) (m + 1) cap9) (ls ++ [fi]) w9 from
          ⟨by rw [HM9.out, rcells_app, HQ.out]; exact hown9, (HB.out.alloc hbs _).grown hgrow9 (by simp; omega) (fun k' hk' => (HRM.out.lt k' hk').1), HLS2.out⟩)
        clear hown9 hgrow9 hat9
        go_wp2
        go_roundw
        case rel => exact ⟨i + 1, m + 1, cap9, _, _, by go_num, rfl, by omega, by omega, HM9, HV9⟩
        case measure => simp [intOf]; omega
    · have hfz : wr.frozen? ⟨X, 0, none⟩ = false := freeAt 0 HRW.out.1
      go_wp2
      refine bodyPost_end (results_none rfl _ _ _) rfl ?_
      have hls : ls = del nm.data.toList fs := by rw [HLS.out, List.take_of_length_le (by rw [HN.out]; omega)]
      subst hls
      have hsub : ∀ f ∈ del nm.data.toList fs, f ∈ fs := fun f hf => (List.mem_filter.1 hf).1
      obtain ⟨F', r1, r2, r3⟩ := HR.out.relaid HB.out HV.out.1 (HR.out.2.2.2.2.2.1.del) (fun f hf => HR.out.2.2.2.2.2.2.1 f (hsub f hf)) (by
        have h1 := HR.out.2.2.2.2.2.2.2.1.1
        rw [← HR.out.2.2.2.2.1, bare_used] at h1
        have := used_del_le nm.data.toList fs
        omega) (by
        have h1 := HR.out.2.2.2.2.2.2.2.1.2.2.2.2
        have : (del nm.data.toList fs).length ≤ fs.length := List.length_filter_le _ _
        omega)
      exact ⟨rfl, F', _, r1, r2, r3⟩
end Go.Proofs.Ytglfbigklnaegaa
