/-
  A command as bytes: Encode, the program's and the document's, by contracts.
-/
import Derived.Test.YtghnelfgnfhclaaMetaT
import Derived.Test.YtghnelfgnfhclaaPackB
namespace Go.Proofs.Ytghnelfgnfhclaa
namespace M
/-- has a command a form as bytes? -/
def okc (c : C) : Bool := coded c.kind c.shard c.node
/-- a command's bytes -/
def cmd (c : C) : List UInt8 := [UInt8.ofNat c.kind, UInt8.ofNat c.shard.toNat, UInt8.ofNat c.node.toNat] ++ uv c.rev
def bytesOf (c : C) : List UInt8 := if okc c = true then cmd c else []
/-- the command that bytes tell -/
def told (p : List UInt8) : C := ⟨(p[0]?.getD 0).toNat, ((p[1]?.getD 0).toNat : Int), ((p[2]?.getD 0).toNat : Int), (rdAt p 3).1⟩
def isCmd (p : List UInt8) : Bool := decide (3 ≤ p.length) && (decide ((rdAt p 3).2.2 = 0) && (decide ((rdAt p 3).2.1 = p.length) && okc (told p)))
theorem okc_iff (c : C) : okc c = true ↔ (1 ≤ c.kind ∧ c.kind ≤ 3) ∧ (0 ≤ c.shard ∧ c.shard ≤ 7) ∧ (0 ≤ c.node ∧ c.node ≤ 4) := by
  unfold okc coded
  simp only [Bool.and_eq_true, decide_eq_true_eq]
theorem cmd_len (c : C) : 4 ≤ (cmd c).length ∧ (cmd c).length ≤ 13 := by
  have := uv_len c.rev
  unfold cmd
  simp only [List.length_append, List.length_cons, List.length_nil]
  omega
theorem bytesOf_pos (c : C) : decide (0 < (bytesOf c).length) = okc c := by
  have := cmd_len c
  unfold bytesOf
  cases okc c
  · rfl
  · rw [if_pos rfl, decide_eq_true_eq]; omega
theorem told_cmd {c : C} (h : okc c = true) (hr : c.rev < 18446744073709551616) : isCmd (cmd c) = true ∧ told (cmd c) = c := by
  obtain ⟨h1, h2, h3⟩ := (okc_iff c).1 h
  have hrd : rdAt (cmd c) 3 = (c.rev, (cmd c).length, 0) := by
    have := rdAt_uv [UInt8.ofNat c.kind, UInt8.ofNat c.shard.toNat, UInt8.ofNat c.node.toNat] [] c.rev (by simpa using hr)
    rw [List.append_nil] at this
    unfold cmd
    rw [List.length_append]
    exact this
  have ht : told (cmd c) = c := by
    obtain ⟨kind, shard, node, rev⟩ := c
    simp only at h1 h2 h3
    unfold told
    rw [hrd]
    unfold cmd
    simp only [List.cons_append, List.getElem?_cons_zero, List.getElem?_cons_succ, Option.getD_some]
    rw [toNat_of (by omega), toNat_of (by omega), toNat_of (by omega)]
    congr 1 <;> omega
  refine ⟨?_, ht⟩
  have hl := cmd_len c
  unfold isCmd
  rw [ht, hrd, h]
  simp only [Bool.and_true, Bool.and_eq_true, decide_eq_true_eq]
  exact ⟨by omega, trivial, trivial⟩
theorem cmd_told {p : List UInt8} (h : isCmd p = true) : cmd (told p) = p := by
  unfold isCmd at h
  simp only [Bool.and_eq_true, decide_eq_true_eq] at h
  obtain ⟨h1, h2, h3, h4⟩ := h
  obtain ⟨a, r, e1, e2, _, e4⟩ := rdAt_ok h2
  have hr : r = [] := by
    have := congrArg List.length e2
    simp only [List.length_append] at this
    exact List.eq_nil_of_length_eq_zero (by omega)
  subst hr
  rw [List.append_nil] at e2
  have ha : a.length = 3 := by omega
  match a, ha with
  | [x, y, z], _ =>
    unfold cmd told
    have g0 : p[0]?.getD 0 = x := by rw [e2]; rfl
    have g1 : p[1]?.getD 0 = y := by rw [e2]; rfl
    have g2 : p[2]?.getD 0 = z := by rw [e2]; rfl
    simp only [g0, g1, g2, Int.toNat_natCast, UInt8.ofNat_toNat]
    exact e2.symm
end M
open Go.RowKit Mem Go.ChangeShapes
set_option linter.unusedVariables false
set_option maxRecDepth 100000

def EncOf (c : M.C) (w : World) (e : Ending) (w' : World) : Prop :=
  ∃ v, e = .returned (.tuple #[v, .int .i64 (if M.okc c then 0 else 3)]) ∧ Own w' w.heap.size 5 v (M.bytesOf c) ∧ Below w.heap.size w w'
theorem own_fresh (w : World) (base : Nat) (e : TypeId) (cs : Array Value) (l : List UInt8) (hl : cs.toList = bcells l) (hb : base ≤ w.heap.size) (hn : l.length ≤ 9223372036854775807) :
    Own (w.alloc (.cells cs e)) base e (.slice (some ⟨w.heap.size, 0, none⟩) l.length l.length) l := by
  refine ⟨by rw [bcells_len]; omega, .inr ⟨w.heap.size, l.length, cs, rfl, hb, heap_alloc_new w _, Nat.le_refl _, by simpa only [maxLen] using hn, ?_, ?_⟩⟩
  · have := congrArg List.length hl
    rw [bcells_len] at this
    simpa using this
  · rw [hl, Nat.mul_one, List.take_of_length_le (by rw [bcells_len]; exact Nat.le_refl _)]
theorem three_cells {a b c : Nat} (ha : a < 256) (hb : b < 256) (hc : c < 256) : (#[Value.int .u8 (a : Int), .int .u8 (b : Int), .int .u8 (c : Int)] : Array Value).toList = bcells [UInt8.ofNat a, UInt8.ofNat b, UInt8.ofNat c] := by
  simp only [bcells, bcell, List.map_cons, List.map_nil]
  rw [M.toNat_of ha, M.toNat_of hb, M.toNat_of hc]

set_option maxHeartbeats 4000000 in
theorem encode_any (c : M.C) (w : World) (hc : CmdOk c) : Calls Try.prog 19 #[cval c] w (EncOf c w) := by
  obtain ⟨i0, hi, hz0, hz1, hz2⟩ := info_parts Try.info_byte
  have HI := Lib.hid hi; have HZ0 := Lib.hid hz0; have HZ1 := Lib.hid hz1; have HZ2 := Lib.hid hz2
  clear hi hz0 hz1 hz2
  have HWR := Lib.hid (fun W => written_any c W hc.kind)
  have HUV := Lib.hid (fun W => uvarint_any c.rev W hc.rev)
  have HOI := Lib.hid (M.okc_iff c)
  have HBY := Lib.hid (show M.bytesOf c = if M.okc c = true then M.cmd c else [] from rfl)
  unfold EncOf
  have HOK : Hid (coded c.kind c.shard c.node = M.okc c) := rfl
  rw [HOK.out] at HWR
  generalize M.okc c = ok at *
  clear HOK
  obtain ⟨kind, shard, node, rev⟩ := c
  simp only [cval] at HWR HUV HOI ⊢
  have hk256 := hc.kind
  simp only at hk256
  clear hc
  obtain ⟨w1, hw1⟩ : ∃ w1, w1 = w.alloc (.cells #[.int .u8 (kind : Int), .int .i64 shard, .int .i64 node, .int .u64 (rev : Int)] 39) := ⟨_, rfl⟩
  have hbx : w1.heap[w.heap.size]? = some (.cells #[.int .u8 (kind : Int), .int .i64 shard, .int .i64 node, .int .u64 (rev : Int)] 39 (0, 0)) := by rw [hw1]; exact heapNew (w := w) _
  have HB := Lib.hid (show Below w.heap.size w w1 by rw [hw1]; exact bel_alloc' w _)
  have HBX := Lib.hid hbx
  have HW1 := Lib.hid hw1.symm
  clear hw1 hbx
  cases ok
  · go_enter Try.func19, Try.ntmps19
    go_upto_region 1 with (fail)
    rw [HW1.out]
    have c0 : w1.cell? ⟨w.heap.size, 0, none⟩ = some (.int .u8 (kind : Int)) := cellAt 0 HBX.out
    have c1 : w1.cell? ⟨w.heap.size, 1, none⟩ = some (.int .i64 shard) := cellAt 1 HBX.out
    have c2 : w1.cell? ⟨w.heap.size, 2, none⟩ = some (.int .i64 node) := cellAt 2 HBX.out
    have c3 : w1.cell? ⟨w.heap.size, 3, none⟩ = some (.int .u64 (rev : Int)) := cellAt 3 HBX.out
    go_wp2_with fail
    refine (HWR.out w1).mono ?_
    rintro e w2 ⟨rfl, hb2⟩
    go_wp2
    go_ret2
    exact ⟨_, rfl, by rw [HBY.out, if_neg (by simp)]; exact Own.nil _ _ _, HB.out.trans (hb2.mono HB.out.size)⟩
  · obtain ⟨⟨k1, k2⟩, ⟨s1, s2⟩, ⟨n1, n2⟩⟩ := HOI.out.1 rfl
    clear HOI
    obtain ⟨s, rfl⟩ : ∃ s : Nat, shard = (s : Int) := ⟨shard.toNat, by omega⟩
    obtain ⟨d, rfl⟩ : ∃ d : Nat, node = (d : Int) := ⟨node.toNat, by omega⟩
    have hs7 : s ≤ 7 := by omega
    have hd4 : d ≤ 4 := by omega
    have hws : IntKind.u8.wrap (s : Int) = (s : Int) := by rw [IntKind.wrap_u8]; omega
    have hwd : IntKind.u8.wrap (d : Int) = (d : Int) := by rw [IntKind.wrap_u8]; omega
    have HT := Lib.hid (three_cells hk256 (show s < 256 by omega) (show d < 256 by omega))
    have HBY2 := Lib.hid (show M.bytesOf ⟨kind, (s : Int), (d : Int), rev⟩ = [UInt8.ofNat kind, UInt8.ofNat s, UInt8.ofNat d] ++ M.uv rev by
      rw [HBY.out, if_pos rfl]
      unfold M.cmd
      simp only [Int.toNat_natCast])
    have HUL := Lib.hid (M.uv_len rev)
    clear HBY k1 k2 s1 s2 n1 n2 hk256
    go_enter Try.func19, Try.ntmps19
    go_upto_region 1 with (fail)
    rw [HW1.out]
    have c0 : w1.cell? ⟨w.heap.size, 0, none⟩ = some (.int .u8 (kind : Int)) := cellAt 0 HBX.out
    have c1 : w1.cell? ⟨w.heap.size, 1, none⟩ = some (.int .i64 (s : Int)) := cellAt 1 HBX.out
    have c2 : w1.cell? ⟨w.heap.size, 2, none⟩ = some (.int .i64 (d : Int)) := cellAt 2 HBX.out
    have c3 : w1.cell? ⟨w.heap.size, 3, none⟩ = some (.int .u64 (rev : Int)) := cellAt 3 HBX.out
    go_wp2_with fail
    refine (HWR.out w1).mono ?_
    rintro e w2 ⟨rfl, hb2⟩
    have HB2 := Lib.hid (HB.out.trans (hb2.mono HB.out.size))
    have hbx := (hb2.block w.heap.size (heapLt HBX.out)).trans HBX.out
    have hl2 : w.heap.size < w2.heap.size := heapLt hbx
    clear hb2 c0 c1 c2 c3
    have c0 : w2.cell? ⟨w.heap.size, 0, none⟩ = some (.int .u8 (kind : Int)) := cellAt 0 hbx
    have c1 : w2.cell? ⟨w.heap.size, 1, none⟩ = some (.int .i64 (s : Int)) := cellAt 1 hbx
    have c2 : w2.cell? ⟨w.heap.size, 2, none⟩ = some (.int .i64 (d : Int)) := cellAt 2 hbx
    have c3 : w2.cell? ⟨w.heap.size, 3, none⟩ = some (.int .u64 (rev : Int)) := cellAt 3 hbx
    clear hbx
    go_wp2_with fail
    refine (HUV.out _).mono ?_
    rintro e w3 ⟨q, rfl, hq, hb3⟩
    have hf3 := (own_fresh w2 w.heap.size 5 #[.int .u8 (kind : Int), .int .u8 (s : Int), .int .u8 (d : Int)] [UInt8.ofNat kind, UInt8.ofNat s, UInt8.ofNat d] HT.out HB2.out.size (by simp)).below hb3
    have hB3 := (HB2.out.alloc HB2.out.size (.cells #[.int .u8 (kind : Int), .int .u8 (s : Int), .int .u8 (d : Int)] 5)).trans (hb3.mono (B' := w.heap.size) (by simp; omega))
    obtain ⟨A3, n3, rfl, hr3⟩ := hq.open_
    clear c0 c1 c2 c3
    go_wp2_with (at_builtin; go_must (refine wpList_app w3 rfl (.tmp 17) (.tmp 20) _ rfl w.heap.size _ _ i0 Try.underlying45 HI.out HZ0.out HZ1.out HZ2.out _ [UInt8.ofNat kind, UInt8.ofNat s, UInt8.ofNat d] hf3 rfl _ _ _ _ hr3 rfl ?_ ?_ ?_))
    · have := HUL.out; simp only [List.length_cons, List.length_nil]; omega
    · exact hB3.size
    intro v4 w4 hv4 hg4 _
    have hB4 := hB3.trans (below_own hf3 hB3.size hg4)
    go_wp2
    go_ret2
    exact ⟨_, rfl, by rw [HBY2.out]; exact hv4, hB4⟩

set_option maxHeartbeats 4000000 in
theorem refEncode_any (c : M.C) (w : World) (hc : CmdOk c) : Calls Try.prog 20 #[cval c] w (Gives w (M.bytesOf c)) := by
  obtain ⟨i0, hi, hz0, hz1, hz2⟩ := info_parts Try.info_byte
  have HI := Lib.hid hi; have HZ0 := Lib.hid hz0; have HZ1 := Lib.hid hz1; have HZ2 := Lib.hid hz2
  clear hi hz0 hz1 hz2
  have HUV := Lib.hid (fun W => ref_uvarint_any c.rev W hc.rev)
  have HOI := Lib.hid (M.okc_iff c)
  have HBY := Lib.hid (show M.bytesOf c = if M.okc c = true then M.cmd c else [] from rfl)
  generalize M.okc c = ok at *
  obtain ⟨kind, shard, node, rev⟩ := c
  simp only [cval] at HUV HOI ⊢
  have hk256 := hc.kind
  simp only at hk256
  clear hc
  obtain ⟨K, hK⟩ : ∃ K : Int, K = (kind : Int) := ⟨_, rfl⟩
  rw [← hK]
  have HK := Lib.hid hK
  clear hK
  obtain ⟨w1, hw1⟩ : ∃ w1, w1 = w.alloc (.cells #[.int .u8 K, .int .i64 shard, .int .i64 node, .int .u64 (rev : Int)] 39) := ⟨_, rfl⟩
  have hbx : w1.heap[w.heap.size]? = some (.cells #[.int .u8 K, .int .i64 shard, .int .i64 node, .int .u64 (rev : Int)] 39 (0, 0)) := by rw [hw1]; exact heapNew (w := w) _
  have HB := Lib.hid (show Below w.heap.size w w1 by rw [hw1]; exact bel_alloc' w _)
  have HBX := Lib.hid hbx
  have HW1 := Lib.hid hw1.symm
  clear hw1 hbx
  go_enter Try.func20, Try.ntmps20
  go_upto_region 1 with (fail)
  rw [HW1.out]
  have c0 : w1.cell? ⟨w.heap.size, 0, none⟩ = some (.int .u8 K) := cellAt 0 HBX.out
  have c1 : w1.cell? ⟨w.heap.size, 1, none⟩ = some (.int .i64 shard) := cellAt 1 HBX.out
  have c2 : w1.cell? ⟨w.heap.size, 2, none⟩ = some (.int .i64 node) := cellAt 2 HBX.out
  have c3 : w1.cell? ⟨w.heap.size, 3, none⟩ = some (.int .u64 (rev : Int)) := cellAt 3 HBX.out
  cases ok
  · have hK := HK.out
    have hno : K < 1 ∨ 3 < K ∨ shard < 0 ∨ 7 < shard ∨ node < 0 ∨ 4 < node := by
      have : ¬ ((1 ≤ kind ∧ kind ≤ 3) ∧ (0 ≤ shard ∧ shard ≤ 7) ∧ (0 ≤ node ∧ node ≤ 4)) := fun h => by have := HOI.out.2 h; cases this
      omega
    have HN := Lib.hid (show M.bytesOf ⟨kind, shard, node, rev⟩ = [] by rw [HBY.out, if_neg (by simp)])
    clear HOI HBY hK HK hk256 HUV
    by_cases g1 : K < 1
    · clear hno
      go_wp2
      go_ret
      exact ⟨_, rfl, by rw [HN.out]; exact Own.nil _ _ _, HB.out⟩
    by_cases g2 : 3 < K
    · clear hno
      go_wp2
      go_ret
      exact ⟨_, rfl, by rw [HN.out]; exact Own.nil _ _ _, HB.out⟩
    by_cases g3 : shard < 0
    · clear hno
      go_wp2
      go_ret
      exact ⟨_, rfl, by rw [HN.out]; exact Own.nil _ _ _, HB.out⟩
    by_cases g4 : 7 < shard
    · clear hno
      go_wp2
      go_ret
      exact ⟨_, rfl, by rw [HN.out]; exact Own.nil _ _ _, HB.out⟩
    by_cases g5 : node < 0
    · clear hno
      go_wp2
      go_ret
      exact ⟨_, rfl, by rw [HN.out]; exact Own.nil _ _ _, HB.out⟩
    have g6 : 4 < node := by omega
    clear hno
    go_wp2
    go_ret
    exact ⟨_, rfl, by rw [HN.out]; exact Own.nil _ _ _, HB.out⟩
  · obtain ⟨⟨k1, k2⟩, ⟨s1, s2⟩, ⟨n1, n2⟩⟩ := HOI.out.1 rfl
    clear HOI
    obtain ⟨s, rfl⟩ : ∃ s : Nat, shard = (s : Int) := ⟨shard.toNat, by omega⟩
    obtain ⟨d, rfl⟩ : ∃ d : Nat, node = (d : Int) := ⟨node.toNat, by omega⟩
    have hs7 : s ≤ 7 := by omega
    have hd4 : d ≤ 4 := by omega
    have hK := HK.out
    have hk1 : 1 ≤ K := by omega
    have hk3 : K ≤ 3 := by omega
    have hws : IntKind.u8.wrap (s : Int) = (s : Int) := by rw [IntKind.wrap_u8]; omega
    have hwd : IntKind.u8.wrap (d : Int) = (d : Int) := by rw [IntKind.wrap_u8]; omega
    have HT := Lib.hid (three_cells hk256 (show s < 256 by omega) (show d < 256 by omega))
    rw [← hK] at HT
    have HBY2 := Lib.hid (show M.bytesOf ⟨kind, (s : Int), (d : Int), rev⟩ = [UInt8.ofNat kind, UInt8.ofNat s, UInt8.ofNat d] ++ M.uv rev by
      rw [HBY.out, if_pos rfl]
      unfold M.cmd
      simp only [Int.toNat_natCast])
    have HUL := Lib.hid (M.uv_len rev)
    clear HBY k1 k2 s1 s2 n1 n2 hk256 hK HK
    have hl1 : w.heap.size < w1.heap.size := heapLt HBX.out
    go_wp2_with fail
    refine (HUV.out _).mono ?_
    rintro e w3 ⟨q, rfl, hq, hb3⟩
    have hf3 := (own_fresh w1 w.heap.size 5 #[.int .u8 K, .int .u8 (s : Int), .int .u8 (d : Int)] [UInt8.ofNat kind, UInt8.ofNat s, UInt8.ofNat d] HT.out HB.out.size (by simp)).below hb3
    have hB3 := (HB.out.alloc HB.out.size (.cells #[.int .u8 K, .int .u8 (s : Int), .int .u8 (d : Int)] 5)).trans (hb3.mono (B' := w.heap.size) (by simp; omega))
    obtain ⟨A3, n3, rfl, hr3⟩ := hq.open_
    clear c0 c1 c2 c3
    go_wp2_with (at_builtin; go_must (refine wpList_app w3 rfl (.tmp 41) (.tmp 44) _ rfl w.heap.size _ _ i0 Try.underlying45 HI.out HZ0.out HZ1.out HZ2.out _ [UInt8.ofNat kind, UInt8.ofNat s, UInt8.ofNat d] hf3 rfl _ _ _ _ hr3 rfl ?_ ?_ ?_))
    · have := HUL.out; simp only [List.length_cons, List.length_nil]; omega
    · exact hB3.size
    intro v4 w4 hv4 hg4 _
    have hB4 := hB3.trans (below_own hf3 hB3.size hg4)
    go_wp2
    go_ret
    exact ⟨_, rfl, by rw [HBY2.out]; exact hv4, hB4⟩
end Go.Proofs.Ytghnelfgnfhclaa
