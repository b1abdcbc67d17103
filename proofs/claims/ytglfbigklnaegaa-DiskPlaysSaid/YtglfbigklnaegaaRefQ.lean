/-
  What the law's same says: both disks tell the same of themselves.
-/
import Derived.Test.YtglfbigklnaegaaRefP
namespace Go.Proofs.Ytglfbigklnaegaa
open Go.RowKit Mem FM
set_option linter.unusedVariables false
set_option maxRecDepth 100000

def nsf : ByteArray := ⟨#[110, 111, 45, 115, 117, 99, 104, 45, 102, 105, 108, 101]⟩
theorem find_free {n : List UInt8} {s : St} (h : Free n s) : find n s.files = none := List.find?_eq_none.2 (fun f hf => by have := h f hf; simpa using this)
/-- the file number i of the document's disk, in memory -/
theorem RefF.file {K F : Nat → Prop} {w : World} {X n i c : Nat} {A : Option Addr} {fs : List (File Sl)} {s : St} (h : RefF K w F X (.slice A n c) fs s) (hi : i < s.files.length) :
    ∃ (g : Nat) (x : Sl), A = some ⟨g, 0, none⟩ ∧ g < w.heap.size ∧ w.cell? ⟨g, i * 3, none⟩ = some (.string ⟨s.files[i].name.toArray⟩) ∧ w.cell? ⟨g, i * 3 + 1, none⟩ = some (.slice x.A s.files[i].data.length x.c) ∧ w.cell? ⟨g, i * 3 + 2, none⟩ = some (.int .i64 (s.files[i].sure : Int)) ∧ Steady K F w x.A s.files[i].data.length x.c s.files[i].data := by
  have h5 := h.2.2.2.2.1
  have hi' : i < fs.length := by rw [← h5] at hi; simpa [bare] using hi
  have e : s.files[i] = fs[i].bare := by
    have h2 : (bare fs)[i]? = some fs[i].bare := by unfold bare; rw [List.getElem?_map, List.getElem?_eq_getElem hi']; rfl
    rw [h5, List.getElem?_eq_getElem hi] at h2
    injection h2
  obtain ⟨g, rfl, hg, _, _, q0, q1, q2⟩ := h.at_ hi'
  rw [e]
  exact ⟨g, fs[i].x, rfl, hg, q0, q1, q2, (h.2.2.2.2.2.2.1 fs[i] (List.getElem_mem hi')).1⟩

set_option maxHeartbeats 8000000 in
theorem same_on (B0 D X : Nat) (F G : Nat → Prop) (s : St) (w : World) (h : Two B0 w F G D X s s) (hn : Named s) (hf : Free nsf.data.toList s) (hoff : s.off = false) :
    Calls Try.prog 8 #[.pointer (some ⟨D, 0, none⟩), .pointer (some ⟨X, 0, none⟩)] w (Yes w) := by
  have HN := Lib.hid (names_any D F s w h.1)
  have HT := Lib.hid h; have HNM := Lib.hid hn; have HF := Lib.hid (find_free hf)
  have HRI := Lib.hid h.1.rise
  clear h hn hf
  go_enter Try.func8, Try.ntmps8
  go_wp2_with fail
  refine HN.out.mono ?_
  rintro e w1 hnames
  obtain ⟨A1, n1, c1, rfl, hrd1, hb1⟩ := hnames.rd
  have hT1 := HT.out.below hb1
  have HT1 := Lib.hid hT1
  obtain ⟨v, fs, hR⟩ := hT1.2.1
  obtain ⟨A0, c0', rfl, hcc, hccm⟩ := hR.form
  have hlen : fs.length = n1 := by rw [hrd1.1, ← hR.2.2.2.2.1]; simp [bare]
  have c0 := hR.1.c0; have c3 := hR.1.c3; have c4 := hR.1.c4
  rw [hlen] at hcc c0
  rw [hoff] at c3
  have hopb : s.ops < 1099511627776 := hR.2.2.2.2.2.2.2.1.2.2.2.1
  have HR1 := Lib.hid hR
  have HRD1 := Lib.hid hrd1
  have hc1 := hrd1.2.1; have hcm1 := hrd1.2.2.1
  have HN1 := Lib.hid hrd1.1
  have HB1 := Lib.hid hb1
  have HU1 := Lib.hid (fun j => used_any D F s (w1.drewN j) (hT1.1.drewN j))
  have HU2 := Lib.hid (fun j => ref_used_any X G _ fs s (w1.drewN j) (hR.below ⟨rfl, rfl, rfl, Nat.le_refl _, fun _ _ => rfl⟩))
  have HOP := Lib.hid (fun j => ops_any D F s (w1.drewN j) (hT1.1.drewN j))
  have HON := Lib.hid (fun j => on_any D F s (w1.drewN j) (hT1.1.drewN j))
  simp only [hoff] at HON
  have HX1 := Lib.hid (hR.2.2.2.2.2.2.2.2 X hR.2.1)
  obtain ⟨us, hus⟩ : ∃ us, used s.files = us := ⟨_, rfl⟩
  obtain ⟨op, hop⟩ : ∃ op, s.ops = op := ⟨_, rfl⟩
  simp only [hus] at HU1 HU2
  simp only [hop] at HOP
  rw [hop] at c4 hopb
  clear hT1 hnames hR hrd1 hb1 hus hop HN hlen
  go_wp2_with fail
  go_quiet ((first
    | (go_at_call 13; refine Calls.quiet_of_same (HU1.out _))
    | (go_at_call 27; refine Calls.quiet_of_same (HU2.out _))
    | (go_at_call 28; refine Calls.quiet_of_same (HOP.out _))
    | (go_at_call 10; refine Calls.quiet_of_same (HON.out _))))
  have HI0 := Lib.hid (show Below w1.heap.size w1 (w1.drewN nq) from ⟨rfl, rfl, rfl, Nat.le_refl _, fun _ _ => rfl⟩)
  clear HU1 HU2 HOP HON c0 c3 c4
  go_wp2_with fail
  go_loopw [6] (fun p wi => ∃ i : Nat, p = .int .i64 i ∧ i ≤ n1 ∧ Hid (Below w1.heap.size w1 wi)) (fun p _ => n1 - (intOf p).toNat)
  case atStart => exact ⟨0, rfl, Nat.zero_le _, HI0⟩
  case round =>
    obtain ⟨i, rfl, hi, HBI⟩ := hrel
    rename World => wi
    have HTI := Lib.hid (HT1.out.below HBI.out)
    by_cases hlt : i < n1
    · have hix : i < s.files.length := by have := HN1.out; omega
      have hnl : (⟨s.files[i].name.toArray⟩ : ByteArray).size ≤ 9223372036854775807 := by
        have := HNM.out _ (List.getElem_mem hix)
        unfold nameOk at this
        simp only [Bool.and_eq_true, decide_eq_true_eq] at this
        omega
      obtain ⟨g1, rfl, hg1, hnm1⟩ := (HRD1.out.below HBI.out).2.2.2 (by omega)
      have q := hnm1 i hix
      have hRI := HR1.out.below HBI.out
      have c0 := hRI.1.c0; have c3 := hRI.1.c3
      obtain ⟨g0, x0, rfl, hg0, q0, q1, q2, hst⟩ := hRI.file hix
      have hXl := hRI.2.2.2.2.2.2.2.2 X hRI.2.1
      rw [hoff] at c3
      have hfl : fs.length = n1 := by rw [HN1.out, ← hRI.2.2.2.2.1]; simp [bare]
      rw [hfl] at c0
      have HSU := Lib.hid (fun j => sure_any D F s ⟨s.files[i].name.toArray⟩ (wi.drewN j) (HTI.out.1.drewN j) hnl)
      simp only [sure_named HRI.out hix] at HSU
      have HRE := Lib.hid (fun j => read_any D F s ⟨s.files[i].name.toArray⟩ (wi.drewN j) (HTI.out.1.drewN j) hnl)
      have hrn := read_named HNM.out HRI.out hix
      rw [hoff] at hrn
      simp only [Bool.false_eq_true, if_false] at hrn
      simp only [hrn] at HRE
      have HST := Lib.hid hst
      have hil : (i : Int) < (n1 : Int) := by omega
      have hup : ∃ x, x = s.files[i].data.length := ⟨_, rfl⟩
      have hcx := hst.rd.cap; have hmx := hst.rd.max
      generalize s.files[i].data = dat at *
      generalize s.files[i].name = nm at *
      generalize s.files[i].sure = su at *
      obtain ⟨xA, xc⟩ := x0
      simp only at q1 HST hcx hmx
      obtain ⟨L, hL⟩ : ∃ L, dat.length = L := ⟨_, rfl⟩
      rw [hL] at q1 HST hcx
      clear hup hrn hnl hnm1 hRI hst hfl
      go_wp2_with fail
      go_quiet ((go_at_call 12; refine Calls.quiet_of_same (HSU.out _)))
      go_wp2_with fail
      refine (HRE.out nq).mono ?_
      rintro e w3 ⟨v3, rfl, hO3, hb3', -⟩
      obtain ⟨A3, c3', rfl, hrd3⟩ := hO3.open_
      have hb3 : Below wi.heap.size wi w3 := ⟨hb3'.os, hb3'.tape, hb3'.output, hb3'.size, hb3'.block⟩
      have c0' := (hb3.cell (p := ⟨X, 0, none⟩) hXl).trans c0
      have c3'' := (hb3.cell (p := ⟨X, 3, none⟩) hXl).trans c3
      have q1' := (hb3.cell (p := ⟨g0, i * 3 + 1, none⟩) hg0).trans q1
      have HB3 := Lib.hid (HBI.out.trans (hb3.mono HBI.out.size))
      rw [hL] at hrd3 ⊢
      have v1 := fun j => run_str (P := Try.prog) (w := w3.drewN j) w3.heap.size 32 9 5 Try.underlying32 Try.underlying5 Try.underlying9 A3 L c3' dat hrd3
      have v2 := fun j => run_str (P := Try.prog) (w := w3.drewN j) w3.heap.size 32 9 5 Try.underlying32 Try.underlying5 Try.underlying9 xA L xc dat ((HST.out.at_ (Turned.of_below hb3)).drewN j)
      obtain ⟨T, hT⟩ : ∃ T : ByteArray, (⟨dat.toArray⟩ : ByteArray) = T := ⟨_, rfl⟩
      simp only [hT] at v1 v2
      clear hT hO3 hrd3 hb3 hb3' q q0 q1 q2 c0 c3 hL
      go_wp2_with fail
      go_quiet (fail)
      have HB4 := Lib.hid (show Below w1.heap.size w1 (w3.drewN nq) from ⟨HB3.out.os, HB3.out.tape, HB3.out.output, HB3.out.size, HB3.out.block⟩)
      go_wp2
      refine ⟨?_, ?_⟩
      · iterate 82 apply Exists.intro
        exact ⟨⟨i + 1, by go_num, by omega, HB4⟩, rfl⟩
      · simp [intOf]; omega
    · have HSU := Lib.hid (sure_any D F s nsf wi HTI.out.1 (by decide))
      rw [HF.out] at HSU
      have HBE := Lib.hid (HB1.out.trans (HBI.out.mono HB1.out.size))
      unfold nsf at HSU
      simp only [Option.map_none, Option.getD_none] at HSU
      go_wp2_with fail
      refine HSU.out.mono ?_
      rintro e w3 ⟨rfl, rfl⟩
      go_wp2
      go_ret
      exact ⟨rfl, HBE.out⟩

set_option maxHeartbeats 8000000 in
theorem same_off (B0 D X : Nat) (F G : Nat → Prop) (s : St) (w : World) (h : Two B0 w F G D X s s) (hn : Named s) (hf : Free nsf.data.toList s) (hoff : s.off = true) :
    Calls Try.prog 8 #[.pointer (some ⟨D, 0, none⟩), .pointer (some ⟨X, 0, none⟩)] w (Yes w) := by
  have HN := Lib.hid (names_any D F s w h.1)
  have HT := Lib.hid h; have HNM := Lib.hid hn; have HF := Lib.hid (find_free hf)
  have HRI := Lib.hid h.1.rise
  clear h hn hf
  go_enter Try.func8, Try.ntmps8
  go_wp2_with fail
  refine HN.out.mono ?_
  rintro e w1 hnames
  obtain ⟨A1, n1, c1, rfl, hrd1, hb1⟩ := hnames.rd
  have hT1 := HT.out.below hb1
  have HT1 := Lib.hid hT1
  obtain ⟨v, fs, hR⟩ := hT1.2.1
  obtain ⟨A0, c0', rfl, hcc, hccm⟩ := hR.form
  have hlen : fs.length = n1 := by rw [hrd1.1, ← hR.2.2.2.2.1]; simp [bare]
  have c0 := hR.1.c0; have c3 := hR.1.c3; have c4 := hR.1.c4
  rw [hlen] at hcc c0
  rw [hoff] at c3
  have hopb : s.ops < 1099511627776 := hR.2.2.2.2.2.2.2.1.2.2.2.1
  have HR1 := Lib.hid hR
  have HRD1 := Lib.hid hrd1
  have hc1 := hrd1.2.1; have hcm1 := hrd1.2.2.1
  have HN1 := Lib.hid hrd1.1
  have HB1 := Lib.hid hb1
  have HU1 := Lib.hid (fun j => used_any D F s (w1.drewN j) (hT1.1.drewN j))
  have HU2 := Lib.hid (fun j => ref_used_any X G _ fs s (w1.drewN j) (hR.below ⟨rfl, rfl, rfl, Nat.le_refl _, fun _ _ => rfl⟩))
  have HOP := Lib.hid (fun j => ops_any D F s (w1.drewN j) (hT1.1.drewN j))
  have HON := Lib.hid (fun j => on_any D F s (w1.drewN j) (hT1.1.drewN j))
  simp only [hoff] at HON
  have HX1 := Lib.hid (hR.2.2.2.2.2.2.2.2 X hR.2.1)
  obtain ⟨us, hus⟩ : ∃ us, used s.files = us := ⟨_, rfl⟩
  obtain ⟨op, hop⟩ : ∃ op, s.ops = op := ⟨_, rfl⟩
  simp only [hus] at HU1 HU2
  simp only [hop] at HOP
  rw [hop] at c4 hopb
  clear hT1 hnames hR hrd1 hb1 hus hop HN hlen
  go_wp2_with fail
  go_quiet ((first
    | (go_at_call 13; refine Calls.quiet_of_same (HU1.out _))
    | (go_at_call 27; refine Calls.quiet_of_same (HU2.out _))
    | (go_at_call 28; refine Calls.quiet_of_same (HOP.out _))
    | (go_at_call 10; refine Calls.quiet_of_same (HON.out _))))
  have HI0 := Lib.hid (show Below w1.heap.size w1 (w1.drewN nq) from ⟨rfl, rfl, rfl, Nat.le_refl _, fun _ _ => rfl⟩)
  clear HU1 HU2 HOP HON c0 c3 c4
  go_wp2_with fail
  go_loopw [6] (fun p wi => ∃ i : Nat, p = .int .i64 i ∧ i ≤ n1 ∧ Hid (Below w1.heap.size w1 wi)) (fun p _ => n1 - (intOf p).toNat)
  case atStart => exact ⟨0, rfl, Nat.zero_le _, HI0⟩
  case round =>
    obtain ⟨i, rfl, hi, HBI⟩ := hrel
    rename World => wi
    have HTI := Lib.hid (HT1.out.below HBI.out)
    by_cases hlt : i < n1
    · have hix : i < s.files.length := by have := HN1.out; omega
      have hnl : (⟨s.files[i].name.toArray⟩ : ByteArray).size ≤ 9223372036854775807 := by
        have := HNM.out _ (List.getElem_mem hix)
        unfold nameOk at this
        simp only [Bool.and_eq_true, decide_eq_true_eq] at this
        omega
      obtain ⟨g1, rfl, hg1, hnm1⟩ := (HRD1.out.below HBI.out).2.2.2 (by omega)
      have q := hnm1 i hix
      have hRI := HR1.out.below HBI.out
      have c0 := hRI.1.c0; have c3 := hRI.1.c3
      obtain ⟨g0, x0, rfl, hg0, q0, q1, q2, hst⟩ := hRI.file hix
      have hXl := hRI.2.2.2.2.2.2.2.2 X hRI.2.1
      rw [hoff] at c3
      have hfl : fs.length = n1 := by rw [HN1.out, ← hRI.2.2.2.2.1]; simp [bare]
      rw [hfl] at c0
      have HSU := Lib.hid (fun j => sure_any D F s ⟨s.files[i].name.toArray⟩ (wi.drewN j) (HTI.out.1.drewN j) hnl)
      simp only [sure_named HRI.out hix] at HSU
      have HRE := Lib.hid (fun j => read_any D F s ⟨s.files[i].name.toArray⟩ (wi.drewN j) (HTI.out.1.drewN j) hnl)
      have hrn := read_named HNM.out HRI.out hix
      rw [hoff] at hrn
      simp only [if_true] at hrn
      simp only [hrn] at HRE
      have HST := Lib.hid hst
      have hil : (i : Int) < (n1 : Int) := by omega
      have hup : ∃ x, x = s.files[i].data.length := ⟨_, rfl⟩
      have hcx := hst.rd.cap; have hmx := hst.rd.max
      generalize s.files[i].data = dat at *
      generalize s.files[i].name = nm at *
      generalize s.files[i].sure = su at *
      obtain ⟨xA, xc⟩ := x0
      simp only at q1 HST hcx hmx
      obtain ⟨L, hL⟩ : ∃ L, dat.length = L := ⟨_, rfl⟩
      rw [hL] at q1 HST hcx
      clear hup hrn hnl hnm1 hRI hst hfl
      go_wp2_with fail
      go_quiet ((go_at_call 12; refine Calls.quiet_of_same (HSU.out _)))
      go_wp2_with fail
      refine (HRE.out nq).mono ?_
      rintro e w3 ⟨v3, rfl, hO3, hb3', -⟩
      obtain ⟨A3, c3', rfl, hrd3⟩ := hO3.open_
      have hb3 : Below wi.heap.size wi w3 := ⟨hb3'.os, hb3'.tape, hb3'.output, hb3'.size, hb3'.block⟩
      have c0' := (hb3.cell (p := ⟨X, 0, none⟩) hXl).trans c0
      have c3'' := (hb3.cell (p := ⟨X, 3, none⟩) hXl).trans c3
      have q1' := (hb3.cell (p := ⟨g0, i * 3 + 1, none⟩) hg0).trans q1
      have HB3 := Lib.hid (HBI.out.trans (hb3.mono HBI.out.size))
      clear hO3 hrd3 hb3 hb3' q q0 q1 q2 c0 c3 hL
      go_wp2_with fail
      go_quiet (fail)
      have HB4 := Lib.hid (show Below w1.heap.size w1 (w3.drewN nq) from ⟨HB3.out.os, HB3.out.tape, HB3.out.output, HB3.out.size, HB3.out.block⟩)
      go_wp2
      refine ⟨?_, ?_⟩
      · iterate 82 apply Exists.intro
        exact ⟨⟨i + 1, by go_num, by omega, HB4⟩, rfl⟩
      · simp [intOf]; omega
    · have HSU := Lib.hid (sure_any D F s nsf wi HTI.out.1 (by decide))
      rw [HF.out] at HSU
      have HBE := Lib.hid (HB1.out.trans (HBI.out.mono HB1.out.size))
      unfold nsf at HSU
      simp only [Option.map_none, Option.getD_none] at HSU
      go_wp2_with fail
      refine HSU.out.mono ?_
      rintro e w3 ⟨rfl, rfl⟩
      go_wp2
      go_ret
      exact ⟨rfl, HBE.out⟩

theorem same_any (B0 D X : Nat) (F G : Nat → Prop) (s : St) (w : World) (h : Two B0 w F G D X s s) (hn : Named s) (hf : Free nsf.data.toList s) :
    Calls Try.prog 8 #[.pointer (some ⟨D, 0, none⟩), .pointer (some ⟨X, 0, none⟩)] w (Yes w) := by
  cases hoff : s.off
  · exact same_on B0 D X F G s w h hn hf hoff
  · exact same_off B0 D X F G s w h hn hf hoff
end Go.Proofs.Ytglfbigklnaegaa
