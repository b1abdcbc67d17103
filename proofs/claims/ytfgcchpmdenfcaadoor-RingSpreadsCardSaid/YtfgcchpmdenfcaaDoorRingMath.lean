/-
  Plain mathematics of package ring: the hash, the points, the nearest one's shard; with one shard more an id stays or comes to the new one; of 400 ids each shard has some (by reckoning over a table of places).
-/
namespace Go.Proofs.YtfgcchpmdenfcaaDoor.M
def hstep (h b : Nat) : Nat := ((h ^^^ b) * 1099511628211) % 18446744073709551616
def hmix (h : Nat) : Nat := ((h ^^^ (h / 4294967296)) * 11400714819323198485) % 18446744073709551616
def hfin (h : Nat) : Nat := h ^^^ (h / 536870912)
def hfrom (h : Nat) (l : List UInt8) : Nat := l.foldl (fun h b => hstep h b.toNat) h
theorem hfrom_snoc (h : Nat) (l : List UInt8) (b : UInt8) : hfrom h (l ++ [b]) = hstep (hfrom h l) b.toNat := by
  unfold hfrom
  rw [List.foldl_append, List.foldl_cons, List.foldl_nil]
def hbegin : Nat := 14695981039346656037
def hrun (l : List UInt8) : Nat := hfrom hbegin l
def hash (l : List UInt8) : Nat := hfin (hmix (hrun l))
theorem hstep_lt (h b : Nat) : hstep h b < 18446744073709551616 := Nat.mod_lt _ (by omega)
theorem hmix_lt (h : Nat) : hmix h < 18446744073709551616 := Nat.mod_lt _ (by omega)
theorem hfin_lt {h : Nat} (hh : h < 18446744073709551616) : hfin h < 18446744073709551616 := by
  unfold hfin
  exact Nat.xor_lt_two_pow (n := 64) (by omega) (by omega)
theorem hash_lt (l : List UInt8) : hash l < 18446744073709551616 := hfin_lt (hmix_lt _)
theorem hfrom_lt (l : List UInt8) : ∀ {h : Nat}, h < 18446744073709551616 → hfrom h l < 18446744073709551616 := by
  induction l with
  | nil => intro h hh; exact hh
  | cons b r ih => intro h _; exact ih (hstep_lt _ _)
theorem hrun_lt (l : List UInt8) : hrun l < 18446744073709551616 := hfrom_lt l (by unfold hbegin; omega)
theorem hrun_snoc (l : List UInt8) (b : UInt8) : hrun (l ++ [b]) = hstep (hrun l) b.toNat := hfrom_snoc _ l b
/-- a number below 100 in digits -/
def dg2 (n : Nat) : List UInt8 := if n < 10 then [UInt8.ofNat (48 + n)] else [UInt8.ofNat (48 + n / 10), UInt8.ofNat (48 + n % 10)]
def label (s k : Nat) : List UInt8 := [115, 104, 97, 114, 100, 45] ++ dg2 s ++ [45] ++ dg2 k
/-- the j-th point of the ring, as the shards have them one behind the other -/
def pt (j : Nat) : Nat := hash (label (j / 16) (j % 16))
def far (p h : Nat) : Nat := (p + 18446744073709551616 - h) % 18446744073709551616
def way (h j : Nat) : Nat := far (pt j) h
theorem way_lt (h j : Nat) : way h j < 18446744073709551616 := Nat.mod_lt _ (by omega)
/-- of the first j ways the least one's shard, and how far it is -/
def best (f : Nat → Nat) : Nat → Nat × Nat
  | 0 => (0, 18446744073709551615)
  | j + 1 => if f j < (best f j).2 then (j / 16, f j) else best f j
theorem best_succ (f : Nat → Nat) (j : Nat) : best f (j + 1) = if f j < (best f j).2 then (j / 16, f j) else best f j := by rw [best]
theorem best_zero (f : Nat → Nat) : best f 0 = (0, 18446744073709551615) := by rw [best]
theorem best_one (f : Nat → Nat) (h0 : f 0 < 18446744073709551616) : best f 1 = (0, f 0) := by
  rw [best_succ f 0, best_zero]
  by_cases h1 : f 0 < 18446744073709551615
  · rw [if_pos h1]
  · rw [if_neg h1]
    have e : f 0 = 18446744073709551615 := by omega
    rw [e]
theorem best_near (f : Nat → Nat) (n : Nat) : ∀ d, (best f (16 * n + d)).1 = (best f (16 * n)).1 ∨ n ≤ (best f (16 * n + d)).1 := by
  intro d
  induction d with
  | zero => exact .inl rfl
  | succ d ih =>
    rw [← Nat.add_assoc, best_succ]
    by_cases h1 : f (16 * n + d) < (best f (16 * n + d)).2
    · rw [if_pos h1]; exact .inr (by show n ≤ (16 * n + d) / 16; omega)
    · rw [if_neg h1]; exact ih
theorem best_le (f : Nat → Nat) (n : Nat) : ∀ j, j ≤ 16 * (n + 1) → (best f j).1 ≤ n := by
  intro j
  induction j with
  | zero => intro _; rw [best_zero]; exact Nat.zero_le _
  | succ j ih =>
    intro hj
    rw [best_succ]
    by_cases h1 : f j < (best f j).2
    · rw [if_pos h1]; show j / 16 ≤ n; omega
    · rw [if_neg h1]; exact ih (by omega)
theorem best_lt (f : Nat → Nat) (hf : ∀ j, f j < 18446744073709551616) : ∀ j, (best f j).2 < 18446744073709551616 := by
  intro j
  induction j with
  | zero => rw [best_zero]; simp
  | succ j ih =>
    rw [best_succ]
    by_cases h1 : f j < (best f j).2
    · rw [if_pos h1]; exact hf j
    · rw [if_neg h1]; exact ih
def shardOf (f : Nat → Nat) (n : Nat) : Nat := (best f (16 * n)).1
theorem shardOf_lt (f : Nat → Nat) (n : Nat) (hn : 1 ≤ n) : shardOf f n < n := by
  obtain ⟨m, rfl⟩ : ∃ m, n = m + 1 := ⟨n - 1, by omega⟩
  have := best_le f m (16 * (m + 1)) (Nat.le_refl _)
  unfold shardOf
  omega
theorem growsOf (f : Nat → Nat) (n : Nat) : shardOf f n = shardOf f (n + 1) ∨ shardOf f (n + 1) = n := by
  have h2 := best_le f n (16 * (n + 1)) (Nat.le_refl _)
  have h1 := best_near f n 16
  have e : 16 * n + 16 = 16 * (n + 1) := by omega
  rw [e] at h1
  unfold shardOf
  rcases h1 with h | h
  · left; exact h.symm
  · right; omega
def shard (l : List UInt8) (n : Nat) : Nat := shardOf (way (hash l)) n
theorem shard_lt (l : List UInt8) (n : Nat) (hn : 1 ≤ n) : shard l n < n := shardOf_lt (way (hash l)) n hn
/-- with one shard more an id stays, or comes to the new one -/
theorem grows (l : List UInt8) (n : Nat) : shard l n = shard l (n + 1) ∨ shard l (n + 1) = n := growsOf (way (hash l)) n

/-! ### many ids: each shard has some (by reckoning) -/
def sid (f i : Nat) : List UInt8 := [UInt8.ofNat (97 + f), UInt8.ofNat (97 + i % 20), UInt8.ofNat (97 + i / 20)]
/-- the nearest of the points of a list -/
def near (h : Nat) : List Nat → Nat → Nat → Nat → Nat
  | [], _, s, _ => s
  | p :: r, j, s, m => let d := far p h; cond (Nat.blt d m) (near h r (j + 1) (j / 16) d) (near h r (j + 1) s m)
theorem near_best (f : Nat → Nat) (h : Nat) : ∀ (r : List Nat) (j : Nat), (∀ i (hi : i < r.length), far r[i] h = f (j + i)) →
    near h r j (best f j).1 (best f j).2 = (best f (j + r.length)).1 := by
  intro r
  induction r with
  | nil => intro j _; rfl
  | cons p r ih =>
    intro j hr
    have h0 : far p h = f j := hr 0 (by simp)
    have h1 := ih (j + 1) (fun i hi => by have := hr (i + 1) (by simp; omega); rw [show j + 1 + i = j + (i + 1) from by omega]; simpa using this)
    rw [show j + 1 + r.length = j + (p :: r).length from by simp; omega] at h1
    rw [← h1, near, h0, best_succ]
    by_cases h2 : f j < (best f j).2
    · rw [if_pos h2, show Nat.blt (f j) (best f j).2 = true from by simpa [Nat.blt_eq] using h2]; rfl
    · rw [if_neg h2, show Nat.blt (f j) (best f j).2 = false from by rw [Bool.eq_false_iff]; intro h; exact h2 (by simpa [Nat.blt_eq] using h)]; rfl
def ptsL : List Nat := [7017201952788714081, 8281499200807986978, 6258168153076725773, 555607025213693217, 7150925367004713424, 3794003325795568327, 1083209342613663285, 10001827942693043424, 13745487680778269268, 17237654356475339200, 14768004981319550585, 2708092405445600712, 5097493760601217797, 13941348935592058925, 7877581468389945210, 7186169961139938584, 6748374816765477174, 4567460327498002399, 12956199441236825747, 2268020093345276443, 10382927184820543379, 9347784230651525154, 9735277965843590996, 17207399831939227025, 9224394576187585563, 7960097306384244151, 18250192403714276740, 4023649889583501833, 12642301570469632252, 872782733601428633, 9676070515681706806, 9956130511029252862, 4452653037615108671, 8457224289188226821, 4982532515700377827, 16991541731413415549, 1008962457112762288, 13753145434938044058, 4848809118211172492, 16564990235208486265, 6661526347338695459, 1029024131320767827, 4932457644482723112, 10833932488983694595, 12227089230371241024, 12590727545386955913, 14451564324383820533, 5050781685897824721, 7752936826612148516, 16141675938473147538, 17935852693869241163, 1534778498753949171, 776669356921384822, 12532664219305846369, 9680081019124992243, 16410643915793331450, 4958407397665614612, 209084654082163253, 9251683191691129588, 6976858991669890941, 847905844858287387, 18210115522904272968, 4086302157716562113, 13803768228657953079, 15738616319548351478, 4781468954187717297, 6984722283035330242, 14693895558610313825, 11085480429636334640, 4354917475448327877, 15469648276305238550, 15075769358824812765, 13924377858554522605, 10962090702350229742, 10525684337755339807, 12786984595424174023, 9652073426213218397, 17056575243751050683, 14500775642957669156, 8767215630197140357, 5474060324590724184, 12433777562897852024, 15902084158753755589, 15379345819869619485, 12915181001094218919, 3948851609371302797, 15418403587936179848, 17639131763004265535, 3850843142121050690, 2586545877489279616, 15278966291197695378, 2737647947018309126, 1989706164582235611, 13107858713245331009, 2907994790742945400, 10869424161807955367, 16390821157346011513, 17142713861783740258, 14069042114008495236, 15333339365872979022, 9051666756619164706, 17053668120698311772, 1586686045439091803, 5931796178595587918, 15709902867628096556, 16232641205471240442, 4434401023411914506, 214199472403834106, 14415210576119287083, 10195008994906701153, 7324201899380705431, 2187383097121654874, 7183013071564471088, 12713708457026103523, 16964908916028232769, 15700611597684657409, 7272058809696648217, 16972050021714752110, 6710262745019198963, 1741363425891855455, 3459414984552183046, 11217979746579828620, 8354997520881322619, 15844594237838284452, 17837670857591346756, 17332407415132825530, 10274085161522913740, 9768821656355813622]
def tab : List (List (List Nat)) := [[[0], [2, 0], [2, 3, 0], [2, 3, 1, 0], [2, 3, 1, 6, 0], [2, 3, 1, 6, 0, 8], [12, 5, 1, 6, 15, 8, 0], [12, 5, 4, 11, 20, 8, 2, 0]],
  [[0], [1, 0], [1, 4, 0], [1, 4, 0, 2], [1, 4, 0, 6, 2], [1, 21, 0, 6, 2, 4], [1, 21, 0, 6, 12, 4, 2], [1, 21, 7, 15, 12, 5, 8, 0]],
  [[0], [0, 1], [2, 6, 0], [2, 6, 0, 1], [2, 6, 0, 1, 16], [2, 6, 0, 13, 16, 1], [2, 6, 0, 13, 16, 1, 26], [2, 6, 0, 15, 16, 1, 26, 11]],
  [[0], [0, 2], [0, 2, 6], [0, 2, 18, 6], [0, 2, 18, 6, 67], [1, 2, 18, 6, 67, 0], [3, 2, 18, 7, 67, 0, 1], [3, 2, 18, 7, 67, 0, 1, 9]],
  [[0], [1, 0], [2, 0, 1], [2, 0, 1, 3], [2, 0, 4, 3, 1], [9, 7, 4, 3, 1, 0], [9, 7, 4, 5, 1, 0, 3], [9, 7, 6, 5, 1, 0, 3, 4]],
  [[0], [0, 1], [0, 2, 1], [3, 2, 4, 0], [3, 2, 10, 0, 4], [3, 2, 10, 0, 4, 1], [3, 2, 10, 0, 4, 1, 7], [3, 2, 29, 0, 4, 1, 12, 7]],
  [[0], [1, 0], [1, 2, 0], [1, 2, 0, 10], [1, 2, 3, 10, 0], [1, 2, 3, 10, 0, 11], [1, 2, 3, 13, 0, 11, 9], [7, 2, 3, 13, 0, 11, 9, 1]],
  [[0], [1, 0], [1, 9, 0], [1, 16, 0, 5], [1, 16, 0, 5, 6], [1, 22, 0, 8, 6, 5], [1, 22, 0, 8, 6, 5, 14], [1, 22, 0, 8, 6, 5, 25, 7]],
  [[0], [5, 0], [14, 0, 1], [14, 3, 1, 0], [14, 3, 1, 0, 4], [14, 3, 1, 2, 4, 0], [19, 8, 1, 2, 4, 0, 3], [19, 8, 1, 2, 4, 0, 3, 11]],
  [[0], [0, 1], [0, 1, 6], [0, 1, 6, 4], [0, 1, 6, 4, 5], [0, 1, 6, 4, 5, 2], [0, 1, 6, 4, 5, 2, 18], [0, 1, 6, 22, 5, 2, 18, 4]],
  [[0], [1, 0], [1, 3, 0], [1, 3, 0, 2], [1, 3, 0, 2, 9], [1, 3, 0, 2, 9, 18], [1, 3, 0, 2, 9, 18, 5], [1, 3, 0, 2, 9, 18, 5, 6]],
  [[0], [0, 1], [0, 6, 1], [4, 12, 1, 0], [4, 12, 1, 0, 15], [4, 13, 1, 0, 15, 8], [4, 13, 1, 0, 15, 8, 2], [4, 13, 1, 0, 15, 8, 2, 20]],
  [[0], [7, 0], [7, 0, 3], [16, 5, 3, 0], [18, 5, 3, 0, 16], [18, 5, 3, 0, 16, 15], [18, 8, 3, 0, 16, 15, 5], [18, 8, 3, 0, 16, 15, 5, 1]],
  [[0], [3, 0], [3, 0, 2], [4, 0, 2, 3], [4, 0, 7, 3, 2], [5, 0, 7, 3, 2, 4], [5, 0, 7, 3, 2, 4, 8], [5, 30, 32, 3, 2, 4, 8, 0]],
  [[0], [4, 0], [4, 2, 0], [4, 2, 1, 0], [4, 2, 1, 16, 0], [4, 2, 1, 16, 0, 8], [4, 9, 1, 16, 3, 8, 0], [4, 9, 7, 16, 3, 8, 2, 0]],
  [[0], [2, 0], [2, 1, 0], [2, 3, 0, 1], [2, 3, 0, 1, 9], [6, 3, 0, 1, 9, 2], [11, 3, 0, 1, 9, 2, 6], [11, 3, 5, 1, 9, 2, 6, 0]],
  [[0], [0, 1], [2, 1, 0], [2, 6, 0, 1], [2, 6, 0, 1, 9], [2, 6, 0, 1, 9, 49], [2, 6, 0, 1, 9, 49, 5], [2, 6, 0, 1, 9, 49, 5, 23]],
  [[0], [2, 0], [2, 0, 11], [2, 0, 16, 4], [2, 0, 16, 4, 11], [2, 0, 16, 4, 11, 6], [2, 0, 16, 4, 15, 6, 1], [2, 0, 16, 4, 15, 6, 1, 3]],
  [[0], [0, 1], [0, 5, 1], [0, 23, 1, 3], [0, 29, 1, 3, 13], [2, 29, 1, 3, 13, 0], [2, 42, 1, 3, 18, 0, 13], [2, 42, 1, 3, 18, 0, 29, 4]],
  [[0], [0, 1], [0, 2, 1], [0, 10, 1, 2], [0, 10, 1, 2, 9], [0, 10, 1, 2, 9, 8], [0, 10, 1, 2, 9, 8, 16], [0, 10, 1, 2, 9, 8, 16, 6]],
  [[0], [0, 1], [4, 6, 0], [4, 6, 0, 3], [4, 6, 1, 3, 0], [4, 6, 1, 3, 0, 8], [21, 14, 1, 3, 0, 8, 4], [21, 14, 1, 3, 0, 8, 4, 16]],
  [[0], [1, 0], [3, 0, 1], [3, 0, 1, 7], [4, 0, 1, 7, 3], [4, 0, 1, 7, 3, 8], [4, 38, 5, 7, 3, 8, 0], [4, 38, 5, 7, 3, 8, 0, 23]],
  [[0], [2, 0], [2, 0, 7], [2, 4, 9, 0], [2, 4, 9, 0, 15], [2, 4, 9, 0, 15, 1], [12, 5, 17, 0, 15, 1, 2], [12, 5, 41, 0, 15, 16, 2, 1]],
  [[0], [0, 5], [0, 6, 5], [0, 6, 5, 2], [0, 6, 5, 2, 11], [0, 9, 5, 2, 11, 6], [0, 20, 5, 2, 11, 6, 9], [0, 20, 5, 2, 11, 6, 9, 1]],
  [[0], [1, 0], [1, 2, 0], [1, 3, 0, 2], [1, 22, 0, 2, 3], [1, 22, 0, 2, 3, 6], [1, 29, 0, 2, 3, 8, 4], [1, 29, 0, 2, 3, 8, 4, 13]],
  [[0], [2, 0], [2, 1, 0], [2, 1, 0, 7], [2, 1, 0, 7, 3], [2, 1, 0, 11, 3, 6], [2, 1, 0, 11, 3, 6, 15], [2, 1, 8, 12, 3, 6, 15, 0]]]
theorem ptsL_eq : ptsL = (List.range 128).map pt := by decide +kernel
def tabAt (f n s : Nat) : Nat := ((tab.getD f []).getD n []).getD s 400
def okAt (f n s : Nat) : Bool := Nat.blt (tabAt f n s) 400 && Nat.beq (near (hash (sid f (tabAt f n s))) (ptsL.take (16 * (n + 1))) 0 0 18446744073709551615) s
theorem tab_ok : ∀ f : Fin 26, ∀ n : Fin 8, ∀ s : Fin 8, s.1 ≤ n.1 → okAt f.1 n.1 s.1 = true := by decide +kernel
theorem near_shardOf (f : Nat → Nat) (h : Nat) (ps : List Nat) (n : Nat) (hl : ps.length = 16 * n) (hp : ∀ i (hi : i < ps.length), far ps[i] h = f i) : near h ps 0 0 18446744073709551615 = shardOf f n := by
  have h1 := near_best f h ps 0 (fun i hi => by rw [Nat.zero_add]; exact hp i hi)
  rw [best_zero, Nat.zero_add, hl] at h1
  exact h1
theorem near_shard (l : List UInt8) (n : Nat) (hn : n < 8) : near (hash l) (ptsL.take (16 * (n + 1))) 0 0 18446744073709551615 = shard l (n + 1) := by
  unfold shard
  generalize hash l = h
  refine near_shardOf (way h) h _ (n + 1) ?_ (fun i hi => ?_)
  · rw [List.length_take, ptsL_eq, List.length_map, List.length_range, Nat.min_eq_left (by omega)]
  · have hi' : i < 128 := by rw [List.length_take, ptsL_eq, List.length_map, List.length_range] at hi; omega
    unfold way
    rw [List.getElem_take]
    simp only [ptsL_eq, List.getElem_map, List.getElem_range]
theorem spreads (f n s : Nat) (hf : f < 26) (hn : n < 8) (hs : s ≤ n) : ∃ i, i < 400 ∧ shard (sid f i) (n + 1) = s := by
  have h := tab_ok ⟨f, hf⟩ ⟨n, hn⟩ ⟨s, by omega⟩ hs
  unfold okAt at h
  rw [Bool.and_eq_true] at h
  refine ⟨tabAt f n s, by simpa [Nat.blt_eq] using h.1, ?_⟩
  rw [near_shard _ _ hn] at h
  exact Nat.eq_of_beq_eq_true h.2
end Go.Proofs.YtfgcchpmdenfcaaDoor.M
