/- Contracts of package kern: who may enter a Sect, enter, leave. -/
import Derived.Test.YtompckcnpidbdaaGreatKrn1
namespace Go.Proofs.YtompckcnpidbdaaGreat
open Go.RowKit
set_option linter.unusedVariables false
set_option linter.unusedSimpArgs false
section
variable {w w' : World} {K K' : Kn}
/-- An answer is written into its block. -/
theorem ans_blk {W : World} {g : Nat} {x y z : Value} (hb : Blk W g 40 [x, y, z]) (a b c : Value) : Blk (((W.setCell ⟨g, 0, none⟩ a).setCell ⟨g, 1, none⟩ b).setCell ⟨g, 2, none⟩ c) g 40 [a, b, c] := by
  have := ((hb.setCell 0 a).setCell 1 b).setCell 2 c
  simpa using this
theorem ans_keep (W : World) (g : Nat) (a b c : Value) : Keep (· = g) W (((W.setCell ⟨g, 0, none⟩ a).setCell ⟨g, 1, none⟩ b).setCell ⟨g, 2, none⟩ c) :=
  (((Keep.refl (fun b => b = g) W).setCell ⟨g, 0, none⟩ a (fun _ => rfl)).setCell ⟨g, 1, none⟩ b (fun _ => rfl)).setCell ⟨g, 2, none⟩ c (fun _ => rfl)
theorem ans_nob {w W : World} (k : Keep Nob w W) {g : Nat} (hg : w.heap.size ≤ g) (a b c : Value) : Keep Nob w (((W.setCell ⟨g, 0, none⟩ a).setCell ⟨g, 1, none⟩ b).setCell ⟨g, 2, none⟩ c) :=
  k.trans (ans_keep W g a b c) (fun b hb e => by omega)
theorem To.ans {W : World} (t : To w K K' W) {g : Nat} {x y z : Value} (hb : Blk W g 40 [x, y, z]) (hg : w.heap.size ≤ g) (a b c : Value) : To w K K' (((W.setCell ⟨g, 0, none⟩ a).setCell ⟨g, 1, none⟩ b).setCell ⟨g, 2, none⟩ c) :=
  t.post hb (by decide) (by decide) hg (ans_keep W g a b c)
def zans : List Value := [.int .i64 0, .int .i64 0, .slice none 0 0]
/-- May who is of session ss enter Sect n? -/
def mayK (K : Kn) (ss n : Int) : Bool := decide (0 ≤ n ∧ n < K.gates.length ∧ ∃ G, K.gates[n.toNat]? = some G ∧ ss ∈ G.may)
set_option maxHeartbeats 1000000 in
theorem may_at (h : IsKn w K) (i : Nat) (hi : i < K.envs.length) (ss : Int) (hs : K.envs.getD i 0 = ss) (n : Nat) (G : Gt) (hG : K.gates[n]? = some G) (v : Bool) (hv : decide (ss ∈ G.may) = v) :
    Calls Tryz.prog 70 #[.pointer (some ⟨K.k, 0, none⟩), .int .i64 i, .int .i64 n] w fun e w' => e = .returned (.bool v) ∧ ∃ m, w' = w.drewN m := by
  have c1 := h.c1
  have c2 := h.c2
  obtain ⟨g, hg, hc⟩ := h.env_at hi
  obtain ⟨g2, hg2, hd0, hd1⟩ := h.gate_at hG
  have hn := get_lt hG
  have h8 := h.few
  have h40 := h.reg.inv.n40
  rw [hg] at c1
  rw [hg2] at c2
  rw [hs] at hc
  have hsec := h.sec G (List.mem_of_getElem? hG)
  have hl := h.lit G (List.mem_of_getElem? hG)
  have hr := hsec.2.2.reads
  rw [Nat.mul_one] at hr
  have hq : ∀ m, Calls Tryz.prog 57 #[.slice G.mA G.may.length G.mc, .int .i64 ss] (w.drewN m) fun e w'' => e = .returned (.bool v) ∧ ∃ k, w'' = w.drewN k := fun m =>
    (Se.contains_is (hr.nob ((Keep.refl Nob w).drewN m)) (by omega) ss v hv).mono fun e w'' ⟨he, hw⟩ => ⟨he, m, hw.symm⟩
  clear hs hv hr hsec hl hd0
  generalize K.gates.length = L at *
  generalize K.envs.length = E at *
  have hz : decide ((n : Int) < L) = true := by simpa using hn
  have hz2 : decide (0 ≤ (n : Int)) = true := by simp
  go_enter Tryz.func70, Tryz.ntmps70
  go_wp2_with fail
  go_quiet (first | (go_at_call 57; exact hq _))
  go_wp2
  go_ret
  exact ⟨rfl, _, rfl⟩
set_option maxHeartbeats 1000000 in
theorem may_out (h : IsKn w K) (i : Int) (n : Int) (hn : n < 0 ∨ K.gates.length ≤ n) :
    Calls Tryz.prog 70 #[.pointer (some ⟨K.k, 0, none⟩), .int .i64 i, .int .i64 n] w fun e w' => e = .returned (.bool false) ∧ ∃ m, w' = w.drewN m := by
  have c1 := h.c1
  have c2 := h.c2
  have h8 := h.few
  generalize K.gates.length = L at *
  by_cases h0 : n < 0
  · have hz : decide (0 ≤ n) = false := by simpa using h0
    go_enter Tryz.func70, Tryz.ntmps70
    go_wp2_with fail
    go_quiet (fail)
    go_wp2
    go_ret
    exact ⟨rfl, _, rfl⟩
  · have hz : decide (0 ≤ n) = true := by simp; omega
    have hz2 : decide (n < (L : Int)) = false := by simp; omega
    go_enter Tryz.func70, Tryz.ntmps70
    go_wp2_with fail
    go_quiet (fail)
    go_wp2
    go_ret
    exact ⟨rfl, _, rfl⟩
/-- What mayEnter answers. -/
inductive May (K : Kn) (ss n : Int) : Bool → Prop
  | out : n < 0 ∨ K.gates.length ≤ n → May K ss n false
  | at_ (j : Nat) (G : Gt) : n = j → K.gates[j]? = some G → May K ss n (decide (ss ∈ G.may))
theorem May.ex (K : Kn) (ss n : Int) : ∃ v, May K ss n v := by
  by_cases h : 0 ≤ n ∧ n < K.gates.length
  · obtain ⟨j, rfl⟩ := Int.eq_ofNat_of_zero_le h.1
    have hj : j < K.gates.length := by omega
    exact ⟨_, .at_ j _ rfl (List.getElem?_eq_getElem hj)⟩
  · exact ⟨false, .out (by omega)⟩
theorem may_is (h : IsKn w K) (i : Nat) (hi : i < K.envs.length) (ss : Int) (hs : K.envs.getD i 0 = ss) (n : Int) (v : Bool) (hv : May K ss n v) :
    Calls Tryz.prog 70 #[.pointer (some ⟨K.k, 0, none⟩), .int .i64 i, .int .i64 n] w fun e w' => e = .returned (.bool v) ∧ ∃ m, w' = w.drewN m := by
  cases hv with
  | out hn => exact may_out h i n hn
  | at_ j G hj hG => subst hj; exact may_at h i hi ss hs j G hG _ rfl
theorem enter_no (h : IsKn w K) (i : Nat) (hi : i < K.envs.length) (ss : Int) (hs : K.envs.getD i 0 = ss) (n : Int) (hv : May K ss n false) :
    Calls Tryz.prog 39 #[.pointer (some ⟨K.k, 0, none⟩), .int .i64 i, .int .i64 n] w fun e w' => e = .returned (.agg #[.int .i64 8, .int .i64 0, .slice none 0 0]) ∧ Keep Nob w w' := by
  have k1 := (Keep.refl Nob w).alloc (.cells #[.int .i64 0, .int .i64 0, .slice none 0 0] 40)
  have hb := Blk.new w 40 [.int .i64 0, .int .i64 0, .slice none 0 0]
  have h1 := h.nob k1
  go_enter Tryz.func39, Tryz.ntmps39
  go_wp2_with fail
  refine (may_is h1 i hi ss hs n false hv).mono ?_; rintro e w1 ⟨rfl, m, rfl⟩
  go_wp2
  (try simp only [Exit.inBlock, Exit.then])
  refine bodyPost_ret (v := .agg #[.int .i64 8, .int .i64 0, .slice none 0 0]) (results_cell_row rfl _ _ w.heap.size 40 #[.int .i64 8, .int .i64 0, .slice none 0 0] (0, 0) _ rfl (ans_blk (hb.drewN m) _ _ _) Tryz.underlying40 rfl infoAns) rfl ?_
  exact ⟨rfl, ans_nob (k1.drewN m) (Nat.le_refl _) _ _ _⟩
set_option maxRecDepth 100000 in
set_option maxHeartbeats 2000000 in
theorem enter_at (h : IsKn w K) (i : Nat) (hi : i < K.envs.length) (ss : Int) (hs : K.envs.getD i 0 = ss) (n : Nat) (G : Gt) (hG : K.gates[n]? = some G) (hm : ss ∈ G.may) (hn : K.now ≤ 9223372036854775807) (hst : G.s.stamps < 4611686018427387904) (v : Int) (b : Bool) (s' : Se.Sec) (hv : G.s.enter i K.now = (v, b, s')) :
    Calls Tryz.prog 39 #[.pointer (some ⟨K.k, 0, none⟩), .int .i64 i, .int .i64 n] w fun e w' => e = .returned (.agg #[.int .i64 0, .int .i64 v, .slice none 0 0]) ∧ ∃ A' c', To w K { K with gates := K.gates.set n { G with A := A', cap := c', s := s' } } w' := by
  have k1 := (Keep.refl Nob w).alloc (.cells #[.int .i64 0, .int .i64 0, .slice none 0 0] 40)
  have hb := Blk.new w 40 [.int .i64 0, .int .i64 0, .slice none 0 0]
  have h1 := h.nob k1
  have mt := May.at_ (K := K) (ss := ss) n G rfl hG
  rw [decide_eq_true hm] at mt
  have hl := get_lt hG
  have h8 := h.few
  go_enter Tryz.func39, Tryz.ntmps39
  go_wp2_with fail
  refine (may_is h1 i hi ss hs n true mt).mono ?_; rintro e w1 ⟨rfl, m, rfl⟩
  have k2 := k1.drewN m
  have hb2 := hb.drewN m
  have h2 := h1.nob ((Keep.refl Nob _).drewN m)
  generalize (w.alloc (.cells #[.int .i64 0, .int .i64 0, .slice none 0 0] 40)).drewN m = w1 at *
  have sf : ∀ (K' : Kn) (W : World), IsKn W K' → K'.k = K.k → K'.now = K.now → K'.Ag = K.Ag → K'.gates.length = K.gates.length → K'.cg = K.cg → (∃ G', K'.gates[n]? = some G' ∧ G'.p = G.p) → ∃ g, K.Ag = some ⟨g, 0, none⟩ ∧ W.cell? ⟨K.k, 0, none⟩ = some (.int .i64 K.now) ∧ W.cell? ⟨K.k, 2, none⟩ = some (.slice (some ⟨g, 0, none⟩) K.gates.length K.cg) ∧ W.cell? ⟨g, n * 2, none⟩ = some (.pointer (some ⟨G.p, 0, none⟩)) := by
    rintro K' W hW e1 e2 e3 e4 e5 ⟨G', hG', e6⟩
    obtain ⟨g, hg, a1, _⟩ := hW.gate_at hG'
    have c0 := hW.c0
    have c2 := hW.c2
    rw [e1, e2] at c0
    rw [e1, e4, e5, hg] at c2
    rw [e6] at a1
    exact ⟨g, e3 ▸ hg, c0, c2, a1⟩
  obtain ⟨g, hg, -, -, -⟩ := sf K w1 h2 rfl rfl rfl rfl rfl ⟨G, hG, rfl⟩
  have sf2 : ∀ (K' : Kn) (W : World), IsKn W K' → K'.k = K.k → K'.now = K.now → K'.Ag = K.Ag → K'.gates.length = K.gates.length → K'.cg = K.cg → (∃ G', K'.gates[n]? = some G' ∧ G'.p = G.p) → W.cell? ⟨K.k, 0, none⟩ = some (.int .i64 K.now) ∧ W.cell? ⟨K.k, 2, none⟩ = some (.slice (some ⟨g, 0, none⟩) K.gates.length K.cg) ∧ W.cell? ⟨g, n * 2, none⟩ = some (.pointer (some ⟨G.p, 0, none⟩)) := by
    intro K' W hW e1 e2 e3 e4 e5 e6
    obtain ⟨g', hg', x⟩ := sf K' W hW e1 e2 e3 e4 e5 e6
    rw [hg] at hg'
    cases hg'
    exact x
  have hd := h2.nob (Keep.nobdrew w1)
  have hdb := hb2.drew
  have hsec := hd.sec G (List.mem_of_getElem? hG)
  have hcall := Se.enter_is hsec.1 hsec.2.1 i K.now hn hst v b s' hv
  have F : ∀ W, Se.SecTo w1.drew G.p G.A s' W → ∃ A' c', To w1.drew K { K with gates := K.gates.set n { G with A := A', cap := c', s := s' } } W := by
    rintro W ⟨A', c', hs', hk', ho'⟩
    have O := hsec.2.1.enter (who := i) (now := K.now) hn
    rw [hv] at O
    exact ⟨A', c', hd.gate hG hs' O hk' ho'⟩
  have s0 := sf2 K w1.drew hd rfl rfl rfl rfl rfl ⟨G, hG, rfl⟩
  have sE : ∀ W A' c', To w1.drew K { K with gates := K.gates.set n { G with A := A', cap := c', s := s' } } W → W.cell? ⟨K.k, 0, none⟩ = some (.int .i64 K.now) ∧ W.cell? ⟨K.k, 2, none⟩ = some (.slice (some ⟨g, 0, none⟩) K.gates.length K.cg) ∧ W.cell? ⟨g, n * 2, none⟩ = some (.pointer (some ⟨G.p, 0, none⟩)) := fun W A' c' t =>
    sf2 _ W t.is rfl rfl rfl (by simp) rfl ⟨_, List.getElem?_set_self hl, rfl⟩
  have hLn : (n : Int) < K.gates.length := by omega
  have T0 := Lib.hid (And.intro k2 (And.intro hb2 hdb))
  have HF := Lib.hid F
  have HD := Lib.hid hd
  clear sf sf2 F hsec hv hs hm mt h1 h2 hb hb2 hdb k2 hi h hd
  generalize K.gates.length = L at *
  go_wp2_with fail
  go_region_held3 (fun w' => w'.cell? ⟨K.k, 0, none⟩ = some (.int .i64 K.now) ∧ w'.cell? ⟨K.k, 2, none⟩ = some (.slice (some ⟨g, 0, none⟩) L K.cg) ∧ w'.cell? ⟨g, n * 2, none⟩ = some (.pointer (some ⟨G.p, 0, none⟩)))
    (first | exact s0 | exact sE _ _ _ t1)
    (first | (go_at_call 71; refine hcall.mono ?_; rintro e w2 ⟨rfl, ht⟩; obtain ⟨A', c', t1⟩ := HF.out _ ht))
  have hb3 := HD.out.offT T0.out.2.2 (by decide) t1.keep
  have z0 := hb3.cell 0
  have z1 := hb3.cell 1
  have z2 := hb3.cell 2
  have f0 := hb3.frozen 0
  have f1 := hb3.frozen 1
  have f2 := hb3.frozen 2
  simp only [List.getElem?_cons_zero, List.getElem?_cons_succ] at z0 z1 z2
  have fin := Lib.hid (((To.pre (Keep.nobdrew w1) t1).pre T0.out.1))
  have HB := Lib.hid hb3
  clear hb3 t1 ht
  go_wp2
  (try simp only [Exit.inBlock, Exit.then])
  refine bodyPost_ret (v := .agg #[.int .i64 0, .int .i64 v, .slice none 0 0]) (results_cell_row rfl _ _ w.heap.size 40 #[.int .i64 0, .int .i64 v, .slice none 0 0] (0, 0) _ rfl (ans_blk HB.out _ _ _) Tryz.underlying40 rfl infoAns) rfl ?_
  exact ⟨rfl, A', c', fin.out.ans HB.out (Nat.le_refl _) _ _ _⟩
theorem leave_no (h : IsKn w K) (i : Nat) (hi : i < K.envs.length) (ss : Int) (hs : K.envs.getD i 0 = ss) (n st : Int) (hv : May K ss n false) :
    Calls Tryz.prog 40 #[.pointer (some ⟨K.k, 0, none⟩), .int .i64 i, .int .i64 n, .int .i64 st] w fun e w' => e = .returned (.agg #[.int .i64 8, .int .i64 0, .slice none 0 0]) ∧ Keep Nob w w' := by
  have k1 := (Keep.refl Nob w).alloc (.cells #[.int .i64 0, .int .i64 0, .slice none 0 0] 40)
  have hb := Blk.new w 40 [.int .i64 0, .int .i64 0, .slice none 0 0]
  have h1 := h.nob k1
  go_enter Tryz.func40, Tryz.ntmps40
  go_wp2_with fail
  refine (may_is h1 i hi ss hs n false hv).mono ?_; rintro e w1 ⟨rfl, m, rfl⟩
  go_wp2
  (try simp only [Exit.inBlock, Exit.then])
  refine bodyPost_ret (v := .agg #[.int .i64 8, .int .i64 0, .slice none 0 0]) (results_cell_row rfl _ _ w.heap.size 40 #[.int .i64 8, .int .i64 0, .slice none 0 0] (0, 0) _ rfl (ans_blk (hb.drewN m) _ _ _) Tryz.underlying40 rfl infoAns) rfl ?_
  exact ⟨rfl, ans_nob (k1.drewN m) (Nat.le_refl _) _ _ _⟩
set_option maxRecDepth 100000 in
set_option maxHeartbeats 2000000 in
theorem leave_at (h : IsKn w K) (i : Nat) (hi : i < K.envs.length) (ss : Int) (hs : K.envs.getD i 0 = ss) (n : Nat) (G : Gt) (hG : K.gates[n]? = some G) (hm : ss ∈ G.may) (st : Int) (v : Bool) (s' : Se.Sec) (hv : G.s.leave i st = (v, s')) (er : Int) (he : (if v then 0 else 8) = er) :
    Calls Tryz.prog 40 #[.pointer (some ⟨K.k, 0, none⟩), .int .i64 i, .int .i64 n, .int .i64 st] w fun e w' => e = .returned (.agg #[.int .i64 er, .int .i64 0, .slice none 0 0]) ∧ To w K { K with gates := K.gates.set n { G with s := s' } } w' := by
  have k1 := (Keep.refl Nob w).alloc (.cells #[.int .i64 0, .int .i64 0, .slice none 0 0] 40)
  have hb := Blk.new w 40 [.int .i64 0, .int .i64 0, .slice none 0 0]
  have h1 := h.nob k1
  have mt := May.at_ (K := K) (ss := ss) n G rfl hG
  rw [decide_eq_true hm] at mt
  have hl := get_lt hG
  have h8 := h.few
  go_enter Tryz.func40, Tryz.ntmps40
  go_wp2_with fail
  refine (may_is h1 i hi ss hs n true mt).mono ?_; rintro e w1 ⟨rfl, m, rfl⟩
  have k2 := k1.drewN m
  have hb2 := hb.drewN m
  have h2 := h1.nob ((Keep.refl Nob _).drewN m)
  generalize (w.alloc (.cells #[.int .i64 0, .int .i64 0, .slice none 0 0] 40)).drewN m = w1 at *
  obtain ⟨g, hg, a1, -⟩ := h2.gate_at hG
  have c2 := h2.c2
  rw [hg] at c2
  have hLn : (n : Int) < K.gates.length := by omega
  have hsec := h2.sec G (List.mem_of_getElem? hG)
  have hcall := Se.leave_is hsec.1 i st v s' hv
  have F : ∀ W, Se.IsSec W G.p G.A G.cap s' → Keep (Se.SecB G.p G.A) w1 W → To w1 K { K with gates := K.gates.set n { G with s := s' } } W := by
    intro W hs' hk'
    have O := hsec.2.1.leave (who := i) (n := st)
    rw [hv] at O
    exact h2.gate hG hs' O hk' (fun x hx => .inl hx)
  have T0 := Lib.hid (And.intro k2 hb2)
  have HF := Lib.hid F
  have HD := Lib.hid h2
  have HE := Lib.hid he
  clear F hsec hv hs hm mt h1 h2 hb hb2 k2 hi h he
  generalize K.gates.length = L at *
  go_wp2_with fail
  refine hcall.mono ?_; rintro e w2 ⟨rfl, hs2, hk2⟩
  have t1 := HF.out _ hs2 hk2
  have hb3 := HD.out.offT T0.out.2 (by decide) t1.keep
  have z0 := hb3.cell 0
  have z1 := hb3.cell 1
  have z2 := hb3.cell 2
  have f0 := hb3.frozen 0
  have f1 := hb3.frozen 1
  have f2 := hb3.frozen 2
  simp only [List.getElem?_cons_zero, List.getElem?_cons_succ] at z0 z1 z2
  have fin := Lib.hid (t1.pre T0.out.1)
  have HB := Lib.hid hb3
  clear hb3 t1 hs2 hk2
  cases v with
  | true =>
    obtain rfl : er = 0 := HE.out.symm
    go_wp2
    (try simp only [Exit.inBlock, Exit.then])
    refine bodyPost_ret (v := .agg #[.int .i64 0, .int .i64 0, .slice none 0 0]) (results_cell_row rfl _ _ w.heap.size 40 #[.int .i64 0, .int .i64 0, .slice none 0 0] (0, 0) _ rfl (ans_blk HB.out _ _ _) Tryz.underlying40 rfl infoAns) rfl ?_
    exact ⟨rfl, fin.out.ans HB.out (Nat.le_refl _) _ _ _⟩
  | false =>
    obtain rfl : er = 8 := HE.out.symm
    go_wp2
    (try simp only [Exit.inBlock, Exit.then])
    refine bodyPost_ret (v := .agg #[.int .i64 8, .int .i64 0, .slice none 0 0]) (results_cell_row rfl _ _ w.heap.size 40 #[.int .i64 8, .int .i64 0, .slice none 0 0] (0, 0) _ rfl (ans_blk HB.out _ _ _) Tryz.underlying40 rfl infoAns) rfl ?_
    exact ⟨rfl, fin.out.ans HB.out (Nat.le_refl _) _ _ _⟩
end
end Go.Proofs.YtompckcnpidbdaaGreat
