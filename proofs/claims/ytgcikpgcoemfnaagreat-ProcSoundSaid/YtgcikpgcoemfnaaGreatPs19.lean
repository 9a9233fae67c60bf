import Derived.Test.YtgcikpgcoemfnaaGreatPs15
import Derived.Test.YtgcikpgcoemfnaaGreatPs18
import Derived.Test.YtgcikpgcoemfnaaGreatPs17
set_option maxRecDepth 100000
set_option maxHeartbeats 8000000
set_option linter.unusedVariables false
set_option linter.unusedSimpArgs false
namespace Go.Proofs.YtgcikpgcoemfnaaGreat
open Go.RowKit
structure Gt where
 p : Nat
 A : Option Addr
 cap : Nat
 s : Se.Sec
 mA : Option Addr
 mc : Nat
 may : List Int
def Gt.cells (G : Gt) : List Value := [.pointer (some ⟨G.p, 0, none⟩), .slice G.mA G.may.length G.mc]
structure Kn where
 k : Nat
 now : Int
 envs : List Int
 Ae : Option Addr
 ce : Nat
 gates : List Gt
 Ag : Option Addr
 cg : Nat
 pq : Nat
 Aq : Option Addr
 cq : Nat
 gq : Nat → Nat
 ns : List Nat
 bq : Nat → List Bool
 q : Nat
 m : Nat
 mr : Nat
 s : Nat
 B : Nat
 p : Nat → Nat
 r : Nat → Nat
 A : Option Addr
 cap : Nat
 xs : List UInt8
 T : St
 L : List Rf
def Turn (K : Kn) : Nat → Prop := fun b => b = K.k ∨ (∃ G ∈ K.gates, Se.SecB G.p G.A b) ∨ Qu.Rw K.ns.length K.gq b ∨ b = K.mr ∨ gZ K.envs.length K.r b
def Mine (K : Kn) : Nat → Prop := fun b => Turn K b ∨ Own K.Ae b ∨ ∃ G ∈ K.gates, Own G.mA b
def jj (l : List Gt) : List Value := (l.map Gt.cells).flatten
structure aK (w : World) (K : Kn) : Prop where
 obj : Blk w K.k 112 [.int .i64 K.now, .slice K.Ae K.envs.length K.ce, .slice K.Ag K.gates.length K.cg, .pointer (some ⟨K.pq, 0, none⟩), .pointer (some ⟨K.s, 0, none⟩), .pointer (some ⟨K.q, 0, none⟩)]
 env : Vec w 3 1 K.Ae K.envs.length K.ce (ab K.envs)
 row : Vec w 245 2 K.Ag K.gates.length K.cg (jj K.gates)
 sec : ∀ G ∈ K.gates, Se.IsSec w G.p G.A G.cap G.s ∧ G.s.Ok ∧ Vec w 3 1 G.mA G.may.length G.mc (ab G.may)
 quo : Qu.Quo w K.pq K.Aq K.cq K.gq K.ns K.bq
 reg : Reg w K.q K.m K.mr K.s K.B K.envs.length K.p K.r K.A K.cap K.xs K.T K.L
 few : K.gates.length ≤ 8
 lit : ∀ G ∈ K.gates, G.may.length ≤ 1000
 dp : ∀ (i j : Nat) G H, K.gates[i]? = some G → K.gates[j]? = some H → G.p = H.p → i = j
 dq : ∀ (i j : Nat) G H, K.gates[i]? = some G → K.gates[j]? = some H → i ≠ j → ∀ x, Own G.A x → ¬ Own H.A x
 de : ∀ G ∈ K.gates, ∀ x, Own G.A x → ¬ Own K.Ae x
 dm : ∀ G ∈ K.gates, ∀ H ∈ K.gates, ∀ x, Own G.A x → ¬ Own H.mA x
def Fix (t : TypeId) : Prop := t ∈ [245, 278, 275, 125, 209, 272, 269, 375, 121]
instance (t : TypeId) : Decidable (Fix t) := by unfold Fix; infer_instance
section
variable {w w' : World} {K : Kn} {M : Nat → Prop}
theorem eO {t : TypeId} {x : Nat} {u : TypeId} {cs : List Value} (hM : ∀ b, M b → ∃ cs, Blk w b t cs) (hb : Blk w x u cs) (hu : u ≠ t) : ¬ M x := fun m => by
 obtain ⟨c, hc⟩ := hM _ m
 exact hb.ne_ hc hu rfl
theorem offV {t : TypeId} {e sz n cap : Nat} {A : Option Addr} {xs : List Value} (hM : ∀ b, M b → ∃ cs, Blk w b t cs) (hv : Vec w e sz A n cap xs) (hu : e ≠ t) : ∀ g, Own A g → ¬ M g := fun g hg m => by
 obtain ⟨c, hc⟩ := hv.blk hg
 exact eO hM hc hu m
theorem fixB {x : Nat} {u : TypeId} {cs : List Value} (hM : ∀ b, M b → ∃ t cs, Blk w b t cs ∧ ¬ Fix t) (hb : Blk w x u cs) (hu : Fix u) : ¬ M x := fun m => by
 obtain ⟨t, c, hc, hn⟩ := hM _ m
 obtain ⟨_, rfl⟩ := hb.same hc
 exact hn hu
theorem fixV {e sz n cap : Nat} {A : Option Addr} {xs : List Value} (hM : ∀ b, M b → ∃ t cs, Blk w b t cs ∧ ¬ Fix t) (hv : Vec w e sz A n cap xs) (hu : Fix e) : ∀ g, Own A g → ¬ M g := fun g hg m => by
 obtain ⟨c, hc⟩ := hv.blk hg
 exact fixB hM hc hu m
theorem aK.keep (h : aK w K) (k : Keep M w w') (hM : ∀ b, M b → ∃ t cs, Blk w b t cs ∧ ¬ Fix t) (hd : ∀ b, Mine K b → ¬ M b) : aK w' K := by
 have hG : ∀ G ∈ K.gates, ∀ b, Se.SecB G.p G.A b → ¬ M b := fun G hG b hb => hd b (.inl (.inr (.inl ⟨G, hG, hb⟩)))
 refine ⟨h.obj.keep k (hd _ (.inl (.inl rfl))), h.env.keep k (fun g hg => hd g (.inr (.inl hg))), h.row.keep k (fixV hM h.row (by decide)), fun G hg => ⟨(h.sec G hg).1.keep k (hG G hg _ (.inl rfl)) (fun x hx => hG G hg x (.inr hx)), (h.sec G hg).2.1, (h.sec G hg).2.2.keep k (fun x hx => hd x (.inr (.inr ⟨G, hg, hx⟩)))⟩,
  h.quo.keep k (fixB hM h.quo.obj (by decide)) (fixV hM h.quo.row (by decide)) (fun i hi => hd _ (.inl (.inr (.inr (.inl ⟨i, hi, rfl⟩))))),
  h.reg.keep k (fixB hM h.reg.obj (by decide)) (fixB hM h.reg.mem.obj (by decide)) (hd _ (.inl (.inr (.inr (.inr (.inl rfl)))))) (fixB hM h.reg.sp.obj (by decide)) (fixB hM h.reg.sp.row (by decide)) (fun i hi => ⟨fixB hM (h.reg.sp.tab i hi).obj (by decide), hd _ (.inl (.inr (.inr (.inr (.inr ⟨i, hi, rfl⟩)))))⟩) (fixV hM h.reg.row (by decide)),
  h.few, h.lit, h.dp, h.dq, h.de, h.dm⟩
theorem aK.nob (h : aK w K) (k : Keep Nob w w') : aK w' K := h.keep k (fun _ f => f.elim) (fun _ _ f => f)
theorem aK.turn (h : aK w K) : ∀ b, Turn K b → ∃ t cs, Blk w b t cs ∧ ¬ Fix t := by
 rintro b (rfl | ⟨G, hG, hb⟩ | ⟨i, hi, rfl⟩ | rfl | ⟨i, hi, rfl⟩)
 ·exact ⟨_, _, h.obj, by decide⟩
 ·rcases hb with rfl | hb
  ·exact ⟨_, _, (h.sec G hG).1.obj, by decide⟩
  ·obtain ⟨cur, hc⟩ := (h.sec G hG).1.row.blk hb
   exact ⟨_, _, hc, by decide⟩
 ·exact ⟨_, _, h.quo.tab i hi, by decide⟩
 ·exact ⟨_, _, h.reg.mem.row, by decide⟩
 ·exact ⟨_, _, (h.reg.sp.tab i hi).row, by decide⟩
theorem aK.mine_lt (h : aK w K) : ∀ b, Mine K b → b < w.heap.size := by
 rintro b (hb | hb | ⟨G, hG, hb⟩)
 ·obtain ⟨t, cs, hb, _⟩ := h.turn b hb
  exact hb.lt
 ·exact h.env.lt b hb
 ·exact (h.sec G hG).2.2.lt b hb
structure To (w : World) (K K' : Kn) (w' : World) : Prop where
 is : aK w' K'
 keep : Keep (Turn K) w w'
 mine : ∀ b, Mine K' b → Mine K b ∨ w.heap.size ≤ b
theorem To.still (h : aK w K) (k : Keep Nob w w') : To w K K w' := ⟨h.nob k, k.mono (fun _ _ f => f.elim), fun _ hb => .inl hb⟩
theorem aK.bytes (h : aK w K) {ys : List UInt8} (hr : Reg w' K.q K.m K.mr K.s K.B K.envs.length K.p K.r K.A K.cap ys K.T K.L) (k : Keep (· = K.mr) w w') : To w K { K with xs := ys } w' := by
 have hM : ∀ b, b = K.mr → ∃ cs, Blk w b 5 cs := fun b e => e ▸ ⟨_, h.reg.mem.row⟩
 have ob : ∀ {x : Nat} {u : TypeId} {cs : List Value}, Blk w x u cs → u ≠ 5 → ¬ (fun b => b = K.mr) x := fun hb hu => eO (M := fun b => b = K.mr) hM hb hu
 have ov : ∀ {e sz n cap : Nat} {A : Option Addr} {xs : List Value}, Vec w e sz A n cap xs → e ≠ 5 → ∀ g, Own A g → ¬ (fun b => b = K.mr) g := fun hv hu => offV (M := fun b => b = K.mr) hM hv hu
 refine ⟨⟨h.obj.keep k (ob h.obj (by decide)), h.env.keep k (ov h.env (by decide)), h.row.keep k (ov h.row (by decide)), fun G hg => ⟨(h.sec G hg).1.keep k (ob (h.sec G hg).1.obj (by decide)) (ov (h.sec G hg).1.row (by decide)), (h.sec G hg).2.1, (h.sec G hg).2.2.keep k (ov (h.sec G hg).2.2 (by decide))⟩,
  h.quo.keep k (ob h.quo.obj (by decide)) (ov h.quo.row (by decide)) (fun i hi => ob (h.quo.tab i hi) (by decide)), hr, h.few, h.lit, h.dp, h.dq, h.de, h.dm⟩, k.mono (fun b _ e => .inr (.inr (.inr (.inl e)))), fun b hb => .inl hb⟩
theorem aK.space (h : aK w K) {T' : St} (hs : dg w' K.s K.B K.envs.length K.p K.r T') (I : Inv T' K.envs.length) (k : Keep (gZ K.envs.length K.r) w w') : To w K { K with T := T' } w' := by
 have hM : ∀ b, gZ K.envs.length K.r b → ∃ cs, Blk w b 372 cs := fun b ⟨i, hi, e⟩ => e ▸ ⟨_, (h.reg.sp.tab i hi).row⟩
 have ob : ∀ {x : Nat} {u : TypeId} {cs : List Value}, Blk w x u cs → u ≠ 372 → ¬ (gZ K.envs.length K.r) x := fun hb hu => eO (M := gZ K.envs.length K.r) hM hb hu
 have ov : ∀ {e sz n cap : Nat} {A : Option Addr} {xs : List Value}, Vec w e sz A n cap xs → e ≠ 372 → ∀ g, Own A g → ¬ (gZ K.envs.length K.r) g := fun hv hu => offV (M := gZ K.envs.length K.r) hM hv hu
 refine ⟨⟨h.obj.keep k (ob h.obj (by decide)), h.env.keep k (ov h.env (by decide)), h.row.keep k (ov h.row (by decide)), fun G hg => ⟨(h.sec G hg).1.keep k (ob (h.sec G hg).1.obj (by decide)) (ov (h.sec G hg).1.row (by decide)), (h.sec G hg).2.1, (h.sec G hg).2.2.keep k (ov (h.sec G hg).2.2 (by decide))⟩,
  h.quo.keep k (ob h.quo.obj (by decide)) (ov h.quo.row (by decide)) (fun i hi => ob (h.quo.tab i hi) (by decide)), h.reg.space hs I k, h.few, h.lit, h.dp, h.dq, h.de, h.dm⟩, k.mono (fun b _ e => .inr (.inr (.inr (.inr e)))), fun b hb => .inl hb⟩
end
section
variable {w0 w w' : World} {K K' : Kn}
end
end Go.Proofs.YtgcikpgcoemfnaaGreat
namespace Go.Proofs.YtgcikpgcoemfnaaGreat
open Go.RowKit
def MyT (t : TypeId) : Prop := t ∈ [112, 360, 3, 4, 5, 372]
instance (t : TypeId) : Decidable (MyT t) := by unfold MyT; infer_instance
section
variable {w w' : World} {K K' : Kn}
theorem aK.ty (h : aK w K) : ∀ b, Mine K b → ∃ t cs, Blk w b t cs ∧ MyT t := by
 have ex : ∀ {b : Nat} {t : TypeId} {cs : List Value}, Blk w b t cs → MyT t → ∃ t cs, Blk w b t cs ∧ MyT t := fun hb ht => ⟨_, _, hb, ht⟩
 rintro b ((rfl | ⟨G, hG, hb⟩ | ⟨i, hi, rfl⟩ | rfl | ⟨i, hi, rfl⟩) | hb | ⟨G, hG, hb⟩)
 ·exact ex h.obj (by decide)
 ·rcases hb with rfl | hb
  ·exact ex (h.sec G hG).1.obj (by decide)
  ·obtain ⟨cur, hc⟩ := (h.sec G hG).1.row.blk hb
   exact ex hc (by decide)
 ·exact ex (h.quo.tab i hi) (by decide)
 ·exact ex h.reg.mem.row (by decide)
 ·exact ex (h.reg.sp.tab i hi).row (by decide)
 ·obtain ⟨cur, hc⟩ := h.env.blk hb
  exact ex hc (by decide)
 ·obtain ⟨cur, hc⟩ := (h.sec G hG).2.2.blk hb
  exact ex hc (by decide)
theorem aK.mine_ne (h : aK w K) {g : Nat} {t : TypeId} {cs : List Value} (hb : Blk w g t cs) (ht : ¬ MyT t) : ¬ Mine K g := fun m => by
 obtain ⟨t', c, hc, hm⟩ := h.ty g m
 obtain ⟨_, rfl⟩ := hb.same hc
 exact ht hm
theorem aK.offT (h : aK w K) {g : Nat} {t : TypeId} {cs : List Value} (hb : Blk w g t cs) (ht : ¬ MyT t) (k : Keep (Turn K) w w') : Blk w' g t cs := hb.keep k (fun m => h.mine_ne hb ht (.inl m))
theorem aK.far (h : aK w K) {g : Nat} {t : TypeId} {cs : List Value} (hb : Blk w g t cs) (ht : ¬ MyT t) (hf : ¬ Fix t) (k : Keep (· = g) w w') : aK w' K :=
 h.keep (M := fun b => b = g) k (fun b e => ⟨t, cs, e ▸ hb, hf⟩) (fun b m e => h.mine_ne hb ht (e ▸ m))
theorem To.pre {w1 : World} (k : Keep Nob w w1) (t : To w1 K K' w') : To w K K' w' :=
 ⟨t.is, (k.mono (fun _ _ f => f.elim)).trans t.keep (fun _ _ m => m), fun b hb => (t.mine b hb).imp id (fun h => by have := k.size; omega)⟩
theorem To.post {w1 : World} (t : To w K K' w1) {g : Nat} {ty : TypeId} {cs : List Value} (hb : Blk w1 g ty cs) (ht : ¬ MyT ty) (hf : ¬ Fix ty) (hg : w.heap.size ≤ g) (k : Keep (· = g) w1 w') : To w K K' w' :=
 ⟨t.is.far hb ht hf k, t.keep.trans k (fun b hlt e => by omega), t.mine⟩
theorem aK.c1 (h : aK w K) : w.cell? ⟨K.k, 1, none⟩ = some (.slice K.Ae K.envs.length K.ce) := h.obj.cell 1
theorem aK.c2 (h : aK w K) : w.cell? ⟨K.k, 2, none⟩ = some (.slice K.Ag K.gates.length K.cg) := h.obj.cell 2
theorem aK.c4 (h : aK w K) : w.cell? ⟨K.k, 4, none⟩ = some (.pointer (some ⟨K.s, 0, none⟩)) := h.obj.cell 4
theorem aK.c5 (h : aK w K) : w.cell? ⟨K.k, 5, none⟩ = some (.pointer (some ⟨K.q, 0, none⟩)) := h.obj.cell 5
theorem aK.env_at (h : aK w K) {i : Nat} (hi : i < K.envs.length) : ∃ g, K.Ae = some ⟨g, 0, none⟩ ∧ w.cell? ⟨g, i, none⟩ = some (.int .i64 (K.envs.getD i 0)) := by
 obtain ⟨r, cur, hA, hb, hn, hc, ht⟩ := h.env.at_ (by omega)
 refine ⟨r, hA, ?_⟩
 have e : (ab K.envs)[i]? = some (.int .i64 (K.envs.getD i 0)) := by simp [ab, hi, List.getD_eq_getElem?_getD]
 rw [← ht, List.getElem?_take, if_pos (by omega)] at e
 rw [hb.cell]; exact e
theorem jM (h : aK w K) (i : Nat) (hi : i < K.envs.length) (v : Int) (hv : K.envs.getD i 0 = v) :
  Calls Tryz.prog 79 #[.pointer (some ⟨K.k, 0, none⟩), .int .i64 i] w fun e w' => e = .returned (.tuple #[.int .i64 v, .bool true]) ∧ w = w' := by
 have c1 := h.c1
 obtain ⟨g, hg, hc⟩ := h.env_at hi
 rw [hg] at c1
 rw [hv] at hc
 have h40 := h.reg.inv.n40
 clear hv
 generalize K.envs.length = n at *
 go_enter Tryz.func79, Tryz.ntmps79
 go_wp2
 go_ret2
 exact ⟨rfl, rfl⟩
theorem iQ (h : aK w K) : Calls Tryz.prog 168 #[.pointer (some ⟨K.k, 0, none⟩)] w fun e w' => e = .returned (.pointer (some ⟨K.s, 0, none⟩)) ∧ w = w' := by
 have c4 := h.c4
 go_enter Tryz.func168, Tryz.ntmps168
 go_wp2
 go_ret
 exact ⟨rfl, rfl⟩
theorem infoAns : (Tryz.prog.info? 85).map (·.size) = some 3 := by kernel_rfl
end
end Go.Proofs.YtgcikpgcoemfnaaGreat
namespace Go.Proofs.YtgcikpgcoemfnaaGreat
open Go.RowKit
theorem infoRoom : (Tryz.prog.info? 236).map (fun i => (i.zero, i.size, i.bytes)) = some (some (.agg #[.int .i64 0, .int .i64 0]), 2, 16) := by kernel_rfl
theorem counted_is (w : World) (Af Ae As Ah : Option Addr) (nf cf ne ce nS cs nh ch : Nat) (lease : Int) (h1 : 1 ≤ nf) (h2 : nf ≤ 4) (h3 : ne ≤ 40) (h4 : nS ≤ 8) (h5 : nh ≤ 16) (h6 : 1 ≤ lease) (h7 : lease ≤ 1000) :
  Calls Tryz.prog 151 #[.agg #[.slice Af nf cf, .slice Ae ne ce, .slice As nS cs, .int .i64 lease, .slice Ah nh ch]] w fun e w' => e = .returned (.bool true) ∧ Keep Nob w w' := by
 have a1 : (1 : Int) ≤ nf := by omega
 have a2 : (nf : Int) ≤ 4 := by omega
 have a3 : (ne : Int) ≤ 40 := by omega
 have a4 : (nS : Int) ≤ 8 := by omega
 have a5 : (nh : Int) ≤ 16 := by omega
 have k1 := (Keep.refl Nob w).alloc (.cells #[.slice Af nf cf, .slice Ae ne ce, .slice As nS cs, .int .i64 lease, .slice Ah nh ch] 144)
 go_enter Tryz.func151, Tryz.ntmps151
 go_wp2
 go_ret
 exact ⟨rfl, k1⟩
def aI (ns : List Nat) : List Value := (mk ns.length fun i => [.int .i64 (Qu.first ns i), .int .i64 (ns.getD i 0)]).flatten
def bH (ns : List Nat) (k : Nat) : List Value := (mk ns.length fun i => if i < k then [.int .i64 (Qu.first ns i), .int .i64 (ns.getD i 0)] else [.int .i64 0, .int .i64 0]).flatten
theorem roomPart_all (ns : List Nat) : bH ns ns.length = aI ns := by
 unfold bH aI
 congr 1
 exact gu fun i hi => if_pos hi
def rp (ns : List Nat) (k : Nat) : List (List Value) := mk ns.length fun i => if i < k then [.int .i64 (Qu.first ns i), .int .i64 (ns.getD i 0)] else [.int .i64 0, .int .i64 0]
theorem fU (ns : List Nat) (k : Nat) : ∀ c ∈ rp ns k, c.length = 2 := fun c hc => by
 obtain ⟨i, _, rfl⟩ := List.mem_map.1 hc
 split <;> rfl
theorem lJ {ns : List Nat} {k : Nat} (hk : k < ns.length) : ((bH ns k).set (k * 2) (.int .i64 (Qu.first ns k))).set (k * 2 + 1) (.int .i64 (ns.getD k 0)) = bH ns (k + 1) := by
 have e0 : (rp ns k)[k]? = some [.int .i64 0, .int .i64 0] := by unfold rp; rw [dn hk, if_neg (Nat.lt_irrefl _)]
 have s1 := eh (.int .i64 (Qu.first ns k)) _ (fU ns k) k 0 _ (by decide) e0
 rw [Nat.add_zero] at s1
 have hl : k < (rp ns k).length := by unfold rp; rw [mk_len]; exact hk
 have s2 := eh (W := 2) (.int .i64 (ns.getD k 0)) ((rp ns k).set k [.int .i64 (Qu.first ns k), .int .i64 0]) (fun c hc => by
  rcases List.mem_or_eq_of_mem_set hc with hc | rfl
  ·exact fU ns k c hc
  ·rfl) k 1 [.int .i64 (Qu.first ns k), .int .i64 0] (by decide) (List.getElem?_set_self hl)
 show (((rp ns k).flatten).set (k * 2) _).set (k * 2 + 1) _ = (rp ns (k + 1)).flatten
 rw [s1]
 show ((rp ns k).set k [.int .i64 (Qu.first ns k), .int .i64 0]).flatten.set (k * 2 + 1) _ = _
 rw [s2, List.set_set]
 congr 1
 refine mk_set _ fun j hj => ?_
 by_cases e : j = k
 ·subst e
  rw [if_pos rfl, if_pos (by omega)]
  rfl
 ·rw [if_neg e]
  by_cases e2 : j < k
  ·rw [if_pos e2, if_pos (by omega)]
  ·rw [if_neg e2, if_neg (by omega)]
theorem iy {ns : List Nat} {k i : Nat} (hi : i < ns.length) (hk : ¬ i < k) : (bH ns k)[i * 2]? = some (.int .i64 0) ∧ (bH ns k)[i * 2 + 1]? = some (.int .i64 0) := by
 have e0 := aE _ (fU ns k) i 0 (by decide)
 have e1 := aE _ (fU ns k) i 1 (by decide)
 unfold rp at e0 e1
 rw [dn hi, if_neg hk] at e0 e1
 exact ⟨e0, e1⟩
theorem dY {ns : List Nat} {i : Nat} (hi : i < ns.length) : (aI ns)[i * 2]? = some (.int .i64 (Qu.first ns i)) ∧ (aI ns)[i * 2 + 1]? = some (.int .i64 (ns.getD i 0)) := by
 have hW : ∀ c ∈ mk ns.length (fun i => [Value.int .i64 (Qu.first ns i), .int .i64 (ns.getD i 0)]), c.length = 2 := fun c hc => by
  obtain ⟨i, _, rfl⟩ := List.mem_map.1 hc
  rfl
 have e0 := aE _ hW i 0 (by decide)
 have e1 := aE _ hW i 1 (by decide)
 rw [dn hi] at e0 e1
 exact ⟨e0, e1⟩
def offs (g : Nat) (w : World) : Nat := match w.heap[g]? with
 | some (.cells cs _ _) => cs.toList.countP (fun v => match v with | .bool false => true | _ => false)
 | _ => 0
theorem offs_is {w : World} {g : Nat} {l : List Bool} (h : Blk w g 4 (Qu.dc l)) : offs g w = l.count false := by
 unfold offs
 rw [h]
 simp only [Qu.dc]
 rw [List.countP_map, List.count]
 exact List.countP_congr fun b _ => by cases b <;> simp
def bG (n j : Nat) : List Bool := List.replicate j true ++ List.replicate (n - j) false
theorem taken_len {n j : Nat} (h : j ≤ n) : (bG n j).length = n := by simp [bG]; omega
theorem gI {n j : Nat} : (bG n j).count false = n - j := by simp [bG, List.count_append, List.count_replicate]
theorem taken_true {n j : Nat} : (bG n j).count true = j := by simp [bG, List.count_append, List.count_replicate]
theorem taken_idx {n j : Nat} (h : j < n) : (bG n j).idxOf false = j := by
 obtain ⟨d, hd⟩ : ∃ d, n - j = d + 1 := ⟨n - j - 1, by omega⟩
 unfold bG
 rw [hd, List.replicate_succ]
 clear hd h
 induction j with
 | zero => simp
 | succ j ih => rw [List.replicate_succ, List.cons_append, List.idxOf_cons, ih]; simp
theorem taken_full {n : Nat} : ¬ (bG n n).idxOf false < (bG n n).length := by
 have : false ∉ bG n n := by simp [bG]
 have := List.idxOf_eq_length this
 omega
theorem taken_next {n j : Nat} (h : j < n) : (bG n j).set j true = bG n (j + 1) := by
 obtain ⟨d, hd⟩ : ∃ d, n - j = d + 1 := ⟨n - j - 1, by omega⟩
 unfold bG
 rw [hd, show n - (j + 1) = d by omega, List.replicate_succ, List.set_append_right _ _ (by simp)]
 simp [List.replicate_succ', List.append_assoc]
theorem keep2 (W : World) (g a b : Nat) (u v : Value) : Keep (fun x => x = g) W ((W.setCell ⟨g, a, none⟩ u).setCell ⟨g, b, none⟩ v) :=
 ((Keep.refl (fun x => x = g) W).setCell ⟨g, a, none⟩ u (fun _ => rfl)).setCell ⟨g, b, none⟩ v (fun _ => rfl)
theorem quo_far2 {W : World} {p : Nat} {A : Option Addr} {cap : Nat} {gq : Nat → Nat} {ns : List Nat} {b : Nat → List Bool} (h : Qu.Quo W p A cap gq ns b) {g : Nat} {cs : List Value} (hB : Blk W g 236 cs) (x y : Nat) (u v : Value) :
  Qu.Quo ((W.setCell ⟨g, x, none⟩ u).setCell ⟨g, y, none⟩ v) p A cap gq ns b :=
 h.keep (keep2 W g x y u v) (h.obj.ne_ hB (by decide)) (fun x hx e => by obtain ⟨cur, hc⟩ := h.row.blk hx; exact hc.ne_ hB (by decide) e) (fun i hi => (h.tab i hi).ne_ hB (by decide))
theorem rooms_is {w : World} {A0 : Option Addr} {n0 c0 : Nat} {xs : List Int} (hx : ae w A0 n0 (ab xs)) (h0 : n0 ≤ c0) (h4 : n0 ≤ 4) (ns : List Nat) (hns : Qu.dI xs = ns) :
  Calls Tryz.prog 152 #[.slice A0 n0 c0] w fun e w' => ∃ g, e = .returned (.slice (some ⟨g, 0, none⟩) n0 n0) ∧ Blk w' g 236 (aI ns) ∧ w.heap.size ≤ g ∧ Keep Nob w w' := by
 have hlx : xs.length = n0 := by have := hx.1; rwa [dd] at this
 have hnl : ns.length = n0 := by rw [← hns, Qu.fO]; omega
 have HN := aa hns
 have HNL := aa hnl
 clear hlx hns hnl
 go_enter Tryz.func152, Tryz.ntmps152
 go_wp2_with fail
 refine (Qu.new_is hx h0 ns HN.out).mono ?_; rintro e w1 ⟨p, A, cap, gq, rfl, hQ, hgq, k1⟩
 go_wp2_with (refine lj rfl _ _ 232 rfl 236 (.agg #[.int .i64 0, .int .i64 0]) 16 Tryz.underlying232 infoRoom .i64 .i64 n0 _ rfl rfl rfl (by omega) (by omega) ?_; intro w2 hb2 hk2 hs2)
 have Q2 := hQ.nob hk2
 have B2 : Blk w2 w1.heap.size 236 (bH ns 0) := by
  have e : bH ns 0 = (List.replicate n0 (Value.agg #[.int .i64 0, .int .i64 0]).cells.toList).flatten := by
   unfold bH
   rw [HNL.out, mk_rep]
   rfl
  rw [e]; exact hb2
 have k2 := k1.trans hk2 (fun _ _ f => f)
 have hsz := k1.size
 clear hb2 hk2 hs2 hQ
 go_wp2_with fail
 go_loopw [5, 15] (fun s5 s15 wx => ∃ (k : Nat) (b : Nat → List Bool), k ≤ n0 ∧ s5 = .int .i64 (Qu.first ns k : Nat) ∧ s15 = .int .i64 k ∧ Qu.Quo wx p A cap gq ns b ∧ (∀ i, k ≤ i → i < n0 → b i = bG (ns.getD i 0) 0) ∧ Blk wx w1.heap.size 236 (bH ns k) ∧ Keep Nob w wx) (fun _ t _ => n0 - (intOf t).toNat)
 case atStart => exact ⟨0, _, Nat.zero_le _, rfl, rfl, Q2, fun i _ _ => by simp [bG], B2, k2⟩
 case round =>
  obtain ⟨k, b, hk, rfl, rfl, hQ, hb, hB, hK⟩ := hrel
  clear Q2 B2 k2
  have HB := aa hb
  have HQ0 := aa hQ
  clear hb hQ
  by_cases hlt : k < n0
  ·have hkn : k < ns.length := by rw [HNL.out]; exact hlt
   obtain ⟨n, hn⟩ : ∃ n, ns.getD k 0 = n := ⟨_, rfl⟩
   have hn64 : n ≤ 64 := by
    have := HQ0.out.size hkn
    rw [HQ0.out.len k hkn, hn] at this
    exact this
   have hfl := Qu.bV HQ0.out.small k (by omega)
   have hfn := Qu.dj hkn
   have HN2 := aa hn
   have HFN := aa hfn
   have hg8 : ∀ i, i < ns.length → w.heap.size ≤ gq i := hgq
   clear hn hfn
   go_wp2_with fail
   go_loopw [7] (fun s7 wx => ∃ (j : Nat) (b : Nat → List Bool) (er : Int), j ≤ n ∧ s7 = .int .i64 er ∧ (er = 0 ∨ (er = 4 ∧ j = n)) ∧ Qu.Quo wx p A cap gq ns b ∧ b k = bG n j ∧ (∀ i, k < i → i < n0 → b i = bG (ns.getD i 0) 0) ∧ Blk wx w1.heap.size 236 (bH ns k) ∧ Keep Nob w wx) (fun s wx => offs (gq k) wx + (if intOf s = 0 then 1 else 0))
   case atStart => exact ⟨0, b, 0, Nat.zero_le _, rfl, .inl rfl, HQ0.out, by rw [HB.out k (Nat.le_refl _) hlt, HN2.out], fun i h1 h2 => HB.out i (by omega) h2, hB, hK⟩
   case round =>
    obtain ⟨j, b2, er, hj, rfl, her, hQ2, hbk, hbi, hB2, hK2⟩ := hrel
    have ho := offs_is (hQ2.tab k hkn)
    rw [hbk, gI] at ho
    have HO := aa ho
    have HBI := aa hbi
    have HBK := aa hbk
    clear ho hbi hbk hB hK
    rcases her with rfl | ⟨rfl, rfl⟩
    ·by_cases hjn : j < n
     ·have hal : Qu.al ns.length b2 k = ((j : Int), 0, Qu.up b2 k (bG n (j + 1))) := by
       unfold Qu.al
       rw [if_pos ⟨by omega, by omega⟩, Int.toNat_natCast, HBK.out, taken_idx hjn, taken_len hj, if_pos hjn, taken_next hjn]
      go_wp2_with fail
      refine (Qu.alloc_is hQ2 k _ _ _ hal).mono ?_; rintro e w4 ⟨rfl, hQ4, k4⟩
      have hB4 : Blk w4 w1.heap.size 236 (bH ns k) := hB2.keep k4 (fun ⟨i, hi, e⟩ => hB2.ne_ (hQ2.tab i hi) (by decide) e.symm)
      have hK4 : Keep Nob w w4 := hK2.trans k4 (fun x hx ⟨i, hi, e⟩ => by have := hg8 i hi; omega)
      have hbk4 : Qu.up b2 k (bG n (j + 1)) k = bG n (j + 1) := by unfold Qu.up; rw [if_pos rfl]
      have ho4 := offs_is (hQ4.tab k hkn)
      rw [hbk4, gI] at ho4
      have HO4 := aa ho4
      have fin : Qu.Quo w4 p A cap gq ns (Qu.up b2 k (bG n (j + 1))) ∧ Qu.up b2 k (bG n (j + 1)) k = bG n (j + 1) ∧ ∀ i, k < i → i < n0 → Qu.up b2 k (bG n (j + 1)) i = bG (ns.getD i 0) 0 := ⟨hQ4, hbk4, fun i h1 h2 => by unfold Qu.up; rw [if_neg (by omega)]; exact HBI.out i h1 h2⟩
      have FI := aa fin
      clear fin ho4 hbk4 hQ4 hQ2 hB2 hK2 hal k4
      go_wp2_with fail
      go_roundw
      case rel => exact ⟨j + 1, _, 0, by omega, rfl, .inl rfl, FI.out.1, FI.out.2.1, FI.out.2.2, hB4, hK4⟩
      case measure => rw [HO.out, HO4.out]; simp [intOf]; omega
     ·obtain rfl : j = n := by omega
      have hal : Qu.al ns.length b2 k = ((0 : Int), 4, b2) := by
       unfold Qu.al
       rw [if_pos ⟨by omega, by omega⟩, Int.toNat_natCast, HBK.out, if_neg taken_full]
      go_wp2_with fail
      refine (Qu.alloc_is hQ2 k _ _ _ hal).mono ?_; rintro e w4 ⟨rfl, hQ4, k4⟩
      have hB4 : Blk w4 w1.heap.size 236 (bH ns k) := hB2.keep k4 (fun ⟨i, hi, e⟩ => hB2.ne_ (hQ2.tab i hi) (by decide) e.symm)
      have hK4 : Keep Nob w w4 := hK2.trans k4 (fun x hx ⟨i, hi, e⟩ => by have := hg8 i hi; omega)
      have ho4 := offs_is (hQ4.tab k hkn)
      rw [HBK.out, gI] at ho4
      have HO4 := aa ho4
      have FI := aa hQ4
      clear ho4 hQ4 hQ2 hB2 hK2 hal k4
      go_wp2_with fail
      go_roundw
      case rel => exact ⟨j, b2, 4, Nat.le_refl _, rfl, .inr ⟨rfl, rfl⟩, FI.out, HBK.out, HBI.out, hB4, hK4⟩
      case measure => rw [HO.out, HO4.out]; simp [intOf]
    ·have hu : Qu.used ns.length b2 k = (j : Int) := by
      unfold Qu.used
      rw [if_pos ⟨by omega, by omega⟩, Int.toNat_natCast, HBK.out, taken_true]
     have z0 := (hB2.cell (k * 2)).trans (iy hkn (Nat.lt_irrefl _)).1
     have z1 := (hB2.cell (k * 2 + 1)).trans (iy hkn (Nat.lt_irrefl _)).2
     have f0 := hB2.frozen (k * 2)
     have f1 := hB2.frozen (k * 2 + 1)
     have hBn := (hB2.setCell (k * 2) (.int .i64 (Qu.first ns k))).setCell (k * 2 + 1) (.int .i64 (ns.getD k 0))
     rw [lJ hkn, HN2.out] at hBn
     have hKn := (hK2.setCell ⟨w1.heap.size, k * 2, none⟩ (.int .i64 (Qu.first ns k)) (fun h => by dsimp only at h; omega)).setCell ⟨w1.heap.size, k * 2 + 1, none⟩ (.int .i64 j) (fun h => by dsimp only at h; omega)
     have hQn := quo_far2 hQ2 hB2 (k * 2) (k * 2 + 1) (.int .i64 (Qu.first ns k)) (.int .i64 j)
     have e9 := HFN.out
     rw [HN2.out] at e9
     have E9 := aa e9
     have FI := aa (And.intro hBn (And.intro hKn hQn))
     clear hBn hKn hQn hB2 hK2 e9
     go_wp2_with fail
     refine (Qu.used_is hQ2 k _ hu).mono ?_; rintro e w4 ⟨rfl, rfl⟩
     clear hQ2 hu
     go_wp2
     go_roundw
     case rel => exact ⟨k + 1, b2, by omega, by rw [E9.out]; go_num, by go_num, FI.out.2.2, fun i h1 h2 => HBI.out i (by omega) h2, FI.out.1, FI.out.2.1⟩
     case measure => simp [intOf]; omega
  ·obtain rfl : k = n0 := by omega
   have hB9 : Blk wr w1.heap.size 236 (aI ns) := by
    have := hB
    rw [show k = ns.length from HNL.out.symm, roomPart_all] at this
    exact this
   go_wp2
   go_ret
   exact ⟨_, rfl, hB9, hsz, hK⟩
end Go.Proofs.YtgcikpgcoemfnaaGreat
namespace Go.Proofs.YtgcikpgcoemfnaaGreat
open Go.RowKit
structure Sl where
 A : Option Addr
 c : Nat
 xs : List Int
def Sl.cell (s : Sl) : Value := .slice s.A s.xs.length s.c
structure Sh where
 ses : Int
 frame : Int
 lo : Int
 n : Int
 A : Option Addr
 c : Nat
 tos : List Int
def Sh.cells (s : Sh) : List Value := [.int .i64 s.ses, .int .i64 s.frame, .int .i64 s.lo, .int .i64 s.n, .slice s.A s.tos.length s.c]
def Sh.val (s : Sh) : Value := .agg #[.int .i64 s.ses, .int .i64 s.frame, .int .i64 s.lo, .int .i64 s.n, .slice s.A s.tos.length s.c]
def InR (n : Nat) (xs : List Int) : Prop := ∀ x ∈ xs, 0 ≤ x ∧ x < n
def ShOk (ns : List Nat) (s : Sh) : Prop := 0 ≤ s.ses ∧ s.ses < ns.length ∧ 0 ≤ s.frame ∧ s.frame ≤ (ns.getD s.ses.toNat 0 : Nat) ∧ 0 ≤ s.lo ∧ 0 ≤ s.n ∧ s.lo ≤ ((ns.getD s.ses.toNat 0 : Nat) - s.frame) * 64 - s.n ∧ InR ns.length s.tos ∧ s.tos.length ≤ 1000
theorem none_is (rc : Nat) (R : Option Addr) (n c : Nat) (x : Int) (w : World) (hc : w.cell? ⟨rc, 0, none⟩ = some (.slice R n c)) (h0 : 0 ≤ x) (h1 : x < n) :
  Calls Tryz.prog 256 #[.int .i64 x, .pointer (some ⟨rc, 0, none⟩)] w fun e w' => e = .returned (.bool false) ∧ w = w' := by
 go_enter Tryz.func256, Tryz.ntmps256
 go_wp2
 go_ret
 exact ⟨by simp; omega, rfl⟩
theorem ix1_is (rc : Nat) (R : Option Addr) (n c : Nat) (w : World) (hc : w.cell? ⟨rc, 0, none⟩ = some (.slice R n c)) (A : Option Addr) (m c2 : Nat) (xs : List Int) (hx : ae w A m (ab xs)) (hr : InR n xs) (hm : m ≤ 1000) :
  Calls Tryz.prog 312 #[.slice A m c2, .func (.func 256) #[] #[.pointer (some ⟨rc, 0, none⟩)]] w fun e w' => e = .returned (.int .i64 (-1)) ∧ w = w' := by
 have hl : xs.length = m := by have := hx.1; rwa [dd] at this
 have HX := aa hx
 have HL := aa hl
 have HR := aa hr
 clear hx hl hr
 go_enter Tryz.func312, Tryz.ntmps312
 go_wp2_with fail
 go_loop [8] (fun s8 => ∃ k : Nat, k ≤ m ∧ s8 = .int .i64 k) (fun s8 => m - (intOf s8).toNat)
 case atStart => exact ⟨0, Nat.zero_le _, rfl⟩
 case round =>
  obtain ⟨k, hk, rfl⟩ := hrel
  by_cases hlt : k < m
  ·obtain ⟨b, off, hA, hcl⟩ := HX.out.lit (by omega)
   obtain ⟨x, hx⟩ : ∃ x, xs[k]? = some x := ⟨_, List.getElem?_eq_getElem (by rw [HL.out]; exact hlt)⟩
   have hxm := HR.out x (List.mem_of_getElem? hx)
   have hck := hcl k (.int .i64 x) (by simp [ab, hx])
   subst hA
   clear hcl hx
   go_wp2_with fail
   refine (none_is rc R n c x _ hc hxm.1 hxm.2).mono ?_; rintro e w1 ⟨rfl, rfl⟩
   go_wp2_with fail
   go_round
   case rel => exact ⟨k + 1, by omega, by go_num⟩
   case measure => simp [intOf]; omega
  ·obtain rfl : k = m := by omega
   go_wp2
   go_ret
   exact ⟨rfl, rfl⟩
theorem cf1_is (rc : Nat) (R : Option Addr) (n c : Nat) (w : World) (hc : w.cell? ⟨rc, 0, none⟩ = some (.slice R n c)) (A : Option Addr) (m c2 : Nat) (xs : List Int) (hx : ae w A m (ab xs)) (hr : InR n xs) (hm : m ≤ 1000) :
  Calls Tryz.prog 241 #[.slice A m c2, .func (.func 256) #[] #[.pointer (some ⟨rc, 0, none⟩)]] w fun e w' => e = .returned (.bool false) ∧ w = w' := by
 go_enter Tryz.func241, Tryz.ntmps241
 go_wp2_with fail
 refine (ix1_is rc R n c w hc A m c2 xs hx hr hm).mono ?_; rintro e w1 ⟨rfl, rfl⟩
 go_wp2
 go_ret
 exact ⟨rfl, rfl⟩
theorem list_is (rc ic : Nat) (R : Option Addr) (n c : Nat) (w : World) (hc : w.cell? ⟨rc, 0, none⟩ = some (.slice R n c)) (hi : w.cell? ⟨ic, 0, none⟩ = some (.func (.func 256) #[] #[.pointer (some ⟨rc, 0, none⟩)])) (A : Option Addr) (m c2 : Nat) (xs : List Int) (hx : ae w A m (ab xs)) (hr : InR n xs) (hm : m ≤ 1000) :
  Calls Tryz.prog 257 #[.slice A m c2, .pointer (some ⟨ic, 0, none⟩)] w fun e w' => e = .returned (.bool false) ∧ w = w' := by
 go_enter Tryz.func257, Tryz.ntmps257
 go_wp2_with fail
 refine (cf1_is rc R n c w hc A m c2 xs hx hr hm).mono ?_; rintro e w1 ⟨rfl, rfl⟩
 go_wp2
 go_ret
 exact ⟨rfl, rfl⟩
theorem ix2_is (rc ic : Nat) (R : Option Addr) (n c : Nat) (w : World) (hc : w.cell? ⟨rc, 0, none⟩ = some (.slice R n c)) (hi : w.cell? ⟨ic, 0, none⟩ = some (.func (.func 256) #[] #[.pointer (some ⟨rc, 0, none⟩)])) (A : Option Addr) (m c2 : Nat) (ls : List Sl) (hx : ae w A m (ls.map Sl.cell)) (hr : ∀ s ∈ ls, ae w s.A s.xs.length (ab s.xs) ∧ InR n s.xs ∧ s.xs.length ≤ 1000) (hm : m ≤ 1000) :
  Calls Tryz.prog 318 #[.slice A m c2, .func (.func 257) #[] #[.pointer (some ⟨ic, 0, none⟩)]] w fun e w' => e = .returned (.int .i64 (-1)) ∧ w = w' := by
 have hl : ls.length = m := by have := hx.1; rwa [List.length_map] at this
 have HX := aa hx
 have HL := aa hl
 have HR := aa hr
 clear hx hl hr
 go_enter Tryz.func318, Tryz.ntmps318
 go_wp2_with fail
 go_loop [8] (fun s8 => ∃ k : Nat, k ≤ m ∧ s8 = .int .i64 k) (fun s8 => m - (intOf s8).toNat)
 case atStart => exact ⟨0, Nat.zero_le _, rfl⟩
 case round =>
  obtain ⟨k, hk, rfl⟩ := hrel
  by_cases hlt : k < m
  ·obtain ⟨b, off, hA, hcl⟩ := HX.out.lit (by omega)
   obtain ⟨x, hx⟩ : ∃ x, ls[k]? = some x := ⟨_, List.getElem?_eq_getElem (by rw [HL.out]; exact hlt)⟩
   have hxm := HR.out x (List.mem_of_getElem? hx)
   have hck := hcl k x.cell (by simp [hx])
   unfold Sl.cell at hck
   have HM := aa hxm
   subst hA
   clear hcl hx hxm
   go_wp2_with fail
   refine (list_is rc ic R n c _ hc hi _ _ _ x.xs HM.out.1 HM.out.2.1 HM.out.2.2).mono ?_; rintro e w1 ⟨rfl, rfl⟩
   go_wp2_with fail
   go_round
   case rel => exact ⟨k + 1, by omega, by go_num⟩
   case measure => simp [intOf]; omega
  ·obtain rfl : k = m := by omega
   go_wp2
   go_ret
   exact ⟨rfl, rfl⟩
theorem cf2_is (rc ic : Nat) (R : Option Addr) (n c : Nat) (w : World) (hc : w.cell? ⟨rc, 0, none⟩ = some (.slice R n c)) (hi : w.cell? ⟨ic, 0, none⟩ = some (.func (.func 256) #[] #[.pointer (some ⟨rc, 0, none⟩)])) (A : Option Addr) (m c2 : Nat) (ls : List Sl) (hx : ae w A m (ls.map Sl.cell)) (hr : ∀ s ∈ ls, ae w s.A s.xs.length (ab s.xs) ∧ InR n s.xs ∧ s.xs.length ≤ 1000) (hm : m ≤ 1000) :
  Calls Tryz.prog 258 #[.slice A m c2, .func (.func 257) #[] #[.pointer (some ⟨ic, 0, none⟩)]] w fun e w' => e = .returned (.bool false) ∧ w = w' := by
 go_enter Tryz.func258, Tryz.ntmps258
 go_wp2_with fail
 refine (ix2_is rc ic R n c w hc hi A m c2 ls hx hr hm).mono ?_; rintro e w1 ⟨rfl, rfl⟩
 go_wp2
 go_ret
 exact ⟨rfl, rfl⟩
theorem rhas_ok (w : World) (ah fr : Nat) (s : Sh) (h1 : 0 ≤ s.frame) (h2 : s.frame ≤ fr) (h3 : 0 ≤ s.lo) (h4 : 0 ≤ s.n) (h5 : s.lo ≤ ((fr : Int) - s.frame) * 64 - s.n) (h6 : fr ≤ 64) :
  Calls Tryz.prog 261 #[.agg #[.int .i64 ah, .int .i64 fr], s.val] w fun e w' => e = .returned (.bool true) ∧ Keep Nob w w' := by
 have k1 := ((Keep.refl Nob w).alloc (.cells #[.int .i64 ah, .int .i64 fr] 236)).alloc (.cells #[.int .i64 s.ses, .int .i64 s.frame, .int .i64 s.lo, .int .i64 s.n, .slice s.A s.tos.length s.c] 230)
 unfold Sh.val
 go_enter Tryz.func261, Tryz.ntmps261
 go_wp2
 go_ret
 exact ⟨by simp, k1⟩
structure Clo (w : World) (rc ic lc rr n : Nat) (ns : List Nat) : Prop where
 r : w.cell? ⟨rc, 0, none⟩ = some (.slice (some ⟨rr, 0, none⟩) n n)
 i : w.cell? ⟨ic, 0, none⟩ = some (.func (.func 256) #[] #[.pointer (some ⟨rc, 0, none⟩)])
 l : w.cell? ⟨lc, 0, none⟩ = some (.func (.func 257) #[] #[.pointer (some ⟨ic, 0, none⟩)])
 b : Blk w rr 236 (aI ns)
 rlt : rc < w.heap.size
 ilt : ic < w.heap.size
 llt : lc < w.heap.size
 nl : ns.length = n
 n4 : n ≤ 4
 n64 : ∀ x ∈ ns, x ≤ 64
theorem Clo.nob {w w' : World} {rc ic lc rr n : Nat} {ns : List Nat} (h : Clo w rc ic lc rr n ns) (k : Keep Nob w w') : Clo w' rc ic lc rr n ns :=
 ⟨k.cell_nob h.r, k.cell_nob h.i, k.cell_nob h.l, h.b.nob k, Nat.lt_of_lt_of_le h.rlt k.size, Nat.lt_of_lt_of_le h.ilt k.size, Nat.lt_of_lt_of_le h.llt k.size, h.nl, h.n4, h.n64⟩
theorem share_no {w : World} {rc ic lc rr n : Nat} {ns : List Nat} (h : Clo w rc ic lc rr n ns) (s : Sh) (hs : ShOk ns s) (ht : ae w s.A s.tos.length (ab s.tos)) :
  Calls Tryz.prog 260 #[s.val, .pointer (some ⟨ic, 0, none⟩), .pointer (some ⟨lc, 0, none⟩), .pointer (some ⟨rc, 0, none⟩)] w fun e w' => e = .returned (.bool false) ∧ Keep Nob w w' := by
 obtain ⟨a1, a2, a3, a4, a5, a6, a7, a8, a9⟩ := hs
 obtain ⟨i, hi⟩ := Int.eq_ofNat_of_zero_le a1
 rw [hi, Int.toNat_natCast] at a4 a7
 have hin : i < ns.length := by omega
 obtain ⟨f, hf⟩ : ∃ f, ns.getD i 0 = f := ⟨_, rfl⟩
 obtain ⟨ah, hah⟩ : ∃ ah, Qu.first ns i = ah := ⟨_, rfl⟩
 have hf64 : f ≤ 64 := by
  rw [← hf, List.getD_eq_getElem?_getD, List.getElem?_eq_getElem hin]
  exact h.n64 _ (List.getElem_mem hin)
 rw [hf] at a4 a7
 have hn := h.nl
 have hn4 := h.n4
 have k1 := (Keep.refl Nob w).alloc (.cells #[.int .i64 s.ses, .int .i64 s.frame, .int .i64 s.lo, .int .i64 s.n, .slice s.A s.tos.length s.c] 230)
 have b1 : Blk (w.alloc (.cells #[.int .i64 s.ses, .int .i64 s.frame, .int .i64 s.lo, .int .i64 s.n, .slice s.A s.tos.length s.c] 230)) w.heap.size 230 [.int .i64 s.ses, .int .i64 s.frame, .int .i64 s.lo, .int .i64 s.n, .slice s.A s.tos.length s.c] := Blk.new w 230 _
 have h1 := h.nob k1
 have ht1 := ht.nob k1
 have sf : ∀ W, Keep Nob (w.alloc (.cells #[.int .i64 s.ses, .int .i64 s.frame, .int .i64 s.lo, .int .i64 s.n, .slice s.A s.tos.length s.c] 230)) W → W.cell? ⟨ic, 0, none⟩ = some (.func (.func 256) #[] #[.pointer (some ⟨rc, 0, none⟩)]) ∧ W.cell? ⟨w.heap.size, 0, none⟩ = some (.int .i64 i) ∧ W.cell? ⟨lc, 0, none⟩ = some (.func (.func 257) #[] #[.pointer (some ⟨ic, 0, none⟩)]) ∧ W.cell? ⟨w.heap.size, 4, none⟩ = some (.slice s.A s.tos.length s.c) ∧ W.cell? ⟨rc, 0, none⟩ = some (.slice (some ⟨rr, 0, none⟩) n n) ∧ W.cell? ⟨rr, i * 2, none⟩ = some (.int .i64 ah) ∧ W.cell? ⟨rr, i * 2 + 1, none⟩ = some (.int .i64 f) ∧ W.cell? ⟨w.heap.size, 1, none⟩ = some (.int .i64 s.frame) ∧ W.cell? ⟨w.heap.size, 2, none⟩ = some (.int .i64 s.lo) ∧ W.cell? ⟨w.heap.size, 3, none⟩ = some (.int .i64 s.n) := by
  intro W k
  have hW := h1.nob k
  have b := b1.nob k
  have g := dY hin
  rw [hf, hah] at g
  have e0 := b.cell 0
  simp only [List.getElem?_cons_zero, hi] at e0
  exact ⟨hW.i, e0, hW.l, b.cell 4, hW.r, (hW.b.cell _).trans g.1, (hW.b.cell _).trans g.2, b.cell 1, b.cell 2, b.cell 3⟩
 have kd := Keep.nobdrew (w.alloc (.cells #[.int .i64 s.ses, .int .i64 s.frame, .int .i64 s.lo, .int .i64 s.n, .slice s.A s.tos.length s.c] 230))
 have HS := aa sf
 have HH := aa (And.intro h1 ht1)
 have HK := aa k1
 have A8 := aa a8
 have hin2 : (i : Int) < n := by omega
 have hses := aa hi
 have hv : s.val = .agg #[.int .i64 i, .int .i64 s.frame, .int .i64 s.lo, .int .i64 s.n, .slice s.A s.tos.length s.c] := by unfold Sh.val; rw [hi]
 have HV := aa hv
 have n1 := none_is rc (some ⟨rr, 0, none⟩) n n i _ (sf _ kd).2.2.2.2.1 (by omega) hin2
 have n2 := list_is rc ic (some ⟨rr, 0, none⟩) n n _ (sf _ kd).2.2.2.2.1 (sf _ kd).1 s.A s.tos.length s.c s.tos (ht1.nob kd) (hn ▸ a8) a9
 have n3 := fun W => rhas_ok W ah f s a3 a4 a5 a6 a7 hf64
 rw [hv] at n3
 have s0 := sf _ kd
 have n0 : ¬ ((i : Int) < 0) := by omega
 have EV : (Sh.val s) = (Value.agg #[.int .i64 s.ses, .int .i64 s.frame, .int .i64 s.lo, .int .i64 s.n, .slice s.A s.tos.length s.c]) := rfl
 rw [EV]
 clear hv sf h h1 ht ht1 b1 k1 a8 hah hf hi EV a1 a2
 go_enter Tryz.func260, Tryz.ntmps260
 go_wp2_with fail
 go_region_held3 (fun w' => w'.cell? ⟨ic, 0, none⟩ = some (.func (.func 256) #[] #[.pointer (some ⟨rc, 0, none⟩)]) ∧ w'.cell? ⟨w.heap.size, 0, none⟩ = some (.int .i64 i) ∧ w'.cell? ⟨lc, 0, none⟩ = some (.func (.func 257) #[] #[.pointer (some ⟨ic, 0, none⟩)]) ∧ w'.cell? ⟨w.heap.size, 4, none⟩ = some (.slice s.A s.tos.length s.c) ∧ w'.cell? ⟨rc, 0, none⟩ = some (.slice (some ⟨rr, 0, none⟩) n n) ∧ w'.cell? ⟨rr, i * 2, none⟩ = some (.int .i64 ah) ∧ w'.cell? ⟨rr, i * 2 + 1, none⟩ = some (.int .i64 f) ∧ w'.cell? ⟨w.heap.size, 1, none⟩ = some (.int .i64 s.frame) ∧ w'.cell? ⟨w.heap.size, 2, none⟩ = some (.int .i64 s.lo) ∧ w'.cell? ⟨w.heap.size, 3, none⟩ = some (.int .i64 s.n))
  (first | exact s0 | exact HS.out _ (kd.trans k3 (fun _ _ f => f)))
  (first | (go_at_call 256; refine n1.mono ?_; rintro e w1 ⟨rfl, rfl⟩) | (go_at_call 257; refine n2.mono ?_; rintro e w2 ⟨rfl, rfl⟩) | (go_at_call 261; refine (n3 _).mono ?_; rintro e w3 ⟨rfl, k3⟩))
 have fin := HK.out.trans (kd.trans k3 (fun _ _ f => f)) (fun _ _ f => f)
 go_wp2
 go_ret
 exact ⟨rfl, fin⟩
end Go.Proofs.YtgcikpgcoemfnaaGreat
namespace Go.Proofs.YtgcikpgcoemfnaaGreat
open Go.RowKit
section
variable {w w' : World} {K K' : Kn}
theorem ans_blk {W : World} {g : Nat} {x y z : Value} (hb : Blk W g 85 [x, y, z]) (a b c : Value) : Blk (((W.setCell ⟨g, 0, none⟩ a).setCell ⟨g, 1, none⟩ b).setCell ⟨g, 2, none⟩ c) g 85 [a, b, c] := by
 have := ((hb.setCell 0 a).setCell 1 b).setCell 2 c
 simpa using this
theorem ans_keep (W : World) (g : Nat) (a b c : Value) : Keep (· = g) W (((W.setCell ⟨g, 0, none⟩ a).setCell ⟨g, 1, none⟩ b).setCell ⟨g, 2, none⟩ c) :=
 (((Keep.refl (fun b => b = g) W).setCell ⟨g, 0, none⟩ a (fun _ => rfl)).setCell ⟨g, 1, none⟩ b (fun _ => rfl)).setCell ⟨g, 2, none⟩ c (fun _ => rfl)
theorem To.ans {W : World} (t : To w K K' W) {g : Nat} {x y z : Value} (hb : Blk W g 85 [x, y, z]) (hg : w.heap.size ≤ g) (a b c : Value) : To w K K' (((W.setCell ⟨g, 0, none⟩ a).setCell ⟨g, 1, none⟩ b).setCell ⟨g, 2, none⟩ c) :=
 t.post hb (by decide) (by decide) hg (ans_keep W g a b c)
end
end Go.Proofs.YtgcikpgcoemfnaaGreat
