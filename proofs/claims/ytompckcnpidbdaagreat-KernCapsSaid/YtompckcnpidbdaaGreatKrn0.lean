/- A kernel (layer 8) as plain data, and what stays of it where something else turns. -/
import Derived.Test.YtompckcnpidbdaaGreatReg0
import Derived.Test.YtompckcnpidbdaaGreatQuoR
import Derived.Test.YtompckcnpidbdaaGreatSec4
import Derived.Test.YtompckcnpidbdaaGreatCaps2
import Derived.Test.YtompckcnpidbdaaGreatMem1
namespace Go.Proofs.YtompckcnpidbdaaGreat
open Go.RowKit
set_option linter.unusedVariables false
set_option linter.unusedSimpArgs false
/-- A Sect of a kernel, where it lies, and the sessions that may enter it. -/
structure Gt where
  p : Nat
  A : Option Addr
  cap : Nat
  s : Se.Sec
  mA : Option Addr
  mc : Nat
  may : List Int
def Gt.cells (G : Gt) : List Value := [.pointer (some ⟨G.p, 0, none⟩), .slice G.mA G.may.length G.mc]
/-- A kernel and where it lies. -/
structure Kn where
  k : Nat
  now : Int
  envs : List Int
  Ae : Option Addr
  ce : Nat
  gates : List Gt
  Ag : Option Addr
  cg : Nat
  pq : Nat
  Aq : Option Addr
  cq : Nat
  gq : Nat → Nat
  ns : List Nat
  bq : Nat → List Bool
  q : Nat
  m : Nat
  mr : Nat
  s : Nat
  B : Nat
  p : Nat → Nat
  r : Nat → Nat
  A : Option Addr
  cap : Nat
  xs : List UInt8
  T : St
  L : List Rf
/-- What its calls may turn. -/
def Turn (K : Kn) : Nat → Prop := fun b => b = K.k ∨ (∃ G ∈ K.gates, Se.SecB G.p G.A b) ∨ Qu.Rw K.ns.length K.gq b ∨ b = K.mr ∨ Rows_ K.envs.length K.r b
def Mine (K : Kn) : Nat → Prop := fun b => Turn K b ∨ Own K.Ae b ∨ ∃ G ∈ K.gates, Own G.mA b
def gcells (l : List Gt) : List Value := (l.map Gt.cells).flatten
structure IsKn (w : World) (K : Kn) : Prop where
  obj : Blk w K.k 80 [.int .i64 K.now, .slice K.Ae K.envs.length K.ce, .slice K.Ag K.gates.length K.cg, .pointer (some ⟨K.pq, 0, none⟩), .pointer (some ⟨K.s, 0, none⟩), .pointer (some ⟨K.q, 0, none⟩)]
  env : Vec w 3 1 K.Ae K.envs.length K.ce (ints K.envs)
  row : Vec w 85 2 K.Ag K.gates.length K.cg (gcells K.gates)
  sec : ∀ G ∈ K.gates, Se.IsSec w G.p G.A G.cap G.s ∧ G.s.Ok ∧ Vec w 3 1 G.mA G.may.length G.mc (ints G.may)
  quo : Qu.Quo w K.pq K.Aq K.cq K.gq K.ns K.bq
  reg : Reg w K.q K.m K.mr K.s K.B K.envs.length K.p K.r K.A K.cap K.xs K.T K.L
  few : K.gates.length ≤ 8
  lit : ∀ G ∈ K.gates, G.may.length ≤ 1000
  dp : ∀ (i j : Nat) G H, K.gates[i]? = some G → K.gates[j]? = some H → G.p = H.p → i = j
  dq : ∀ (i j : Nat) G H, K.gates[i]? = some G → K.gates[j]? = some H → i ≠ j → ∀ x, Own G.A x → ¬ Own H.A x
  de : ∀ G ∈ K.gates, ∀ x, Own G.A x → ¬ Own K.Ae x
  dm : ∀ G ∈ K.gates, ∀ H ∈ K.gates, ∀ x, Own G.A x → ¬ Own H.mA x
/-- Types of blocks that a kernel's calls never turn. -/
def Fix (t : TypeId) : Prop := t ∈ [85, 119, 122, 126, 128, 109, 106, 142, 149]
instance (t : TypeId) : Decidable (Fix t) := by unfold Fix; infer_instance
section
variable {w w' : World} {K : Kn} {M : Nat → Prop}
theorem offB {t : TypeId} {x : Nat} {u : TypeId} {cs : List Value} (hM : ∀ b, M b → ∃ cs, Blk w b t cs) (hb : Blk w x u cs) (hu : u ≠ t) : ¬ M x := fun m => by
  obtain ⟨c, hc⟩ := hM _ m
  exact hb.ne_ hc hu rfl
theorem offV {t : TypeId} {e sz n cap : Nat} {A : Option Addr} {xs : List Value} (hM : ∀ b, M b → ∃ cs, Blk w b t cs) (hv : Vec w e sz A n cap xs) (hu : e ≠ t) : ∀ g, Own A g → ¬ M g := fun g hg m => by
  obtain ⟨c, hc⟩ := hv.blk hg
  exact offB hM hc hu m
theorem fixB {x : Nat} {u : TypeId} {cs : List Value} (hM : ∀ b, M b → ∃ t cs, Blk w b t cs ∧ ¬ Fix t) (hb : Blk w x u cs) (hu : Fix u) : ¬ M x := fun m => by
  obtain ⟨t, c, hc, hn⟩ := hM _ m
  obtain ⟨_, rfl⟩ := hb.same hc
  exact hn hu
theorem fixV {e sz n cap : Nat} {A : Option Addr} {xs : List Value} (hM : ∀ b, M b → ∃ t cs, Blk w b t cs ∧ ¬ Fix t) (hv : Vec w e sz A n cap xs) (hu : Fix e) : ∀ g, Own A g → ¬ M g := fun g hg m => by
  obtain ⟨c, hc⟩ := hv.blk hg
  exact fixB hM hc hu m
theorem IsKn.keep (h : IsKn w K) (k : Keep M w w') (hM : ∀ b, M b → ∃ t cs, Blk w b t cs ∧ ¬ Fix t) (hd : ∀ b, Mine K b → ¬ M b) : IsKn w' K := by
  have hG : ∀ G ∈ K.gates, ∀ b, Se.SecB G.p G.A b → ¬ M b := fun G hG b hb => hd b (.inl (.inr (.inl ⟨G, hG, hb⟩)))
  refine ⟨h.obj.keep k (hd _ (.inl (.inl rfl))), h.env.keep k (fun g hg => hd g (.inr (.inl hg))), h.row.keep k (fixV hM h.row (by decide)), fun G hg => ⟨(h.sec G hg).1.keep k (hG G hg _ (.inl rfl)) (fun x hx => hG G hg x (.inr hx)), (h.sec G hg).2.1, (h.sec G hg).2.2.keep k (fun x hx => hd x (.inr (.inr ⟨G, hg, hx⟩)))⟩,
    h.quo.keep k (fixB hM h.quo.obj (by decide)) (fixV hM h.quo.row (by decide)) (fun i hi => hd _ (.inl (.inr (.inr (.inl ⟨i, hi, rfl⟩))))),
    h.reg.keep k (fixB hM h.reg.obj (by decide)) (fixB hM h.reg.mem.obj (by decide)) (hd _ (.inl (.inr (.inr (.inr (.inl rfl)))))) (fixB hM h.reg.sp.obj (by decide)) (fixB hM h.reg.sp.row (by decide)) (fun i hi => ⟨fixB hM (h.reg.sp.tab i hi).obj (by decide), hd _ (.inl (.inr (.inr (.inr (.inr ⟨i, hi, rfl⟩)))))⟩) (fixV hM h.reg.row (by decide)),
    h.few, h.lit, h.dp, h.dq, h.de, h.dm⟩
theorem IsKn.nob (h : IsKn w K) (k : Keep Nob w w') : IsKn w' K := h.keep k (fun _ f => f.elim) (fun _ _ f => f)
/-- What its calls may turn are blocks of these types. -/
theorem IsKn.turn (h : IsKn w K) : ∀ b, Turn K b → ∃ t cs, Blk w b t cs ∧ ¬ Fix t := by
  rintro b (rfl | ⟨G, hG, hb⟩ | ⟨i, hi, rfl⟩ | rfl | ⟨i, hi, rfl⟩)
  · exact ⟨_, _, h.obj, by decide⟩
  · rcases hb with rfl | hb
    · exact ⟨_, _, (h.sec G hG).1.obj, by decide⟩
    · obtain ⟨cur, hc⟩ := (h.sec G hG).1.row.blk hb
      exact ⟨_, _, hc, by decide⟩
  · exact ⟨_, _, h.quo.tab i hi, by decide⟩
  · exact ⟨_, _, h.reg.mem.row, by decide⟩
  · exact ⟨_, _, (h.reg.sp.tab i hi).row, by decide⟩
theorem IsKn.mine_lt (h : IsKn w K) : ∀ b, Mine K b → b < w.heap.size := by
  rintro b (hb | hb | ⟨G, hG, hb⟩)
  · obtain ⟨t, cs, hb, _⟩ := h.turn b hb
    exact hb.lt
  · exact h.env.lt b hb
  · exact (h.sec G hG).2.2.lt b hb
/-- What a call leaves. -/
structure To (w : World) (K K' : Kn) (w' : World) : Prop where
  is : IsKn w' K'
  keep : Keep (Turn K) w w'
  mine : ∀ b, Mine K' b → Mine K b ∨ w.heap.size ≤ b
theorem To.still (h : IsKn w K) (k : Keep Nob w w') : To w K K w' := ⟨h.nob k, k.mono (fun _ _ f => f.elim), fun _ hb => .inl hb⟩
/-- The bytes were turned. -/
theorem IsKn.bytes (h : IsKn w K) {ys : List UInt8} (hr : Reg w' K.q K.m K.mr K.s K.B K.envs.length K.p K.r K.A K.cap ys K.T K.L) (k : Keep (· = K.mr) w w') : To w K { K with xs := ys } w' := by
  have hM : ∀ b, b = K.mr → ∃ cs, Blk w b 5 cs := fun b e => e ▸ ⟨_, h.reg.mem.row⟩
  have ob : ∀ {x : Nat} {u : TypeId} {cs : List Value}, Blk w x u cs → u ≠ 5 → ¬ (fun b => b = K.mr) x := fun hb hu => offB (M := fun b => b = K.mr) hM hb hu
  have ov : ∀ {e sz n cap : Nat} {A : Option Addr} {xs : List Value}, Vec w e sz A n cap xs → e ≠ 5 → ∀ g, Own A g → ¬ (fun b => b = K.mr) g := fun hv hu => offV (M := fun b => b = K.mr) hM hv hu
  refine ⟨⟨h.obj.keep k (ob h.obj (by decide)), h.env.keep k (ov h.env (by decide)), h.row.keep k (ov h.row (by decide)), fun G hg => ⟨(h.sec G hg).1.keep k (ob (h.sec G hg).1.obj (by decide)) (ov (h.sec G hg).1.row (by decide)), (h.sec G hg).2.1, (h.sec G hg).2.2.keep k (ov (h.sec G hg).2.2 (by decide))⟩,
    h.quo.keep k (ob h.quo.obj (by decide)) (ov h.quo.row (by decide)) (fun i hi => ob (h.quo.tab i hi) (by decide)), hr, h.few, h.lit, h.dp, h.dq, h.de, h.dm⟩, k.mono (fun b _ e => .inr (.inr (.inr (.inl e)))), fun b hb => .inl hb⟩
/-- The Space was turned. -/
theorem IsKn.space (h : IsKn w K) {T' : St} (hs : IsSp w' K.s K.B K.envs.length K.p K.r T') (I : Inv T' K.envs.length) (k : Keep (Rows_ K.envs.length K.r) w w') : To w K { K with T := T' } w' := by
  have hM : ∀ b, Rows_ K.envs.length K.r b → ∃ cs, Blk w b 144 cs := fun b ⟨i, hi, e⟩ => e ▸ ⟨_, (h.reg.sp.tab i hi).row⟩
  have ob : ∀ {x : Nat} {u : TypeId} {cs : List Value}, Blk w x u cs → u ≠ 144 → ¬ (Rows_ K.envs.length K.r) x := fun hb hu => offB (M := Rows_ K.envs.length K.r) hM hb hu
  have ov : ∀ {e sz n cap : Nat} {A : Option Addr} {xs : List Value}, Vec w e sz A n cap xs → e ≠ 144 → ∀ g, Own A g → ¬ (Rows_ K.envs.length K.r) g := fun hv hu => offV (M := Rows_ K.envs.length K.r) hM hv hu
  refine ⟨⟨h.obj.keep k (ob h.obj (by decide)), h.env.keep k (ov h.env (by decide)), h.row.keep k (ov h.row (by decide)), fun G hg => ⟨(h.sec G hg).1.keep k (ob (h.sec G hg).1.obj (by decide)) (ov (h.sec G hg).1.row (by decide)), (h.sec G hg).2.1, (h.sec G hg).2.2.keep k (ov (h.sec G hg).2.2 (by decide))⟩,
    h.quo.keep k (ob h.quo.obj (by decide)) (ov h.quo.row (by decide)) (fun i hi => ob (h.quo.tab i hi) (by decide)), h.reg.space hs I k, h.few, h.lit, h.dp, h.dq, h.de, h.dm⟩, k.mono (fun b _ e => .inr (.inr (.inr (.inr e)))), fun b hb => .inl hb⟩
/-- The frames were turned. -/
theorem IsKn.frames (h : IsKn w K) {b' : Nat → List Bool} (hq : Qu.Quo w' K.pq K.Aq K.cq K.gq K.ns b') (k : Keep (Qu.Rw K.ns.length K.gq) w w') : To w K { K with bq := b' } w' := by
  have hM : ∀ b, Qu.Rw K.ns.length K.gq b → ∃ cs, Blk w b 4 cs := fun b ⟨i, hi, e⟩ => e ▸ ⟨_, h.quo.tab i hi⟩
  have ob : ∀ {x : Nat} {u : TypeId} {cs : List Value}, Blk w x u cs → u ≠ 4 → ¬ (Qu.Rw K.ns.length K.gq) x := fun hb hu => offB (M := Qu.Rw K.ns.length K.gq) hM hb hu
  have ov : ∀ {e sz n cap : Nat} {A : Option Addr} {xs : List Value}, Vec w e sz A n cap xs → e ≠ 4 → ∀ g, Own A g → ¬ (Qu.Rw K.ns.length K.gq) g := fun hv hu => offV (M := Qu.Rw K.ns.length K.gq) hM hv hu
  refine ⟨⟨h.obj.keep k (ob h.obj (by decide)), h.env.keep k (ov h.env (by decide)), h.row.keep k (ov h.row (by decide)), fun G hg => ⟨(h.sec G hg).1.keep k (ob (h.sec G hg).1.obj (by decide)) (ov (h.sec G hg).1.row (by decide)), (h.sec G hg).2.1, (h.sec G hg).2.2.keep k (ov (h.sec G hg).2.2 (by decide))⟩,
    hq, h.reg.keep k (ob h.reg.obj (by decide)) (ob h.reg.mem.obj (by decide)) (ob h.reg.mem.row (by decide)) (ob h.reg.sp.obj (by decide)) (ob h.reg.sp.row (by decide)) (fun i hi => ⟨ob (h.reg.sp.tab i hi).obj (by decide), ob (h.reg.sp.tab i hi).row (by decide)⟩) (ov h.reg.row (by decide)),
    h.few, h.lit, h.dp, h.dq, h.de, h.dm⟩, k.mono (fun b _ e => .inr (.inr (.inl e))), fun b hb => .inl hb⟩
/-- The clock was turned. -/
theorem IsKn.clock (h : IsKn w K) {t : Int} (ho : Blk w' K.k 80 [.int .i64 t, .slice K.Ae K.envs.length K.ce, .slice K.Ag K.gates.length K.cg, .pointer (some ⟨K.pq, 0, none⟩), .pointer (some ⟨K.s, 0, none⟩), .pointer (some ⟨K.q, 0, none⟩)]) (k : Keep (· = K.k) w w') : To w K { K with now := t } w' := by
  have hM : ∀ b, b = K.k → ∃ cs, Blk w b 80 cs := fun b e => e ▸ ⟨_, h.obj⟩
  have ob : ∀ {x : Nat} {u : TypeId} {cs : List Value}, Blk w x u cs → u ≠ 80 → ¬ (fun b => b = K.k) x := fun hb hu => offB (M := fun b => b = K.k) hM hb hu
  have ov : ∀ {e sz n cap : Nat} {A : Option Addr} {xs : List Value}, Vec w e sz A n cap xs → e ≠ 80 → ∀ g, Own A g → ¬ (fun b => b = K.k) g := fun hv hu => offV (M := fun b => b = K.k) hM hv hu
  refine ⟨⟨ho, h.env.keep k (ov h.env (by decide)), h.row.keep k (ov h.row (by decide)), fun G hg => ⟨(h.sec G hg).1.keep k (ob (h.sec G hg).1.obj (by decide)) (ov (h.sec G hg).1.row (by decide)), (h.sec G hg).2.1, (h.sec G hg).2.2.keep k (ov (h.sec G hg).2.2 (by decide))⟩,
    h.quo.keep k (ob h.quo.obj (by decide)) (ov h.quo.row (by decide)) (fun i hi => ob (h.quo.tab i hi) (by decide)),
    h.reg.keep k (ob h.reg.obj (by decide)) (ob h.reg.mem.obj (by decide)) (ob h.reg.mem.row (by decide)) (ob h.reg.sp.obj (by decide)) (ob h.reg.sp.row (by decide)) (fun i hi => ⟨ob (h.reg.sp.tab i hi).obj (by decide), ob (h.reg.sp.tab i hi).row (by decide)⟩) (ov h.reg.row (by decide)),
    h.few, h.lit, h.dp, h.dq, h.de, h.dm⟩, k.mono (fun b _ e => .inl e), fun b hb => .inl hb⟩
theorem set_get {α : Type} {l : List α} {i j : Nat} {x y : α} (h : (l.set i x)[j]? = some y) (hi : i < l.length) : (j = i ∧ y = x) ∨ (j ≠ i ∧ l[j]? = some y) := by
  by_cases e : i = j
  · subst e
    rw [List.getElem?_set_self hi] at h
    exact .inl ⟨rfl, (Option.some.inj h).symm⟩
  · rw [List.getElem?_set_ne e] at h
    exact .inr ⟨fun e' => e e'.symm, h⟩
/-- One Sect was turned. -/
theorem IsKn.gate (h : IsKn w K) {i : Nat} {G : Gt} (hi : K.gates[i]? = some G) {A' : Option Addr} {c' : Nat} {s' : Se.Sec} (hs : Se.IsSec w' G.p A' c' s') (O : s'.Ok) (k : Keep (Se.SecB G.p G.A) w w') (ho : ∀ x, Own A' x → Own G.A x ∨ w.heap.size ≤ x) :
    To w K { K with gates := K.gates.set i { G with A := A', cap := c', s := s' } } w' := by
  have hG := List.mem_of_getElem? hi
  have hil := get_lt hi
  have hsec := h.sec G hG
  have hB : ∀ {x u cs}, Blk w x u cs → u ≠ 104 → u ≠ 3 → ¬ Se.SecB G.p G.A x := fun hb h1 h2 m => by
    rcases m with rfl | m
    · exact hb.ne_ hsec.1.obj h1 rfl
    · obtain ⟨cur, hc⟩ := hsec.1.row.blk m
      exact hb.ne_ hc h2 rfl
  have hV : ∀ {e sz n cap A xs}, Vec w e sz A n cap xs → e ≠ 104 → e ≠ 3 → ∀ g, Own A g → ¬ Se.SecB G.p G.A g := fun hv h1 h2 g hg => by
    obtain ⟨c, hc⟩ := hv.blk hg
    exact hB hc h1 h2
  have hI : ∀ {sz n cap A xs}, Vec w 3 sz A n cap xs → (∀ x, Own G.A x → ¬ Own A x) → ∀ g, Own A g → ¬ Se.SecB G.p G.A g := fun hv hd g hg m => by
    obtain ⟨c, hc⟩ := hv.blk hg
    rcases m with rfl | m
    · exact hc.ne_ hsec.1.obj (by decide) rfl
    · exact hd g m hg
  have hmay : ∀ H ∈ K.gates, Vec w' 3 1 H.mA H.may.length H.mc (ints H.may) := fun H hH => (h.sec H hH).2.2.keep k (hI (h.sec H hH).2.2 (fun x hx => h.dm G hG H hH x hx))
  have cells : gcells (K.gates.set i { G with A := A', cap := c', s := s' }) = gcells K.gates := by
    unfold gcells
    congr 1
    rw [List.map_set]
    apply List.ext_getElem?
    intro j
    by_cases e : i = j
    · subst e
      rw [List.getElem?_set_self (by simpa using hil), List.getElem?_map, hi]
      rfl
    · rw [List.getElem?_set_ne e]
  have memset : ∀ H ∈ K.gates.set i { G with A := A', cap := c', s := s' }, H = { G with A := A', cap := c', s := s' } ∨ ∃ j, j ≠ i ∧ K.gates[j]? = some H := fun H hH => by
    obtain ⟨j, hj⟩ := List.getElem?_of_mem hH
    rcases set_get hj hil with ⟨_, e⟩ | ⟨e, hj⟩
    · exact .inl e
    · exact .inr ⟨j, e, hj⟩
  have lt' : ∀ {H : Gt}, H ∈ K.gates → ∀ x, Own H.A x → x < w.heap.size := fun hH x hx => (h.sec _ hH).1.row.lt x hx
  refine ⟨⟨?_, h.env.keep k (hI h.env (h.de G hG)), ?_, fun H hH => ?_, h.quo.keep k (hB h.quo.obj (by decide) (by decide)) (hV h.quo.row (by decide) (by decide)) (fun i hi => hB (h.quo.tab i hi) (by decide) (by decide)),
    h.reg.keep k (hB h.reg.obj (by decide) (by decide)) (hB h.reg.mem.obj (by decide) (by decide)) (hB h.reg.mem.row (by decide) (by decide)) (hB h.reg.sp.obj (by decide) (by decide)) (hB h.reg.sp.row (by decide) (by decide)) (fun i hi => ⟨hB (h.reg.sp.tab i hi).obj (by decide) (by decide), hB (h.reg.sp.tab i hi).row (by decide) (by decide)⟩) (hV h.reg.row (by decide) (by decide)),
    by simpa using h.few, fun H hH => ?_, fun a b X Y hX hY e => ?_, fun a b X Y hX hY hn x hx hy => ?_, fun H hH x hx he => ?_, fun H hH J hJ x hx hy => ?_⟩, k.mono (fun b _ e => .inr (.inl ⟨G, hG, e⟩)), fun b hb => ?_⟩
  · have := h.obj.keep k (hB h.obj (by decide) (by decide))
    simpa using this
  · have := h.row.keep k (hV h.row (by decide) (by decide))
    dsimp only
    rw [cells, List.length_set]
    exact this
  · rcases memset H hH with rfl | ⟨j, hj, hH'⟩
    · exact ⟨hs, O, hmay G hG⟩
    · have hm := List.mem_of_getElem? hH'
      refine ⟨(h.sec H hm).1.keep k (fun m => ?_) (fun x hx m => ?_), (h.sec H hm).2.1, hmay H hm⟩
      · rcases m with m | m
        · exact hj (h.dp j i H G hH' hi m)
        · obtain ⟨cur, hc⟩ := hsec.1.row.blk m
          exact (h.sec H hm).1.obj.ne_ hc (by decide) rfl
      · obtain ⟨cur, hc⟩ := (h.sec H hm).1.row.blk hx
        rcases m with rfl | m
        · exact hc.ne_ hsec.1.obj (by decide) rfl
        · exact h.dq j i H G hH' hi hj x hx m
  · rcases memset H hH with rfl | ⟨j, hj, hH'⟩
    · exact h.lit G hG
    · exact h.lit H (List.mem_of_getElem? hH')
  · rcases set_get hX hil with ⟨ea, rfl⟩ | ⟨ea, hX⟩ <;> rcases set_get hY hil with ⟨eb, rfl⟩ | ⟨eb, hY⟩
    · rw [ea, eb]
    · exact ea.trans (h.dp i b G Y hi hY e)
    · exact (h.dp a i X G hX hi e).trans eb.symm
    · exact h.dp a b X Y hX hY e
  · rcases set_get hX hil with ⟨ea, rfl⟩ | ⟨ea, hX⟩ <;> rcases set_get hY hil with ⟨eb, rfl⟩ | ⟨eb, hY⟩
    · exact hn (ea.trans eb.symm)
    · rcases ho x hx with hx | hx
      · exact h.dq i b G Y hi hY (fun e => eb e.symm) x hx hy
      · have := lt' (List.mem_of_getElem? hY) x hy; omega
    · rcases ho x hy with hy | hy
      · exact h.dq a i X G hX hi ea x hx hy
      · have := lt' (List.mem_of_getElem? hX) x hx; omega
    · exact h.dq a b X Y hX hY hn x hx hy
  · rcases memset H hH with rfl | ⟨j, hj, hH'⟩
    · rcases ho x hx with hx | hx
      · exact h.de G hG x hx he
      · have := h.env.lt x he; omega
    · exact h.de H (List.mem_of_getElem? hH') x hx he
  · have hJ' : ∃ J' ∈ K.gates, Own J'.mA x := by
      rcases memset J hJ with rfl | ⟨j, hj, hJ'⟩
      · exact ⟨G, hG, hy⟩
      · exact ⟨J, List.mem_of_getElem? hJ', hy⟩
    obtain ⟨J', hJ', hy⟩ := hJ'
    rcases memset H hH with rfl | ⟨j, hj, hH'⟩
    · rcases ho x hx with hx | hx
      · exact h.dm G hG J' hJ' x hx hy
      · have := (h.sec J' hJ').2.2.lt x hy; omega
    · exact h.dm H (List.mem_of_getElem? hH') J' hJ' x hx hy
  · rcases hb with (hb | ⟨H, hH, hb⟩ | hb) | hb | ⟨H, hH, hb⟩
    · exact .inl (.inl (.inl hb))
    · rcases memset H hH with rfl | ⟨j, hj, hH'⟩
      · rcases hb with hb | hb
        · exact .inl (.inl (.inr (.inl ⟨G, hG, .inl hb⟩)))
        · rcases ho b hb with hb | hb
          · exact .inl (.inl (.inr (.inl ⟨G, hG, .inr hb⟩)))
          · exact .inr hb
      · exact .inl (.inl (.inr (.inl ⟨H, List.mem_of_getElem? hH', hb⟩)))
    · exact .inl (.inl (.inr (.inr hb)))
    · exact .inl (.inr (.inl hb))
    · rcases memset H hH with rfl | ⟨j, hj, hH'⟩
      · exact .inl (.inr (.inr ⟨G, hG, hb⟩))
      · exact .inl (.inr (.inr ⟨H, List.mem_of_getElem? hH', hb⟩))
end
/-- A kernel that a call has made. -/
structure Kn0 (w0 w : World) (K : Kn) : Prop where
  is : IsKn w K
  lo : ∀ b, Mine K b → w0.heap.size ≤ b
  keep : Keep (From w0.heap.size) w0 w
section
variable {w0 w w' : World} {K K' : Kn}
theorem Kn0.nob (h : Kn0 w0 w K) (k : Keep Nob w w') : Kn0 w0 w' K := ⟨h.is.nob k, h.lo, h.keep.nob k⟩
theorem Kn0.to (h : Kn0 w0 w K) (t : To w K K' w') : Kn0 w0 w' K' := ⟨t.is, fun b hb => by
    rcases t.mine b hb with m | m
    · exact h.lo b m
    · have := h.keep.size; omega, h.keep.from_ t.keep (fun b m => h.lo b (.inl m))⟩
end
end Go.Proofs.YtompckcnpidbdaaGreat
