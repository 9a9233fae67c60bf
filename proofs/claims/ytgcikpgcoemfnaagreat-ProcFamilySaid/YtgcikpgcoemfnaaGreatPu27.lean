/- Texts Dk9, Pl2, CoN, RcA, Aud0, Prc0, StF, Prc4, Prc5, Prc6, packed. -/
import Derived.BigRegion
import Derived.Deep.RegionHeld3
import Derived.ProofKit
import Derived.SizedLaws
import Derived.ChangeArms
import Derived.Test.YtgcikpgcoemfnaaGreatPu0
import Derived.Test.YtgcikpgcoemfnaaGreatPu7
import Derived.Test.YtgcikpgcoemfnaaGreatPu11
import Derived.Test.YtgcikpgcoemfnaaGreatPu12
import Derived.Test.YtgcikpgcoemfnaaGreatPu14
import Derived.Test.YtgcikpgcoemfnaaGreatPu13
import Derived.Test.YtgcikpgcoemfnaaGreatPu15
import Derived.Test.YtgcikpgcoemfnaaGreatPu16
import Derived.Test.YtgcikpgcoemfnaaGreatPu1
import Derived.Test.YtgcikpgcoemfnaaGreatPu18
import Derived.Test.YtgcikpgcoemfnaaGreatPu21
import Derived.Test.YtgcikpgcoemfnaaGreatPu24
import Derived.Test.YtgcikpgcoemfnaaGreatPu2
import Derived.Test.YtgcikpgcoemfnaaGreatPu25
import Derived.Test.YtgcikpgcoemfnaaGreatPu26
import Derived.Test.YtgcikpgcoemfnaaGreatPu4
import Derived.Test.YtgcikpgcoemfnaaGreatPu23
import Derived.Test.YtgcikpgcoemfnaaGreatPu19
import Derived.Test.YtgcikpgcoemfnaaGreatPu22
import Derived.Test.YtgcikpgcoemfnaaGreatPu5
import Derived.Test.YtgcikpgcoemfnaaGreatPu8
import Derived.Test.YtgcikpgcoemfnaaGreatPu20
import Derived.Test.YtgcikpgcoemfnaaGreatPu9
import Derived.Test.YtgcikpgcoemfnaaGreatPu10
import Derived.Test.YtgcikpgcoemfnaaGreatPu3
namespace Go.Proofs.YtgcikpgcoemfnaaGreat.Dk
open Go.RowKit
set_option linter.unusedVariables false
set_option linter.unusedSimpArgs false
section
variable {w w' : World} {S : Ds} {b : Bt} {k pq : Nat} {R : Dr} {Ag : Option Addr} {ng cg : Nat}
/-- The names that an environment has. -/
def nms (T : St) (e : Nat) : List Int := names ((T e).map nq) ((T e).map nq).length
theorem sall_is (h : IsDs w S) (e : Nat) (he : e < S.n) :
    Calls Tryz.prog 170 #[.pointer (some ⟨S.s, 0, none⟩), .int .i64 e] w fun e' w' => ∃ B c, e' = .returned (.slice B (nms S.T e).length c) ∧ Vec w' 3 1 B (nms S.T e).length c (ints (nms S.T e)) ∧ Keep Nob w w' ∧ ∀ g, Own B g → w.heap.size ≤ g := by
  have henv := env_is h e true (by simp [he])
  have hall := Ref.all_new (h.nm e he)
  have hall := hall
  rw [show names ((S.T e).map nq) ((S.T e).map nq).length = nms S.T e from rfl] at hall
  generalize nms S.T e = l at *
  obtain ⟨g, hg, pg⟩ := mk_at h.nrow he
  have c0 : w.cell? ⟨S.s, 0, none⟩ = some (.slice S.AN S.n S.cN) := h.obj.cell 0
  rw [hg] at c0
  have he2 : (e : Int) < S.n := by omega
  clear h hg
  go_enter Tryz.func170, Tryz.ntmps170
  go_wp2_with fail
  refine henv.mono ?_; rintro e' w1 ⟨rfl, rfl⟩
  go_wp2_with fail
  refine hall.mono ?_; rintro e' w2 ⟨B, c, rfl, hv, hk, ho⟩
  clear henv hall pg c0
  go_wp2
  go_ret
  exact ⟨B, c, rfl, hv, hk, ho⟩
theorem rcom_new (h : IsKd w b k pq R Ag ng cg) (e : Nat) (he : e < R.S.n) (hn : nms R.S.T e ≠ []) :
    Calls Tryz.prog 78 #[.pointer (some ⟨k, 0, none⟩), .int .i64 e] w fun e' w' => ∃ g B c, e' = .returned (.pointer (some ⟨g, 0, none⟩)) ∧ Blk w' g 259 [.pointer (some ⟨k, 0, none⟩), .int .i64 e, .slice B (nms R.S.T e).length c, .slice none 0 0] ∧ Vec w' 3 1 B (nms R.S.T e).length c (ints (nms R.S.T e)) ∧ w.heap.size ≤ g ∧ Keep Nob w w' ∧ ∀ x, Own B x → w.heap.size ≤ x := by
  have hall := sall_is h.reg.sp e he
  have c6 : w.cell? ⟨k, 6, none⟩ = some (.pointer (some ⟨R.r, 0, none⟩)) := h.obj.cell 6
  have c3 : w.cell? ⟨R.r, 3, none⟩ = some (.pointer (some ⟨R.S.s, 0, none⟩)) := h.reg.obj.cell 3
  generalize nms R.S.T e = l at *
  have hl : ¬ (l.length : Int) = 0 := by
    have : l.length ≠ 0 := fun e => hn (List.eq_nil_of_length_eq_zero e)
    omega
  clear h hn
  go_enter Tryz.func78, Tryz.ntmps78
  go_wp2_with fail
  refine hall.mono ?_; rintro e' w1 ⟨B, c, rfl, hv, hk, ho⟩
  have hb := Blk.new w1 259 [.pointer (some ⟨k, 0, none⟩), .int .i64 e, .slice B l.length c, .slice none 0 0]
  have ka := (Keep.refl Nob w1).alloc (.cells #[.pointer (some ⟨k, 0, none⟩), .int .i64 e, .slice B l.length c, .slice none 0 0] 259)
  have F := Lib.hid (And.intro hb (And.intro (hv.nob ka) (And.intro hk.size (And.intro (hk.nobt ka) ho))))
  clear hall hv hk hb ka ho c6 c3
  go_wp2
  go_ret
  exact ⟨_, B, c, rfl, F.out⟩
end
end Go.Proofs.YtgcikpgcoemfnaaGreat.Dk
namespace Go.Proofs.YtgcikpgcoemfnaaGreat.Pn
open Go.RowKit
set_option linter.unusedVariables false
set_option linter.unusedSimpArgs false
open Co (Src Link Cm Kc Ct)
def brs2 : List Rf := [(0, 1), (1, 0)]
theorem keys4 : mk 2 key1 ++ mk brs2.length (key2 brs2) = [(0, 0, 0, 492, [0]), (1, 0, 0, 492, [1]), (0, 8, 0, 40, [0, 1]), (1, 9, 0, 40, [1, 0])] := by decide
section
variable {b : Bt}
theorem shared4 (h : BootOf 2 brs2 5 b) : ∃ s0 s1 s2 s3, b.shared = [s0, s1, s2, s3] ∧ key s0 = (0, 0, 0, 492, [0]) ∧ key s1 = (1, 0, 0, 492, [1]) ∧ key s2 = (0, 8, 0, 40, [0, 1]) ∧ key s3 = (1, 9, 0, 40, [1, 0]) := by
  have hk := h.shared
  rw [keys4] at hk
  have hl := congrArg List.length hk
  simp only [List.length_map, List.length_cons, List.length_nil] at hl
  match hb : b.shared, hl with
  | [s0, s1, s2, s3], _ =>
    rw [hb] at hk
    simp only [List.map_cons, List.map_nil, List.cons.injEq, and_true] at hk
    exact ⟨s0, s1, s2, s3, rfl, hk.1, hk.2.1, hk.2.2.1, hk.2.2.2⟩
theorem key_eq {s : Sh} {a f l n : Int} {t : List Int} (h : key s = (a, f, l, n, t)) : s.ses = a ∧ s.frame = f ∧ s.lo = l ∧ s.n = n ∧ s.tos = t := by
  unfold key at h
  simp only [Prod.mk.injEq] at h
  exact h
theorem boot_ok (h : BootOf 2 brs2 5 b) : BtOk b [20, 20] := by
  have hs : b.sects.map (·.xs) = [[0], [1]] := h.sects
  have hf : b.frames = [20, 20] := h.frames
  obtain ⟨s0, s1, s2, s3, hsh, k0, k1, k2, k3⟩ := shared4 h
  obtain ⟨a0, a1, a2, a3, a4⟩ := key_eq k0
  obtain ⟨b0, b1, b2, b3, b4⟩ := key_eq k1
  obtain ⟨c0, c1, c2, c3, c4⟩ := key_eq k2
  obtain ⟨d0, d1, d2, d3, d4⟩ := key_eq k3
  have hsl : b.sects.length = 2 := by
    have := congrArg List.length hs
    simpa using this
  refine ⟨by rw [hf]; rfl, by rw [hf]; decide, by rw [hf]; decide, by rw [h.envs]; simp, by omega, by rw [hsh]; simp, by rw [h.lease]; decide, by rw [h.lease]; decide, fun x hx => ?_, fun s hs' => ?_, fun s hs' => ?_⟩
  · rw [h.envs] at hx
    rw [hf]
    obtain ⟨i, hi, rfl⟩ := List.mem_map.1 hx
    have := List.mem_range.1 hi
    simp only [List.length_cons, List.length_nil]
    omega
  · have : s.xs ∈ b.sects.map (·.xs) := List.mem_map.2 ⟨s, hs', rfl⟩
    rw [hs] at this
    rw [hf]
    rcases List.mem_cons.1 this with e | this
    · rw [e]; exact ⟨fun x hx => by simp at hx; subst hx; decide, by decide⟩
    · rcases List.mem_cons.1 this with e | this
      · rw [e]; exact ⟨fun x hx => by simp at hx; subst hx; decide, by decide⟩
      · cases this
  · rw [hsh] at hs'
    have hin1 : InR 2 [0] := fun x hx => by simp at hx; subst hx; decide
    have hin2 : InR 2 [1] := fun x hx => by simp at hx; subst hx; decide
    have hin3 : InR 2 [0, 1] := fun x hx => by simp at hx; omega
    have hin4 : InR 2 [1, 0] := fun x hx => by simp at hx; omega
    rcases List.mem_cons.1 hs' with rfl | hs'
    · unfold ShOk; rw [a0, a1, a2, a3, a4]; exact ⟨by decide, by decide, by decide, by decide, by decide, by decide, by decide, hin1, by decide⟩
    · rcases List.mem_cons.1 hs' with rfl | hs'
      · unfold ShOk; rw [b0, b1, b2, b3, b4]; exact ⟨by decide, by decide, by decide, by decide, by decide, by decide, by decide, hin2, by decide⟩
      · rcases List.mem_cons.1 hs' with rfl | hs'
        · unfold ShOk; rw [c0, c1, c2, c3, c4]; exact ⟨by decide, by decide, by decide, by decide, by decide, by decide, by decide, hin3, by decide⟩
        · rcases List.mem_cons.1 hs' with rfl | hs'
          · unfold ShOk; rw [d0, d1, d2, d3, d4]; exact ⟨by decide, by decide, by decide, by decide, by decide, by decide, by decide, hin4, by decide⟩
          · cases hs'
/-- The Caps of an environment of session s. -/
def caps2 (s : Nat) : List Cp := [⟨s, 3, 0, 492, (0, 0)⟩, ⟨2, 3, 0, 40, (0, 0)⟩, ⟨3, 3, 0, 40, (0, 0)⟩]
def spans2 : List Rf := [(0, 492), (1280, 492), (512, 40), (1856, 40)]
theorem cs_two (h : BootOf 2 brs2 5 b) (e : Nat) (he : e < 18) : csAt b.envs b.shared b.shared.length e = caps2 (e / 9) := by
  obtain ⟨s0, s1, s2, s3, hsh, k0, k1, k2, k3⟩ := shared4 h
  obtain ⟨a0, a1, a2, a3, a4⟩ := key_eq k0
  obtain ⟨b0, b1, b2, b3, b4⟩ := key_eq k1
  obtain ⟨c0, c1, c2, c3, c4⟩ := key_eq k2
  obtain ⟨d0, d1, d2, d3, d4⟩ := key_eq k3
  have hen : b.envs.getD e 0 = ((e / 9 : Nat) : Int) := by
    rw [h.envs, List.getD_eq_getElem?_getD, mk_get (by omega)]
    rfl
  rw [csAt_caps (by rw [h.envs]; simpa using he) _ (Nat.le_refl _), List.take_length, hen, hsh]
  have h2 : e / 9 = 0 ∨ e / 9 = 1 := by omega
  rcases h2 with h2 | h2 <;> rw [h2] <;> simp [capsOf, caps2, a3, a4, b3, b4, c3, c4, d3, d4]
theorem spans_two (h : BootOf 2 brs2 5 b) : b.shared.map (spanOf [20, 20]) = spans2 := by
  obtain ⟨s0, s1, s2, s3, hsh, k0, k1, k2, k3⟩ := shared4 h
  obtain ⟨a0, a1, a2, a3, a4⟩ := key_eq k0
  obtain ⟨b0, b1, b2, b3, b4⟩ := key_eq k1
  obtain ⟨c0, c1, c2, c3, c4⟩ := key_eq k2
  obtain ⟨d0, d1, d2, d3, d4⟩ := key_eq k3
  rw [hsh]
  simp [spanOf, spans2, Qu.first, a0, a1, a2, a3, b0, b1, b2, b3, c0, c1, c2, c3, d0, d1, d2, d3]
end
/-- The rights that environments of the plan have at the beginning. -/
structure G2 (T : St) (n : Nat) (L : List Rf) : Prop where
  n18 : n = 18
  cs : ∃ cs : Nat → List Cp, T = tOf cs ∧ ∀ e, e < 18 → cs e = caps2 (e / 9)
  spans : L = spans2
/-- Where the bytes of an environment's Caps begin. -/
def base2 (s j : Nat) : Nat := match j with
  | 0 => 1280 * s
  | 1 => 512
  | _ => 1856
def src2 (s : Nat) : Src := fun j _ _ => some (base2 s j)
section
variable {T : St} {n : Nat} {L : List Rf}
theorem G2.of {b : Bt} (h : BootOf 2 brs2 5 b) (hn : n = b.envs.length) (hT : T = tOf (csAt b.envs b.shared b.shared.length)) (hL : L = b.shared.map (spanOf [20, 20])) : G2 T n L :=
  ⟨by rw [hn, h.envs]; simp, ⟨_, hT, cs_two h⟩, by rw [hL, spans_two h]⟩
theorem G2.has (h : G2 T n L) {e j : Nat} (he : e < 18) (hj : j < 3) : ∃ c, (caps2 (e / 9))[j]? = some c ∧ Has T n ((e : Int), (j : Int) + 256) c := by
  obtain ⟨cs, hT, hc⟩ := h.cs
  have h32 : ∀ e, e < n → (cs e).length ≤ 32 := fun e he => by rw [hc e (by have := h.n18; omega)]; simp [caps2]
  obtain ⟨c, hcj⟩ : ∃ c, (caps2 (e / 9))[j]? = some c := ⟨_, List.getElem?_eq_getElem (by simpa [caps2] using hj)⟩
  refine ⟨c, hcj, ?_⟩
  rw [hT]
  exact (row_has h32 _ _).2 ⟨e, j, by rw [h.n18]; exact he, rfl, by rw [hc e he]; exact hcj⟩
theorem G2.reach (h : G2 T n L) {e j : Nat} (he : e < 18) (hj : j < 3) {right : Int} (hr : right = 1 ∨ right = 2) {at_ k : Nat} (hin : at_ + k ≤ if j = 0 then 492 else 40) : Reach T n L e ((j : Int) + 256) right at_ k ((base2 (e / 9) j + at_ : Nat) : Int) 0 := by
  obtain ⟨c, hc, hh⟩ := h.has he hj
  have hs : e / 9 = 0 ∨ e / 9 = 1 := by omega
  have hb : ∀ x : Int, x = 3 → (bits .and .i64 x right == 0) = false := fun x hx => by subst hx; rcases hr with rfl | rfl <;> decide
  rw [h.spans]
  rcases (show j = 0 ∨ j = 1 ∨ j = 2 by omega) with rfl | rfl | rfl
  · simp only [if_true] at hin
    simp only [caps2, List.getElem?_cons_zero, Option.some.injEq] at hc
    subst hc
    rcases hs with e0 | e0 <;> rw [e0] at hh ⊢
    · exact Reach.yes _ (0, 492) _ hh (hb _ rfl) ⟨by omega, by omega, by dsimp only; omega, by dsimp only; omega, rfl, by dsimp only; omega⟩ (by simp only [base2]; omega)
    · exact Reach.yes _ (1280, 492) _ hh (hb _ rfl) ⟨by omega, by omega, by dsimp only; omega, by dsimp only; omega, rfl, by dsimp only; omega⟩ (by simp only [base2]; omega)
  · rw [if_neg (by decide)] at hin
    simp only [caps2, List.getElem?_cons_zero, List.getElem?_cons_succ, Option.some.injEq] at hc
    subst hc
    exact Reach.yes _ (512, 40) _ hh (hb _ rfl) ⟨by omega, by omega, by dsimp only; omega, by dsimp only; omega, rfl, by dsimp only; omega⟩ (by simp only [base2]; omega)
  · rw [if_neg (by decide)] at hin
    simp only [caps2, List.getElem?_cons_zero, List.getElem?_cons_succ, Option.some.injEq] at hc
    subst hc
    exact Reach.yes _ (1856, 40) _ hh (hb _ rfl) ⟨by omega, by omega, by dsimp only; omega, by dsimp only; omega, rfl, by dsimp only; omega⟩ (by simp only [base2]; omega)
theorem G2.row (h : G2 T n L) {e : Nat} (he : e < 18) : T e = rowQ (caps2 (e / 9)) := by
  obtain ⟨cs, hT, hc⟩ := h.cs
  rw [hT]
  show rowQ (cs e) = _
  rw [hc e he]
theorem G2.names (h : G2 T n L) {e : Nat} (he : e < 18) : names ((T e).map Q.pl) (T e).length = 256 :: [257, 258] := by
  rw [h.row he, names_pl _ (by simp [caps2])]
  rfl
theorem G2.nms (h : G2 T n L) {e : Nat} (he : e < 18) : Dk.nms T e = [256, 257, 258] := by
  unfold Dk.nms
  rw [h.row he, List.length_map, names_nq _ (by simp [caps2])]
  rfl
end
theorem G2.link {K : Kn} {C : Cm} (h : G2 K.T K.envs.length K.L) (he : C.env < 18) (hn : C.name = 256) (hb : C.brs = [257, 258]) : Link K C (src2 (C.env / 9)) := by
  have hl : C.brs.length = 2 := by rw [hb]; rfl
  refine ⟨by rw [h.n18]; exact he, fun j b at_ k hj hs right hr hin => ?_, fun j _ _ _ hs => by cases hs⟩
  cases hs
  have hnm : C.nm j = (j : Int) + 256 := by
    rcases (show j = 0 ∨ j = 1 ∨ j = 2 by omega) with rfl | rfl | rfl
    · exact hn
    · show C.brs.getD 0 0 = _; rw [hb]; rfl
    · show C.brs.getD 1 0 = _; rw [hb]; rfl
  rw [hnm]
  exact h.reach he (by omega) hr hin
theorem infoPlan : (Tryz.prog.info? 76).map (·.size) = some 3 := by kernel_rfl
theorem plan_is (w : World) : Calls Tryz.prog 28 #[] w fun e w' => ∃ Ab AB, e = .returned (.agg #[.slice Ab 2 2, .slice AB 2 2, .int .i64 5]) ∧ Reads w' AB (2 * 2) (refs brs2) ∧ Keep Nob w w' := by
  have hb : Blk (((w.alloc (.cells #[.slice (some ⟨w.heap.size + 1, 0, none⟩) 2 2, .slice (some ⟨w.heap.size + 1 + 1, 0, none⟩) 2 2, .int .i64 5] 76)).alloc (.cells #[.bool false, .bool false] 4)).alloc (.cells #[.int .i64 0, .int .i64 1, .int .i64 1, .int .i64 0] 153)) w.heap.size 76 [.slice (some ⟨w.heap.size + 1, 0, none⟩) 2 2, .slice (some ⟨w.heap.size + 1 + 1, 0, none⟩) 2 2, .int .i64 5] := ((Blk.new w 76 _).alloc _).alloc _
  have hr := reads_all (n := 4) (Blk.new ((w.alloc (.cells #[.slice (some ⟨w.heap.size + 1, 0, none⟩) 2 2, .slice (some ⟨w.heap.size + 1 + 1, 0, none⟩) 2 2, .int .i64 5] 76)).alloc (.cells #[.bool false, .bool false] 4)) 153 (refs brs2)) rfl
  have hs : ((w.alloc (.cells #[.slice (some ⟨w.heap.size + 1, 0, none⟩) 2 2, .slice (some ⟨w.heap.size + 1 + 1, 0, none⟩) 2 2, .int .i64 5] 76)).alloc (.cells #[.bool false, .bool false] 4)).heap.size = w.heap.size + 1 + 1 := by simp
  rw [hs] at hr
  have F := Lib.hid (And.intro hb (And.intro hr ((((Keep.refl Nob w).alloc (.cells #[.slice (some ⟨w.heap.size + 1, 0, none⟩) 2 2, .slice (some ⟨w.heap.size + 1 + 1, 0, none⟩) 2 2, .int .i64 5] 76)).alloc (.cells #[.bool false, .bool false] 4)).alloc (.cells #[.int .i64 0, .int .i64 1, .int .i64 1, .int .i64 0] 153))))
  clear hb hr hs
  go_enter Tryz.func28, Tryz.ntmps28
  go_wp2
  refine bodyPost_ret (v := .agg #[.slice (some ⟨w.heap.size + 1, 0, none⟩) 2 2, .slice (some ⟨w.heap.size + 1 + 1, 0, none⟩) 2 2, .int .i64 5]) (results_cell_row rfl _ _ w.heap.size 76 #[.slice (some ⟨w.heap.size + 1, 0, none⟩) 2 2, .slice (some ⟨w.heap.size + 1 + 1, 0, none⟩) 2 2, .int .i64 5] (0, 0) _ rfl F.out.1 Tryz.underlying76 rfl infoPlan) rfl ?_
  exact ⟨_, _, rfl, F.out.2.1, F.out.2.2⟩
end Go.Proofs.YtgcikpgcoemfnaaGreat.Pn
namespace Go.Proofs.YtgcikpgcoemfnaaGreat.Co
open Go.RowKit Go.MapKept
set_option linter.unusedVariables false
set_option linter.unusedSimpArgs false
/-- A Commons that a call has made. -/
structure NewCm (w w' : World) (k : Nat) (C : Cm) (e : Nat) (n0 : Int) (l : List Int) : Prop where
  is : IsCm w' k C
  env : C.env = e
  name : C.name = n0
  brs : C.brs = l
  bad : C.bad = []
  p : w.heap.size ≤ C.p
  b : w.heap.size ≤ C.b
  a : ∀ ad, C.A = some ad → w.heap.size ≤ ad.block
  keep : Keep Nob w w'
set_option maxRecDepth 100000 in
set_option maxHeartbeats 2000000 in
theorem cnew_is {w : World} {K : Kn} (h : IsKn w K) (e : Nat) (he : e < K.envs.length) (n0 : Int) (l : List Int) (hl : names ((K.T e).map Q.pl) (K.T e).length = n0 :: l) (few : l.length ≤ 31) :
    Calls Tryz.prog 77 #[.pointer (some ⟨K.k, 0, none⟩), .int .i64 e] w fun e' w' => ∃ C, e' = .returned (.tuple #[.pointer (some ⟨C.p, 0, none⟩), .int .i64 0]) ∧ NewCm w w' K.k C e n0 l := by
  have hsp := space_is h
  have hnm := snames_new h.reg.sp he
  rw [hl] at hnm
  have hmm := @run_makeMap Tryz.prog
  clear h hl he
  generalize K.s = ks at *
  generalize K.k = kk at *
  go_enter Tryz.func77, Tryz.ntmps77
  go_wp2_with fail
  refine hsp.mono ?_; rintro e' w1 ⟨rfl, rfl⟩
  go_wp2_with fail
  refine hnm.mono ?_; rintro e' w1 ⟨A, c, rfl, hv, hk, hfr⟩
  obtain ⟨g, cur, rfl, hb, hlc, hcl, ht⟩ := hv.at_ (by simp)
  have hg : w.heap.size ≤ g := hfr g ⟨_, rfl, rfl⟩
  have hrd := hv.reads
  have z0 : w1.cell? ⟨g, 0, none⟩ = some (.int .i64 n0) := by
    obtain ⟨ad, e1, e2⟩ := hrd.2 (by simp)
    cases e1
    exact e2 0 _ rfl
  have z1 : (w1.alloc (.map #[] 0)).cell? ⟨g, 0, none⟩ = some (.int .i64 n0) := by
    rw [(hb.alloc _).cell, ← hb.cell]
    exact z0
  have hr1 : c ≠ 1 → Reads w1 (some ⟨g, 1, none⟩) l.length (ints l) := fun _ => by
    obtain ⟨ad, e1, e2⟩ := hrd.2 (by simp)
    cases e1
    refine ⟨by simp [ints], fun _ => ⟨_, rfl, fun j u hu => ?_⟩⟩
    have e3 := e2 (j + 1) u (by simpa [ints] using hu)
    rw [add_lit] at e3 ⊢
    rw [← e3]
    congr 2
    omega
  have hr0 : c = 1 → Reads w1 (some ⟨g, 0, none⟩) l.length (ints l) := fun e => by
    simp at hlc
    have : l = [] := List.eq_nil_of_length_eq_zero (by omega)
    subst this
    exact Reads.nil_ _ _
  have hlen : (n0 :: l).length = l.length + 1 := rfl
  rw [hlen] at hlc ⊢
  have HH := Lib.hid (And.intro hr1 (And.intro hr0 (And.intro hk hg)))
  clear hsp hnm hv hfr hb hcl ht hrd hr1 hr0 hk hg hlen
  generalize hln : l.length = n at *
  have HL := Lib.hid hln
  have h1n : (1 : Int) ≤ (n : Int) + 1 := by omega
  clear hln
  have fin : ∀ (A : Option Addr) (c' : Nat), Reads w1 A n (ints l) → (∀ ad, A = some ad → w.heap.size ≤ ad.block) →
      ∃ C : Cm, C.p = w1.heap.size + 1 ∧ NewCm w ((w1.alloc (.map #[] 0)).alloc (.cells #[.pointer (some ⟨kk, 0, none⟩), .int .i64 e, .int .i64 n0, .slice A n c', .map (some w1.heap.size)] 129)).drew kk C e n0 l := fun A c' hA hf => by
    have hk1 : Keep Nob w1 ((w1.alloc (.map #[] 0)).alloc (.cells #[.pointer (some ⟨kk, 0, none⟩), .int .i64 e, .int .i64 n0, .slice A n c', .map (some w1.heap.size)] 129)).drew := (((Keep.refl Nob w1).alloc _).alloc _).drew
    have hlen : l.length = n := HL.out
    have hs := HH.out.2.2.1.size
    have hb2 := Blk.new (w1.alloc (.map #[] 0)) 129 [.pointer (some ⟨kk, 0, none⟩), .int .i64 e, .int .i64 n0, .slice A n c', .map (some w1.heap.size)]
    have hsz : (w1.alloc (.map #[] 0)).heap.size = w1.heap.size + 1 := by simp
    rw [hsz] at hb2
    refine ⟨⟨w1.heap.size + 1, e, n0, A, c', l, w1.heap.size, []⟩, rfl, ⟨⟨?_, ?_, ⟨[], ?_, List.Perm.refl _⟩, List.Pairwise.nil, by rw [hlen]; exact few, fun r hr => by cases hr⟩, rfl, rfl, rfl, rfl, by dsimp only; omega, hs, hf, HH.out.2.2.1.trans hk1 (fun _ _ f => f)⟩⟩
    · dsimp only
      rw [hlen]
      exact hb2
    · dsimp only
      rw [hlen]
      exact hA.nob hk1
    · exact (MapIs.new w1).nob (((Keep.refl Nob _).alloc _).drew)
  have FIN := Lib.hid fin
  clear fin
  by_cases hc1 : c = 1
  · subst hc1
    go_wp2_with fail
    go_region
    have hn0 : n = 0 := by omega
    subst hn0
    obtain ⟨C, hp, hC⟩ := FIN.out (some ⟨g, 0, none⟩) 0 (HH.out.2.1 trivial) (fun ad e => by cases e; exact HH.out.2.2.2)
    go_wp2
    go_ret2
    exact ⟨C, by rw [hp]; rfl, hC⟩
  · go_wp2_with fail
    go_region
    obtain ⟨C, hp, hC⟩ := FIN.out (some ⟨g, 1, none⟩) (c - 1) (HH.out.1 hc1) (fun ad e => by cases e; exact HH.out.2.2.2)
    go_wp2
    go_ret2
    exact ⟨C, by rw [hp]; rfl, hC⟩
end Go.Proofs.YtgcikpgcoemfnaaGreat.Co
namespace Go.Proofs.YtgcikpgcoemfnaaGreat.Dk
open Go.RowKit
set_option linter.unusedVariables false
set_option linter.unusedSimpArgs false
section
variable {w w' : World}
theorem results_tmp4 {fn : Func} {a b c d : Tmp} (h : fn.results = #[.tmp a, .tmp b, .tmp c, .tmp d]) (tmps : Array Value) (P : Program) (w : World) : (results fn tmps).run P w = .ok (.tuple #[tmps.getD a undef, tmps.getD b undef, tmps.getD c undef, tmps.getD d undef]) w := by
  simp [results, h]
end
end Go.Proofs.YtgcikpgcoemfnaaGreat.Dk
namespace Go.Proofs.YtgcikpgcoemfnaaGreat.Au
open Go.RowKit Co
set_option linter.unusedVariables false
set_option linter.unusedSimpArgs false
def pAt (b : List UInt8) (i : Nat) : List Int × Int := Cd.dcd ((b.drop (24 * i)).take 24)
def fAt (b : List UInt8) (i : Nat) : List Int × Int := Fi.dcd ((b.drop (192 + 8 * i)).take 8)
def rAt (b : List UInt8) (i : Nat) : Ri.Pp × Int := Ri.dcd ((b.drop (288 + 40 * i)).take 40)
def tAt (b : List UInt8) : Ri.Pp × Int := Ri.dcd ((b.drop 448).take 40)
def gAt (b : List UInt8) : Int × Int := fdec ((b.drop 488).take 4)
section
variable {b : List UInt8}
end
end Go.Proofs.YtgcikpgcoemfnaaGreat.Au
namespace Go.Proofs.YtgcikpgcoemfnaaGreat.Pr
open Go.RowKit Co
set_option linter.unusedVariables false
set_option linter.unusedSimpArgs false
theorem infoS_ : (Tryz.prog.info? 94).map (·.size) = some 18 := by kernel_rfl
theorem alS (W : World) : (Instr.alloc 94 true (.tuple #[])).run Tryz.prog W = .ok (.pointer (some ⟨W.heap.size, 0, none⟩)) (W.alloc (.cells (ints (List.replicate 18 0)).toArray 94)) := by
  go_simp
  rfl
theorem flatS : Flat 94 18 (ints (List.replicate 18 0)) := ⟨⟨_, Tryz.underlying94, rfl⟩, infoS_, alS, rfl⟩
theorem bu_slot (i d : Int) (l : List Int) (h : l.length = 16) (W : World) : (Instr.build 94 #[(0, .int .i64 i), (1, .int .i64 d), (2, .agg (ints l).toArray)]).run Tryz.prog W = .ok (.agg (ints (i :: d :: l)).toArray) W := by
  obtain ⟨a0, a1, a2, a3, a4, a5, a6, a7, f0, f1, f2, f3, f4, f5, f6, f7, rfl⟩ := Cd.split16 h
  exact run_build W _ _ _ (by kernel_rfl)
section
variable {P : Program} {o : Oper} {ops : Array Oper} {Q : Exit → Act → World → Prop} {rest : List Oper} {a : Act} {w : World}
theorem wpList_bd3 (hgd : o.guard = none) (t : TypeId) (x y z : Operand) (ho : o.op = .build t #[(0, x), (1, y), (2, z)]) (u v s R : Value) (hx : a.eval x = u) (hy : a.eval y = v) (hz : a.eval z = s) (hrun : (Instr.build t #[(0, u), (1, v), (2, s)]).run P w = .ok R w)
    (h : wpList P ops Q rest (a.put o.dst R) w) : wpList P ops Q (o :: rest) a w := by
  refine wpList_plain hgd fun K hK => ?_
  unfold Oper.wp
  simp [execOp, ho, hx, hy, hz, hrun, Result.andThen]
  exact hK _ _ h
end
/-- A load behind a guard that holds. -/
theorem _root_.Go.Proofs.YtgcikpgcoemfnaaGreat.Co.Flat.wpList_ldG {t : TypeId} {n : Nat} {z q : List Value} {o : Oper} {ops : Array Oper} {Q : Exit → Act → World → Prop} {rest : List Oper} {a : Act} {w : World} {g : Nat} {x : Operand} (F : Flat t n z) (hw : Region.wanted o (yielded ops a.tmps) = true) (ho : o.op = .load t x) (hx : a.eval x = .pointer (some ⟨g, 0, none⟩)) (hq : Cells n q) (hb : Blk w g t q)
    (h : wpList Tryz.prog ops Q rest (a.put o.dst (.agg q.toArray)) w) : wpList Tryz.prog ops Q (o :: rest) a w := by
  refine wpList_step fun K hK => ?_
  rw [if_pos hw]
  have hrun := F.load hq hb
  unfold Oper.wp
  simp [execOp, ho, hx, Instr.loadAt, Instr.sureAddr, hrun, Result.andThen]
  exact hK _ _ h
theorem len16 {F : List UInt8 → Prop} {n nb : Nat} {src : Src} {bad : List Rf} {xs : List UInt8} {S : Stt} (h : Sto F n src nb bad xs S) {i : Int} {v : List Int} {d : Int} (hv : S.p i = (v, d)) : v.length = 16 :=
  readP_len ((h.p i).trans (by rw [hv]))
/-- Whether there is a process that has not ended. -/
def actB (v : List Int) (d : Int) : Bool := d == 1 && v.getD 0 0 != 2
/-- Whether there is a process that i is the Parent of. -/
def chB (v : List Int) (d i : Int) : Bool := d == 1 && v.getD 1 0 == i + 1
/-- The process that may go on. -/
def selfR (v : List Int) (d : Int) : List Int × Int := if d = 1 ∧ v.getD 0 0 = 1 then (v, 0) else (Cd.noP, 105)
def erB (ok : Bool) : Int := if ok then 0 else 105
section
variable {F : List UInt8 → Prop} {n : Nat} {w w' w1 : World} {K : Kn} {C : Cm} {src : Src} {S S' S2 : Stt}
theorem errno_is (b : Bool) (w : World) : Calls Tryz.prog 42 #[.bool b] w fun e w' => e = .returned (.int .i64 (erB b)) ∧ w = w' := by
  go_enter Tryz.func42, Tryz.ntmps42
  cases b with
  | true =>
    go_wp2
    go_ret
    exact ⟨rfl, rfl⟩
  | false =>
    go_wp2
    go_ret
    exact ⟨rfl, rfl⟩
set_option maxRecDepth 100000 in
set_option maxHeartbeats 2000000 in
theorem at_is (h : Ks F n w K C src S) (i : Int) (hi : Cd.Wf i) (v : List Int) (d : Int) (hv : S.p i = (v, d)) :
    Calls Tryz.prog 40 #[.pointer (some ⟨C.p, 0, none⟩), .int .i64 i] w fun e w' => e = .returned (.agg (ints (i :: d :: v)).toArray) ∧ Kt F n w K C src S w' := by
  have hl := len16 h.s hv
  have HC := Lib.hid (cellsI hl)
  have HC2 := Lib.hid (cellsI (n := 18) (l := i :: d :: v) (by simp [hl]))
  have HZ := Lib.hid (cellsI (n := 18) (l := List.replicate 18 0) rfl)
  have HZ2 := Lib.hid (cellsI (n := 16) (l := Cd.noP) rfl)
  have HB := Lib.hid (bu_slot i d v hl)
  have H := Lib.hid h
  have HCall := Lib.hid (fun W K' (hk : Ks F n W K' C src S) => sproc_is hk i hi v d hv)
  clear h hv hl
  go_enter Tryz.func40, Tryz.ntmps40
  go_wp2_with (refine flatS.wpList_al rfl rfl ?_; intro w1 hb1 hk1 hs1)
  have T1 := H.out.still hk1
  refine (T1.go (HCall.out _)).mono ?_; rintro e w2 ⟨rfl, T2, kp2⟩
  have hb2 := kp2.lb H.out hb1 (Nat.le_refl _)
  have HT2 := Lib.hid T2
  have hsz := Nat.le_trans hk1.size kp2.size
  clear T1 T2 kp2 hb1 hk1 hs1
  go_upto_region 2 with (first
    | (refine flatP.wpList_al rfl rfl ?_; intro w3 hb3 hk3 hs3; clear hs3)
    | (refine flatP.wpList_st rfl rfl rfl rfl HC.out HZ2.out hb3 ?_; intro w4 hb4 hk4 hs4; clear hs4))
  have T4 := Lib.hid ((HT2.out.nob hk3).st H.out hb3 (by decide) hsz hk4)
  have hb5 := (hb2.nob hk3).keep hk4 (by have := hb2.lt; omega)
  clear hb2 hk3 hb3 hk4
  go_wp2_with (refine flatP.wpList_ld rfl rfl rfl HC.out hb4 ?_; refine wpList_bd3 rfl _ _ _ _ rfl _ _ _ _ rfl rfl rfl (HB.out _) ?_; refine flatS.wpList_st rfl rfl rfl rfl HC2.out HZ.out hb5 ?_; intro w6 hb6 hk6 hs6; clear hs6)
  refine bodyPost_ret (v := .agg (ints (i :: d :: v)).toArray) (flatS.results_one rfl _ HC2.out rfl hb6) rfl ?_
  exact ⟨rfl, T4.out.st H.out hb5 (by decide) (Nat.le_refl _) hk6⟩
/-- The first cells of a process. -/
theorem cell_of {w : World} {g : Nat} {ty : TypeId} {l : List Int} (hb : Blk w g ty (ints l)) (k : Nat) (hk : k < l.length) : w.cell? ⟨g, k, none⟩ = some (.int .i64 (l.getD k 0)) := by
  rw [hb.cell k, ints_get, List.getElem?_eq_getElem hk, List.getD_eq_getElem?_getD, List.getElem?_eq_getElem hk]
  rfl
set_option maxRecDepth 100000 in
set_option maxHeartbeats 2000000 in
theorem self_is (h : Ks F n w K C src S) (i : Int) (hi : Cd.Wf i) (v : List Int) (d : Int) (hv : S.p i = (v, d)) (R : List Int) (er : Int) (hr : selfR v d = (R, er)) :
    Calls Tryz.prog 20 #[.pointer (some ⟨C.p, 0, none⟩), .int .i64 i] w fun e w' => e = .returned (.tuple #[.agg (ints R).toArray, .int .i64 er]) ∧ Kt F n w K C src S w' := by
  have hl := len16 h.s hv
  have HL := Lib.hid hl
  have HC := Lib.hid (cellsI hl)
  have HZ2 := Lib.hid (cellsI (n := 16) (l := Cd.noP) rfl)
  have H := Lib.hid h
  have HCall := Lib.hid (fun W K' (hk : Ks F n W K' C src S) => sproc_is hk i hi v d hv)
  have HR := Lib.hid hr
  clear h hv hl hr
  go_enter Tryz.func20, Tryz.ntmps20
  go_wp2_with (refine flatP.wpList_al rfl rfl ?_; intro w1 hb1 hk1 hs1)
  have T1 := H.out.still hk1
  refine (T1.go (fun K' hk => slook_is hk)).mono ?_; rintro e w2 ⟨rfl, T2, kp2⟩
  have hb2 := kp2.lb H.out hb1 (Nat.le_refl _)
  have hsz := Nat.le_trans hk1.size kp2.size
  clear T1 kp2 hb1 hk1 hs1
  go_wp2_with fail
  refine (T2.go (HCall.out _)).mono ?_; rintro e w3 ⟨rfl, T3, kp3⟩
  have hb3 := kp3.lb H.out hb2 (Nat.le_refl _)
  have HT3 := Lib.hid T3
  have hsz2 := Nat.le_trans hsz kp3.size
  clear T2 T3 kp3 hb2 hsz
  go_upto_region 3 with (first
    | (refine flatP.wpList_al rfl rfl ?_; intro w4 hb4 hk4 hs4; clear hs4)
    | (refine flatP.wpList_st rfl rfl rfl rfl HC.out HZ2.out hb4 ?_; intro w5 hb5 hk5 hs5; clear hs5))
  have T5 := Lib.hid ((HT3.out.nob hk4).st H.out hb4 (by decide) hsz2 hk5)
  have hb6 := (hb3.nob hk4).keep hk5 (by have := hb3.lt; omega)
  have hc0 := cell_of hb5 0 (by rw [HL.out]; decide)
  have HB6 := Lib.hid hb6
  have HB5 := Lib.hid hb5
  generalize w3.heap.size = g4 at *
  clear hb3 hk4 hb4 hk5 hb6 hb5
  obtain ⟨s, hs⟩ : ∃ s, v.getD 0 0 = s := ⟨_, rfl⟩
  rw [hs] at hc0
  have HS := Lib.hid hs
  clear hs hsz2
  rcases (show d ≠ 1 ∨ (d = 1 ∧ s ≠ 1) ∨ (d = 1 ∧ s = 1) by omega) with e1 | ⟨e1, e2⟩ | ⟨e1, e2⟩
  · have er : R = Cd.noP ∧ er = 105 := by
      have := HR.out
      unfold selfR at this
      rw [if_neg (by simp [e1])] at this
      simpa using this.symm
    obtain ⟨rfl, rfl⟩ := er
    go_wp2_with (refine flatP.wpList_st rfl rfl rfl rfl HZ2.out HZ2.out HB6.out ?_; intro w7 hb7 hk7 hs7; clear hs7)
    refine bodyPost_ret (v := .tuple #[.agg (ints Cd.noP).toArray, .int .i64 105]) (flatP.results_pair rfl _ HZ2.out rfl hb7 _ rfl) rfl ?_
    exact ⟨rfl, T5.out.st H.out HB6.out (by decide) (Nat.le_refl _) hk7⟩
  · have er : R = Cd.noP ∧ er = 105 := by
      have := HR.out
      unfold selfR at this
      rw [if_neg (by rw [HS.out]; simp [e2])] at this
      simpa using this.symm
    obtain ⟨rfl, rfl⟩ := er
    subst e1
    go_wp2_with (refine flatP.wpList_st rfl rfl rfl rfl HZ2.out HZ2.out HB6.out ?_; intro w7 hb7 hk7 hs7; clear hs7)
    refine bodyPost_ret (v := .tuple #[.agg (ints Cd.noP).toArray, .int .i64 105]) (flatP.results_pair rfl _ HZ2.out rfl hb7 _ rfl) rfl ?_
    exact ⟨rfl, T5.out.st H.out HB6.out (by decide) (Nat.le_refl _) hk7⟩
  · have er : v = R ∧ 0 = er := by
      have := HR.out
      unfold selfR at this
      rw [if_pos ⟨e1, by rw [HS.out]; exact e2⟩] at this
      simpa using this
    obtain ⟨rfl, rfl⟩ := er
    subst e1 e2
    go_wp2_with (refine flatP.wpList_ld rfl rfl rfl HC.out HB5.out ?_; refine flatP.wpList_st rfl rfl rfl rfl HC.out HZ2.out HB6.out ?_; intro w7 hb7 hk7 hs7; clear hs7)
    refine bodyPost_ret (v := .tuple #[.agg (ints v).toArray, .int .i64 0]) (flatP.results_pair rfl _ HC.out rfl hb7 _ rfl) rfl ?_
    exact ⟨rfl, T5.out.st H.out HB6.out (by decide) (Nat.le_refl _) hk7⟩
theorem acts_is (i d : Int) (v : List Int) (hl : v.length = 16) (r : Bool) (hr : actB v d = r) (w : World) :
    Calls Tryz.prog 41 #[.agg (ints (i :: d :: v)).toArray] w fun e w' => e = .returned (.bool r) ∧ Keep Nob w w' := by
  have h1 : (ints (i :: d :: v))[1]? = some (.int .i64 d) := rfl
  have h2 : (ints (i :: d :: v))[2]? = some (.int .i64 (v.getD 0 0)) := by
    obtain ⟨a0, a1, a2, a3, a4, a5, a6, a7, f0, f1, f2, f3, f4, f5, f6, f7, rfl⟩ := Cd.split16 hl
    rfl
  have HR := Lib.hid hr
  unfold actB at HR
  generalize v.getD 0 0 = s at *
  generalize ints (i :: d :: v) = cs at *
  clear hr hl
  rcases (show d ≠ 1 ∨ (d = 1 ∧ s = 2) ∨ (d = 1 ∧ s ≠ 2) by omega) with e1 | ⟨e1, e2⟩ | ⟨e1, e2⟩
  all_goals
    go_enter Tryz.func41, Tryz.ntmps41
    go_wp2_with (refine wpList_box rfl 94 _ rfl cs.toArray rfl ?_; intro w1 hb k1 hs; clear hs; have c1 : w1.cell? ⟨w.heap.size, 1, none⟩ = some (.int .i64 d) := (hb.cell 1).trans h1; have c2 : w1.cell? ⟨w.heap.size, 2, none⟩ = some (.int .i64 s) := (hb.cell 2).trans h2; have K1 := Lib.hid k1; clear hb k1)
    go_ret
    exact ⟨by rw [← HR.out]; simp [e1] <;> simp [e2], K1.out⟩
theorem child_is (i d j : Int) (hj : -9223372036854775808 ≤ j + 1 ∧ j + 1 ≤ 9223372036854775807) (v : List Int) (hl : v.length = 16) (r : Bool) (hr : chB v d j = r) (w : World) :
    Calls Tryz.prog 47 #[.agg (ints (i :: d :: v)).toArray, .int .i64 j] w fun e w' => e = .returned (.bool r) ∧ Keep Nob w w' := by
  have h1 : (ints (i :: d :: v))[1]? = some (.int .i64 d) := rfl
  have h2 : (ints (i :: d :: v))[3]? = some (.int .i64 (v.getD 1 0)) := by
    obtain ⟨a0, a1, a2, a3, a4, a5, a6, a7, f0, f1, f2, f3, f4, f5, f6, f7, rfl⟩ := Cd.split16 hl
    rfl
  obtain ⟨j1, hj1⟩ : ∃ j1, j + 1 = j1 := ⟨_, rfl⟩
  have hwr : IntKind.i64.wrap (j + 1) = j1 := by rw [IntKind.wrap_i64]; omega
  have hwr2 : wrap64 (j + 1) = j1 := by rw [← hwr, IntWalk.i64_left]
  have HR := Lib.hid hr
  unfold chB at HR
  generalize v.getD 1 0 = s at *
  generalize ints (i :: d :: v) = cs at *
  rw [hj1] at HR
  clear hr hl hj hj1
  rcases (show d ≠ 1 ∨ (d = 1 ∧ s ≠ j1) ∨ (d = 1 ∧ s = j1) by omega) with e1 | ⟨e1, e2⟩ | ⟨e1, e2⟩
  all_goals
    go_enter Tryz.func47, Tryz.ntmps47
    go_wp2_with (refine wpList_box rfl 94 _ rfl cs.toArray rfl ?_; intro w1 hb k1 hs; clear hs; have c1 : w1.cell? ⟨w.heap.size, 1, none⟩ = some (.int .i64 d) := (hb.cell 1).trans h1; have c2 : w1.cell? ⟨w.heap.size, 3, none⟩ = some (.int .i64 s) := (hb.cell 3).trans h2; have K1 := Lib.hid k1; clear hb k1)
    go_ret
    exact ⟨by rw [← HR.out]; simp [e1] <;> simp [e2], K1.out⟩
end
end Go.Proofs.YtgcikpgcoemfnaaGreat.Pr
namespace Go.Proofs.YtgcikpgcoemfnaaGreat.Co
open Go.RowKit
set_option linter.unusedVariables false
set_option linter.unusedSimpArgs false
section
variable {F : List UInt8 → Prop} {n : Nat} {w w' w1 : World} {K : Kn} {C : Cm} {src : Src} {S S' S2 : Stt}
theorem freed {A : Type} {a b : A} {d : Int} {ok : Bool} (hok : decide (d ≠ 2) = ok) : (if d ≠ 2 then a else b) = (if ok then a else b) := by
  subst hok
  by_cases hz : d = 2
  · rw [if_neg (by simpa using hz), if_neg (by simpa using hz)]
  · rw [if_pos hz, if_pos (by simpa using hz)]
theorem sfile_is (h : Ks F n w K C src S) (i : Int) (hi : Cd.Wf i) (v : List Int) (d : Int) (hv : S.f i = (v, d)) :
    Calls Tryz.prog 26 #[.pointer (some ⟨C.p, 0, none⟩), .int .i64 i] w fun e w' => e = .returned (.tuple #[.agg (ints v).toArray, .int .i64 d]) ∧ Kt F n w K C src S w' := by
  refine (file_is h.kc i hi v d _ ((h.s.f i).trans (by rw [hv]))).mono ?_
  rintro e w' ⟨rfl, t⟩
  exact ⟨rfl, K.xs, h.s, t⟩
theorem pset_f (h : Ks F n w K C src S) (i : Int) {v : List Int} (hl : v.length = 4) (ok : Bool) (hok : (decide ((S.f i).2 ≠ 2) && Fi.okd v) = ok) :
    ∃ ys, pset (Fi.okd v) (Fi.enc v) K.xs src C.brs.length C.bad (2, i) = (ok, ys) ∧ Sto F n src C.brs.length C.bad ys (if ok then S.setF i v else S) := by
  unfold pset
  cases hd : Fi.okd v with
  | false =>
    rw [hd, Bool.and_false] at hok
    subst hok
    exact ⟨K.xs, rfl, h.s⟩
  | true =>
    rw [hd, Bool.and_true] at hok
    obtain ⟨ys, h1, h2⟩ := h.s.setF i (Fi.dcd_enc hl hd) (by decide) (Fi.enc_len v)
    refine ⟨ys, ?_, ?_⟩
    · rw [if_pos rfl, h1, hok]
    · rw [freed hok] at h2
      exact h2
theorem ssetFile_is (h : Ks F n w K C src S) (i : Int) (hi : Cd.Wf i) (v : List Int) (hl : v.length = 4) (ok : Bool) (hok : (decide ((S.f i).2 ≠ 2) && Fi.okd v) = ok) :
    Calls Tryz.prog 101 #[.pointer (some ⟨C.p, 0, none⟩), .int .i64 i, .agg (ints v).toArray] w fun e w' => e = .returned (.bool ok) ∧ Kt F n w K C src (if ok then S.setF i v else S) w' := by
  obtain ⟨ys, h1, h2⟩ := pset_f h i hl ok hok
  refine (setFile_is h.kc i hi v hl ok ys h1).mono ?_
  rintro e w' ⟨rfl, t⟩
  exact ⟨rfl, Kt.of_to h.kc h2 t⟩
theorem sfreeFile_is (h : Ks F n w K C src S) (i : Int) (hi : Cd.Wf i) (ok : Bool) (hok : decide ((S.f i).2 ≠ 2) = ok) :
    Calls Tryz.prog 121 #[.pointer (some ⟨C.p, 0, none⟩), .int .i64 i] w fun e w' => e = .returned (.bool ok) ∧ Kt F n w K C src (if ok then S.frF i else S) w' := by
  obtain ⟨ys, h1, h2⟩ := h.s.setF i dnoF (by decide) (by simp)
  rw [hok] at h1
  rw [freed hok] at h2
  refine (freeFile_is h.kc i hi ok ys h1).mono ?_
  rintro e w' ⟨rfl, t⟩
  exact ⟨rfl, Kt.of_to h.kc h2 t⟩
theorem spipe_is (h : Ks F n w K C src S) (i : Int) (hi : Cd.Wf i) (v : Ri.Pp) (d : Int) (hv : S.r i = (v, d)) :
    Calls Tryz.prog 127 #[.pointer (some ⟨C.p, 0, none⟩), .int .i64 i] w fun e w' => e = .returned (.tuple #[.agg (Ri.pc v).toArray, .int .i64 d]) ∧ Kt F n w K C src S w' := by
  refine (pipe_is h.kc i hi v d _ ((h.s.r i).trans (by rw [hv]))).mono ?_
  rintro e w' ⟨rfl, t⟩
  exact ⟨rfl, K.xs, h.s, t⟩
theorem pset_r (h : Ks F n w K C src S) (i : Int) {v : Ri.Pp} (hl : v.d.length = 32) (ok : Bool) (hok : (decide ((S.r i).2 ≠ 2) && Ri.okd v) = ok) :
    ∃ ys, pset (Ri.okd v) (Ri.enc v) K.xs src C.brs.length C.bad (3, i) = (ok, ys) ∧ Sto F n src C.brs.length C.bad ys (if ok then S.setR i v else S) := by
  unfold pset
  cases hd : Ri.okd v with
  | false =>
    rw [hd, Bool.and_false] at hok
    subst hok
    exact ⟨K.xs, rfl, h.s⟩
  | true =>
    rw [hd, Bool.and_true] at hok
    obtain ⟨ys, h1, h2⟩ := h.s.setR i (Ri.dcd_enc hl hd) (by decide) (Ri.enc_len hl)
    refine ⟨ys, ?_, ?_⟩
    · rw [if_pos rfl, h1, hok]
    · rw [freed hok] at h2
      exact h2
theorem ssetPipe_is (h : Ks F n w K C src S) (i : Int) (hi : Cd.Wf i) (v : Ri.Pp) (hl : v.d.length = 32) (ok : Bool) (hok : (decide ((S.r i).2 ≠ 2) && Ri.okd v) = ok) :
    Calls Tryz.prog 218 #[.pointer (some ⟨C.p, 0, none⟩), .int .i64 i, .agg (Ri.pc v).toArray] w fun e w' => e = .returned (.bool ok) ∧ Kt F n w K C src (if ok then S.setR i v else S) w' := by
  obtain ⟨ys, h1, h2⟩ := pset_r h i hl ok hok
  refine (setPipe_is h.kc i hi v hl ok ys h1).mono ?_
  rintro e w' ⟨rfl, t⟩
  exact ⟨rfl, Kt.of_to h.kc h2 t⟩
theorem sfreePipe_is (h : Ks F n w K C src S) (i : Int) (hi : Cd.Wf i) (ok : Bool) (hok : decide ((S.r i).2 ≠ 2) = ok) :
    Calls Tryz.prog 217 #[.pointer (some ⟨C.p, 0, none⟩), .int .i64 i] w fun e w' => e = .returned (.bool ok) ∧ Kt F n w K C src (if ok then S.frR i else S) w' := by
  obtain ⟨ys, h1, h2⟩ := h.s.setR i dnoR (by decide) (by simp)
  rw [hok] at h1
  rw [freed hok] at h2
  refine (freePipe_is h.kc i hi ok ys h1).mono ?_
  rintro e w' ⟨rfl, t⟩
  exact ⟨rfl, Kt.of_to h.kc h2 t⟩
end
end Go.Proofs.YtgcikpgcoemfnaaGreat.Co
namespace Go.Proofs.YtgcikpgcoemfnaaGreat.Pr
open Go.RowKit Co
set_option linter.unusedVariables false
set_option linter.unusedSimpArgs false
def dec0 (x : Int) : Int := max (x - 1) 0
/-- A pipe with one end less. -/
def cutP (k : Int) (p : Ri.Pp) : Ri.Pp := if k = 1 then { p with r := dec0 p.r } else { p with s := dec0 p.s }
def shutS (S : Stt) (k i : Int) : Stt × Bool :=
  if (S.r i).2 = 1 then (if i < 4 ∧ (cutP k (S.r i).1).r = 0 ∧ (cutP k (S.r i).1).s = 0 then (S.frR i, true) else (S.setR i (cutP k (S.r i).1), true)) else (S, false)
theorem cutP_len {k : Int} {p : Ri.Pp} (h : p.d.length = 32) : (cutP k p).d.length = 32 := by
  unfold cutP
  split <;> exact h
theorem cutP_ok {k : Int} {p : Ri.Pp} (h : Ri.okd p = true) : Ri.okd (cutP k p) = true := by
  have b := Ri.okd_bounds h
  obtain ⟨h1, h2, h3, h4⟩ := b
  unfold cutP dec0
  split
  · refine Ri.Bounds.ok ⟨h1, h2, ?_, h4⟩
    dsimp only
    omega
  · refine Ri.Bounds.ok ⟨h1, h2, h3, ?_⟩
    dsimp only
    omega
theorem Ri_good {l : List UInt8} {v : Ri.Pp} (h : Ri.dcd l = (v, 1)) : Ri.okd v = true := by
  unfold Ri.dcd at h
  split at h
  · split at h
    · simp at h
    · split at h
      · rename_i hg
        simp only [Prod.mk.injEq, and_true] at h
        subst h
        unfold Ri.gd at hg
        simp only [Bool.and_eq_true] at hg
        exact hg.1
      · simp at h
  · simp at h
section
variable {F : List UInt8 → Prop} {n nb : Nat} {src : Src} {bad : List Rf} {xs : List UInt8} {S : Stt}
theorem goodR (h : Sto F n src nb bad xs S) {i : Int} {p : Ri.Pp} (hv : S.r i = (p, 1)) : Ri.okd p = true := by
  obtain ⟨_, x, b, _, _, hd⟩ := live (by decide) (h.r i) (by rw [hv]; show (1 : Int) ≠ 2; decide)
  rw [hv] at hd
  exact Ri_good hd
theorem lenR (h : Sto F n src nb bad xs S) {i : Int} {p : Ri.Pp} {d : Int} (hv : S.r i = (p, d)) : p.d.length = 32 :=
  readR_len ((h.r i).trans (by rw [hv]))
end
section
variable {F : List UInt8 → Prop} {n : Nat} {w w' w1 : World} {K : Kn} {C : Cm} {src : Src} {S S' S2 : Stt}
set_option maxRecDepth 100000 in
set_option maxHeartbeats 8000000 in
theorem shut_is (h : Ks F n w K C src S) (k pi rf fl : Int) (hpi : Cd.Wf pi) (S' : Stt) (ok : Bool) (hs : shutS S k pi = (S', ok)) :
    Calls Tryz.prog 122 #[.pointer (some ⟨C.p, 0, none⟩), .agg (ints [k, pi, rf, fl]).toArray] w fun e w' => e = .returned (.bool ok) ∧ Kt F n w K C src S' w' := by
  obtain ⟨p, d, hv⟩ : ∃ p d, S.r pi = (p, d) := ⟨_, _, rfl⟩
  have HGood := Lib.hid (fun e : d = 1 => goodR h.s (show S.r pi = (p, 1) by rw [hv, e]))
  have hl := lenR h.s hv
  have HL := Lib.hid hl
  have HCp := Lib.hid (cellsR hl)
  have HZ := Lib.hid (cellsR (p := Ri.noP) rfl)
  have H := Lib.hid h
  have HCall := Lib.hid (fun W K' (hk : Ks F n W K' C src S) => spipe_is hk pi hpi p d hv)
  have HPi := Lib.hid hpi
  unfold shutS at hs
  rw [hv] at hs
  dsimp only at hs
  have HS := Lib.hid hs
  have HV := Lib.hid hv
  clear h hl hv hs hpi
  obtain ⟨cx, hcx⟩ : ∃ cx, ints [k, pi, rf, fl] = cx := ⟨_, rfl⟩
  have h0 : cx[0]? = some (.int .i64 k) := by rw [← hcx]; rfl
  have h1 : cx[1]? = some (.int .i64 pi) := by rw [← hcx]; rfl
  rw [hcx]
  clear hcx
  go_enter Tryz.func122, Tryz.ntmps122
  go_wp2_with (refine wpList_box rfl 64 _ rfl cx.toArray rfl ?_; intro w1 hb1 hk1 hs1; have c1 : w1.cell? ⟨w.heap.size, 1, none⟩ = some (.int .i64 pi) := (hb1.cell 1).trans h1; have hx1 : Blk w1 w.heap.size 64 cx := hb1; clear hb1)
  have T1 := H.out.still hk1
  refine (T1.go (HCall.out _)).mono ?_; rintro e w2 ⟨rfl, T2, kp2⟩
  have HX2 := Lib.hid (kp2.lb H.out hx1 (Nat.le_refl _))
  have HT2 := Lib.hid T2
  have hsz := Nat.le_trans hk1.size kp2.size
  clear T1 T2 kp2 hx1 hk1 hs1 c1
  go_upto_region 2 with (first
    | (refine flatR.wpList_al rfl rfl ?_; intro w3 hb3 hk3 hs3; clear hs3)
    | (refine flatR.wpList_st rfl rfl rfl rfl HCp.out HZ.out hb3 ?_; intro w4 hb4 hk4 hs4; clear hs4))
  have T4 := Lib.hid ((HT2.out.nob hk3).st H.out hb3 (by decide) hsz hk4)
  have HB4 := Lib.hid hb4
  have HX4 := Lib.hid ((HX2.out.nob hk3).keep hk4 (by have := HX2.out.lt; omega))
  have hgne : w.heap.size ≠ w2.heap.size := by have := HX2.out.lt; omega
  generalize w2.heap.size = g5 at *
  clear hk3 hb3 hk4 hb4 HT2 HX2
  by_cases hd : d = 1
  · subst hd
    have hgd := HGood.out rfl
    have hbd := Ri.okd_bounds hgd
    obtain ⟨q, hq⟩ : ∃ q, cutP k p = q := ⟨_, rfl⟩
    have HQl := Lib.hid (show q.d.length = 32 by rw [← hq]; exact cutP_len HL.out)
    have HQo := Lib.hid (show Ri.okd q = true by rw [← hq]; exact cutP_ok hgd)
    have HCq := Lib.hid (cellsR HQl.out)
    rw [if_pos rfl, hq] at HS
    have HQ := Lib.hid hq
    have r0 := hbd.r
    have s0 := hbd.s
    have xk : w4.cell? ⟨w.heap.size, 0, none⟩ = some (.int .i64 k) := (HX4.out.cell 0).trans h0
    have xp : w4.cell? ⟨w.heap.size, 1, none⟩ = some (.int .i64 pi) := (HX4.out.cell 1).trans h1
    clear hq hgd hbd h0 h1
    have hc2 : w4.cell? ⟨g5, 2, none⟩ = some (.int .i64 p.r) := HB4.out.cell 2
    have hc3 : w4.cell? ⟨g5, 3, none⟩ = some (.int .i64 p.s) := HB4.out.cell 3
    obtain ⟨pr, hpr⟩ : ∃ x, p.r = x := ⟨_, rfl⟩
    obtain ⟨ps, hps⟩ : ∃ x, p.s = x := ⟨_, rfl⟩
    rw [hpr] at hc2 r0
    rw [hps] at hc3 s0
    have HPr := Lib.hid hpr
    have HPs := Lib.hid hps
    clear hpr hps
    have hf2 := HB4.out.frozen 2
    have hf3 := HB4.out.frozen 3
    have hok : ∀ {a : Prop} [Decidable a], (decide ((S.r pi).2 ≠ 2) && Ri.okd q) = true := fun {a} _ => by
      rw [HQo.out, HV.out]
      rfl
    have HOk := Lib.hid (show (decide ((S.r pi).2 ≠ 2) && Ri.okd q) = true by rw [HQo.out, HV.out]; rfl)
    have HOk2 := Lib.hid (show decide ((S.r pi).2 ≠ 2) = true by rw [HV.out]; rfl)
    clear hok
    rcases (show k = 1 ∨ k ≠ 1 by omega) with ek | ek
    · obtain ⟨v1, hv1⟩ : ∃ v1, pr - 1 = v1 := ⟨_, rfl⟩
      have hw1 : wrap64 (pr - 1) = v1 := by rw [← IntWalk.i64_left, IntKind.wrap_i64]; omega
      have hw2 : IntKind.i64.wrap (pr - 1) = v1 := by rw [IntKind.wrap_i64]; omega
      have HV1 := Lib.hid hv1
      clear hv1
      go_upto_region 7 with fail
      have T6 := Lib.hid (T4.out.st H.out HB4.out (by decide) hsz ((Keep.refl _ w4).setCell ⟨g5, 2, none⟩ (.int .i64 (max v1 0)) (fun _ => rfl)))
      have HB6 := Lib.hid (show Blk (w4.setCell ⟨g5, 2, none⟩ (.int .i64 (max v1 0))) g5 83 (Ri.pc q) by
        rw [show Ri.pc q = (Ri.pc p).set 2 (.int .i64 (max v1 0)) by rw [← HQ.out]; unfold cutP dec0; rw [if_pos ek]; rw [HPr.out, HV1.out]; rfl]
        exact HB4.out.setCell 2 _)
      have xp6 : (w4.setCell ⟨g5, 2, none⟩ (.int .i64 (max v1 0))).cell? ⟨w.heap.size, 1, none⟩ = some (.int .i64 pi) := by
        have hx6 := HX4.out.far (p := ⟨g5, 2, none⟩) hgne (.int .i64 (max v1 0))
        exact (hx6.cell 1).trans ((HX4.out.cell 1).symm.trans xp)
      clear xk xp hc2 hc3 hf2 hf3 r0 s0 hw1 hw2
      generalize w4.setCell ⟨g5, 2, none⟩ (.int .i64 (max v1 0)) = w6 at *
      have q2 : w6.cell? ⟨g5, 2, none⟩ = some (.int .i64 q.r) := HB6.out.cell 2
      have q3 : w6.cell? ⟨g5, 3, none⟩ = some (.int .i64 q.s) := HB6.out.cell 3
      obtain ⟨qr, hqr⟩ : ∃ x, q.r = x := ⟨_, rfl⟩
      obtain ⟨qs, hqs⟩ : ∃ x, q.s = x := ⟨_, rfl⟩
      rw [hqr] at q2 HS
      rw [hqs] at q3 HS
      clear hqr hqs
      rcases (show ¬ pi < 4 ∨ (pi < 4 ∧ qr ≠ 0) ∨ (pi < 4 ∧ qr = 0 ∧ qs ≠ 0) ∨ (pi < 4 ∧ qr = 0 ∧ qs = 0) by omega) with e1 | ⟨e1, e2⟩ | ⟨e1, e2, e3⟩ | ⟨e1, e2, e3⟩
      · have hs := HS.out
        rw [if_neg (by simp [e1])] at hs
        obtain ⟨rfl, rfl⟩ := Prod.mk.inj hs
        clear hs
        go_wp2_with (refine flatR.wpList_ld rfl rfl rfl HCq.out HB6.out ?_)
        refine (T6.out.go (fun K' hK => ssetPipe_is hK pi HPi.out q HQl.out true HOk.out)).mono ?_; rintro e w7 ⟨rfl, T7, _⟩
        have HT7 := Lib.hid T7
        clear T7
        go_wp2
        go_ret
        exact ⟨rfl, HT7.out⟩
      · have hs := HS.out
        rw [if_neg (by simp [e2])] at hs
        obtain ⟨rfl, rfl⟩ := Prod.mk.inj hs
        clear hs
        go_wp2_with (refine flatR.wpList_ld rfl rfl rfl HCq.out HB6.out ?_)
        refine (T6.out.go (fun K' hK => ssetPipe_is hK pi HPi.out q HQl.out true HOk.out)).mono ?_; rintro e w7 ⟨rfl, T7, _⟩
        have HT7 := Lib.hid T7
        clear T7
        go_wp2
        go_ret
        exact ⟨rfl, HT7.out⟩
      · have hs := HS.out
        rw [if_neg (by simp [e3])] at hs
        obtain ⟨rfl, rfl⟩ := Prod.mk.inj hs
        clear hs
        go_wp2_with (refine flatR.wpList_ld rfl rfl rfl HCq.out HB6.out ?_)
        refine (T6.out.go (fun K' hK => ssetPipe_is hK pi HPi.out q HQl.out true HOk.out)).mono ?_; rintro e w7 ⟨rfl, T7, _⟩
        have HT7 := Lib.hid T7
        clear T7
        go_wp2
        go_ret
        exact ⟨rfl, HT7.out⟩
      · have hs := HS.out
        rw [if_pos ⟨e1, e2, e3⟩] at hs
        obtain ⟨rfl, rfl⟩ := Prod.mk.inj hs
        clear hs
        go_wp2_with fail
        refine (T6.out.go (fun K' hK => sfreePipe_is hK pi HPi.out true HOk2.out)).mono ?_; rintro e w7 ⟨rfl, T7, _⟩
        have HT7 := Lib.hid T7
        clear T7
        go_wp2
        go_ret
        exact ⟨rfl, HT7.out⟩
    · obtain ⟨v1, hv1⟩ : ∃ v1, ps - 1 = v1 := ⟨_, rfl⟩
      have hw1 : wrap64 (ps - 1) = v1 := by rw [← IntWalk.i64_left, IntKind.wrap_i64]; omega
      have hw2 : IntKind.i64.wrap (ps - 1) = v1 := by rw [IntKind.wrap_i64]; omega
      have HV1 := Lib.hid hv1
      clear hv1
      go_upto_region 7 with fail
      have T6 := Lib.hid (T4.out.st H.out HB4.out (by decide) hsz ((Keep.refl _ w4).setCell ⟨g5, 3, none⟩ (.int .i64 (max v1 0)) (fun _ => rfl)))
      have HB6 := Lib.hid (show Blk (w4.setCell ⟨g5, 3, none⟩ (.int .i64 (max v1 0))) g5 83 (Ri.pc q) by
        rw [show Ri.pc q = (Ri.pc p).set 3 (.int .i64 (max v1 0)) by rw [← HQ.out]; unfold cutP dec0; rw [if_neg ek]; rw [HPs.out, HV1.out]; rfl]
        exact HB4.out.setCell 3 _)
      have xp6 : (w4.setCell ⟨g5, 3, none⟩ (.int .i64 (max v1 0))).cell? ⟨w.heap.size, 1, none⟩ = some (.int .i64 pi) := by
        have hx6 := HX4.out.far (p := ⟨g5, 3, none⟩) hgne (.int .i64 (max v1 0))
        exact (hx6.cell 1).trans ((HX4.out.cell 1).symm.trans xp)
      clear xk xp hc2 hc3 hf2 hf3 r0 s0 hw1 hw2
      generalize w4.setCell ⟨g5, 3, none⟩ (.int .i64 (max v1 0)) = w6 at *
      have q2 : w6.cell? ⟨g5, 2, none⟩ = some (.int .i64 q.r) := HB6.out.cell 2
      have q3 : w6.cell? ⟨g5, 3, none⟩ = some (.int .i64 q.s) := HB6.out.cell 3
      obtain ⟨qr, hqr⟩ : ∃ x, q.r = x := ⟨_, rfl⟩
      obtain ⟨qs, hqs⟩ : ∃ x, q.s = x := ⟨_, rfl⟩
      rw [hqr] at q2 HS
      rw [hqs] at q3 HS
      clear hqr hqs
      rcases (show ¬ pi < 4 ∨ (pi < 4 ∧ qr ≠ 0) ∨ (pi < 4 ∧ qr = 0 ∧ qs ≠ 0) ∨ (pi < 4 ∧ qr = 0 ∧ qs = 0) by omega) with e1 | ⟨e1, e2⟩ | ⟨e1, e2, e3⟩ | ⟨e1, e2, e3⟩
      · have hs := HS.out
        rw [if_neg (by simp [e1])] at hs
        obtain ⟨rfl, rfl⟩ := Prod.mk.inj hs
        clear hs
        go_wp2_with (refine flatR.wpList_ld rfl rfl rfl HCq.out HB6.out ?_)
        refine (T6.out.go (fun K' hK => ssetPipe_is hK pi HPi.out q HQl.out true HOk.out)).mono ?_; rintro e w7 ⟨rfl, T7, _⟩
        have HT7 := Lib.hid T7
        clear T7
        go_wp2
        go_ret
        exact ⟨rfl, HT7.out⟩
      · have hs := HS.out
        rw [if_neg (by simp [e2])] at hs
        obtain ⟨rfl, rfl⟩ := Prod.mk.inj hs
        clear hs
        go_wp2_with (refine flatR.wpList_ld rfl rfl rfl HCq.out HB6.out ?_)
        refine (T6.out.go (fun K' hK => ssetPipe_is hK pi HPi.out q HQl.out true HOk.out)).mono ?_; rintro e w7 ⟨rfl, T7, _⟩
        have HT7 := Lib.hid T7
        clear T7
        go_wp2
        go_ret
        exact ⟨rfl, HT7.out⟩
      · have hs := HS.out
        rw [if_neg (by simp [e3])] at hs
        obtain ⟨rfl, rfl⟩ := Prod.mk.inj hs
        clear hs
        go_wp2_with (refine flatR.wpList_ld rfl rfl rfl HCq.out HB6.out ?_)
        refine (T6.out.go (fun K' hK => ssetPipe_is hK pi HPi.out q HQl.out true HOk.out)).mono ?_; rintro e w7 ⟨rfl, T7, _⟩
        have HT7 := Lib.hid T7
        clear T7
        go_wp2
        go_ret
        exact ⟨rfl, HT7.out⟩
      · have hs := HS.out
        rw [if_pos ⟨e1, e2, e3⟩] at hs
        obtain ⟨rfl, rfl⟩ := Prod.mk.inj hs
        clear hs
        go_wp2_with fail
        refine (T6.out.go (fun K' hK => sfreePipe_is hK pi HPi.out true HOk2.out)).mono ?_; rintro e w7 ⟨rfl, T7, _⟩
        have HT7 := Lib.hid T7
        clear T7
        go_wp2
        go_ret
        exact ⟨rfl, HT7.out⟩
  · have hs := HS.out
    rw [if_neg hd] at hs
    obtain ⟨rfl, rfl⟩ := Prod.mk.inj hs
    clear hs
    go_wp2_with fail
    go_ret
    exact ⟨rfl, T4.out⟩
end
end Go.Proofs.YtgcikpgcoemfnaaGreat.Pr
namespace Go.Proofs.YtgcikpgcoemfnaaGreat.Pr
open Go.RowKit Co
set_option linter.unusedVariables false
set_option linter.unusedSimpArgs false
/-- A file named once less, and what is told. -/
def closeS (S : Stt) (f : Int) : Stt × Int :=
  if (S.f f).2 = 1 then
    (if 1 < (S.f f).1.getD 2 0 then (S.setF f [(S.f f).1.getD 0 0, (S.f f).1.getD 1 0, (S.f f).1.getD 2 0 - 1, (S.f f).1.getD 3 0], 0)
    else if (S.f f).1.getD 0 0 = 3 then (S.frF f, 0)
    else ((shutS (S.frF f) ((S.f f).1.getD 0 0) ((S.f f).1.getD 1 0)).1, erB (shutS (S.frF f) ((S.f f).1.getD 0 0) ((S.f f).1.getD 1 0)).2))
  else (S, 105)
theorem Fi_less {a b c d : Int} (h : Fi.okd [a, b, c, d] = true) (h1 : 1 < c) : Fi.okd [a, b, c - 1, d] = true := by
  rw [Fi.okd_doc] at h ⊢
  simp only [Bool.and_eq_true] at h ⊢
  obtain ⟨h0, h2, h3, h4, h5⟩ := h
  have := Fi.inn_out h4
  exact ⟨h0, h2, h3, decide_eq_true (by omega), h5⟩
theorem Fi_in {a b c d : Int} (h : Fi.okd [a, b, c, d] = true) : (1 ≤ a ∧ a ≤ 3) ∧ (0 ≤ b ∧ b ≤ 7) ∧ (1 ≤ c ∧ c ≤ 64) := by
  rw [Fi.okd_doc] at h
  simp only [Bool.and_eq_true] at h
  obtain ⟨h0, h2, h3, h4, h5⟩ := h
  exact ⟨Fi.inn_out h0, Fi.inn_out h2, Fi.inn_out h4⟩
section
variable {F : List UInt8 → Prop} {n nb : Nat} {src : Src} {bad : List Rf} {xs : List UInt8} {S : Stt}
theorem goodF (h : Sto F n src nb bad xs S) {i : Int} {v : List Int} (hv : S.f i = (v, 1)) : Fi.okd v = true := by
  obtain ⟨_, x, b, _, _, hd⟩ := live (by decide) (h.f i) (by rw [hv]; show (1 : Int) ≠ 2; decide)
  rw [hv] at hd
  exact (Fi.dcd_good hd).2.1
theorem lenF (h : Sto F n src nb bad xs S) {i : Int} {v : List Int} {d : Int} (hv : S.f i = (v, d)) : v.length = 4 :=
  readF_len ((h.f i).trans (by rw [hv]))
end
section
variable {F : List UInt8 → Prop} {n : Nat} {w w' w1 : World} {K : Kn} {C : Cm} {src : Src} {S S' S2 : Stt}
set_option maxRecDepth 100000 in
set_option maxHeartbeats 8000000 in
theorem close_is (h : Ks F n w K C src S) (f : Int) (hf : Cd.Wf f) (S' : Stt) (er : Int) (hs : closeS S f = (S', er)) :
    Calls Tryz.prog 60 #[.pointer (some ⟨C.p, 0, none⟩), .int .i64 f] w fun e w' => e = .returned (.int .i64 er) ∧ Kt F n w K C src S' w' := by
  obtain ⟨v, d, hv⟩ : ∃ v d, S.f f = (v, d) := ⟨_, _, rfl⟩
  have hl := lenF h.s hv
  obtain ⟨k, pi, rf, fl, rfl⟩ := Fi.split4 hl
  have HGood := Lib.hid (fun e : d = 1 => goodF h.s (show S.f f = ([k, pi, rf, fl], 1) by rw [hv, e]))
  have HCp := Lib.hid (cellsI hl)
  have HZ := Lib.hid (cellsI (n := 4) (l := Fi.noP) rfl)
  have H := Lib.hid h
  have HCall := Lib.hid (fun W K' (hk : Ks F n W K' C src S) => sfile_is hk f hf _ d hv)
  have HF := Lib.hid hf
  unfold closeS at hs
  rw [hv] at hs
  simp only [List.getD_cons_zero, List.getD_cons_succ] at hs
  have HS := Lib.hid hs
  have HV := Lib.hid hv
  clear h hl hv hs hf
  obtain ⟨cx, hcx⟩ : ∃ cx, ints [k, pi, rf, fl] = cx := ⟨_, rfl⟩
  rw [hcx] at HCp HCall
  have HCx := Lib.hid hcx
  clear hcx
  go_enter Tryz.func60, Tryz.ntmps60
  go_wp2_with fail
  have T0 := H.out.still (Keep.refl Nob w)
  refine (T0.go (fun K' hk => slook_is hk)).mono ?_; rintro e w1 ⟨rfl, T1, kp1⟩
  clear T0 kp1
  go_wp2_with fail
  refine (T1.go (HCall.out _)).mono ?_; rintro e w2 ⟨rfl, T2, kp2⟩
  have HT2 := Lib.hid T2
  have hsz := T2.kp.size
  clear T1 T2 kp2
  go_upto_region 3 with (first
    | (refine flatF.wpList_al rfl rfl ?_; intro w3 hb3 hk3 hs3; clear hs3)
    | (refine flatF.wpList_st rfl rfl rfl rfl HCp.out HZ.out hb3 ?_; intro w4 hb4 hk4 hs4; clear hs4))
  have T4 := Lib.hid ((HT2.out.nob hk3).st H.out hb3 (by decide) hsz hk4)
  have HB4 := Lib.hid hb4
  generalize w2.heap.size = g5 at *
  clear hk3 hb3 hk4 hb4 HT2
  by_cases hd : d = 1
  · subst hd
    have hgd := HGood.out rfl
    have hin := Fi_in hgd
    have HGd := Lib.hid hgd
    rw [if_pos rfl] at HS
    have hc0 : w4.cell? ⟨g5, 0, none⟩ = some (.int .i64 k) := by rw [HB4.out.cell 0, ← HCx.out]; rfl
    have hc2 : w4.cell? ⟨g5, 2, none⟩ = some (.int .i64 rf) := by rw [HB4.out.cell 2, ← HCx.out]; rfl
    have hf2 := HB4.out.frozen 2
    have HIn := Lib.hid hin
    obtain ⟨r1, hr1⟩ : ∃ r1, rf - 1 = r1 := ⟨_, rfl⟩
    have hw1 : wrap64 (rf - 1) = r1 := by rw [← IntWalk.i64_left, IntKind.wrap_i64]; omega
    have hw2 : IntKind.i64.wrap (rf - 1) = r1 := by rw [IntKind.wrap_i64]; omega
    have HR1 := Lib.hid hr1
    clear hr1 hgd hin
    go_upto_region 6 with fail
    have T6 := Lib.hid (T4.out.st H.out HB4.out (by decide) hsz ((Keep.refl _ w4).setCell ⟨g5, 2, none⟩ (.int .i64 r1) (fun _ => rfl)))
    have hb6 : Blk (w4.setCell ⟨g5, 2, none⟩ (.int .i64 r1)) g5 64 (ints [k, pi, r1, fl]) := by
      rw [show ints [k, pi, r1, fl] = cx.set 2 (.int .i64 r1) by rw [← HCx.out]; rfl]
      exact HB4.out.setCell 2 _
    clear hc0 hc2 hf2 hw1 hw2
    generalize w4.setCell ⟨g5, 2, none⟩ (.int .i64 r1) = w6 at *
    have q0 : w6.cell? ⟨g5, 0, none⟩ = some (.int .i64 k) := hb6.cell 0
    have q2 : w6.cell? ⟨g5, 2, none⟩ = some (.int .i64 r1) := hb6.cell 2
    have HB6 := Lib.hid hb6
    have HC6 := Lib.hid (cellsI (n := 4) (l := [k, pi, r1, fl]) rfl)
    clear hb6
    obtain ⟨c6, hc6⟩ : ∃ c6, ints [k, pi, r1, fl] = c6 := ⟨_, rfl⟩
    rw [hc6] at HB6 HC6
    have HC6e := Lib.hid hc6
    clear hc6
    by_cases hr : 0 < r1
    · have hs := HS.out
      rw [if_pos (by have := HR1.out; omega), HR1.out] at hs
      obtain ⟨rfl, rfl⟩ := Prod.mk.inj hs
      clear hs
      have hok : (decide ((S.f f).2 ≠ 2) && Fi.okd [k, pi, r1, fl]) = true := by
        rw [HV.out, ← HR1.out, Fi_less HGd.out (by have := HR1.out; omega)]
        rfl
      have hset := fun K' (hK : Ks F n w6 K' C src S) => ssetFile_is hK f HF.out [k, pi, r1, fl] rfl true hok
      rw [HC6e.out] at hset
      have HSet := Lib.hid hset
      clear hok hset
      go_wp2_with (refine flatF.wpList_ld rfl rfl rfl HC6.out HB6.out ?_)
      refine (T6.out.go HSet.out).mono ?_; rintro e w7 ⟨rfl, T7, _⟩
      have HT7 := Lib.hid T7
      clear T7
      go_wp2_with fail
      refine (errno_is _ _).mono ?_; rintro e w8 ⟨rfl, rfl⟩
      go_wp2
      go_ret
      exact ⟨rfl, HT7.out⟩
    · have HIf := Lib.hid (show ¬ 1 < rf by have := HR1.out; omega)
      rw [if_neg HIf.out] at HS
      have HOk2 := Lib.hid (show decide ((S.f f).2 ≠ 2) = true by rw [HV.out]; rfl)
      go_wp2_with fail
      refine (T6.out.go (fun K' hK => sfreeFile_is hK f HF.out true HOk2.out)).mono ?_; rintro e w7 ⟨rfl, T7, kp7⟩
      have HT7 := Lib.hid (show Kt F n w K C src (S.frF f) w7 from T7)
      have HB7 := Lib.hid (kp7.lb H.out HB6.out hsz)
      have q7 : w7.cell? ⟨g5, 0, none⟩ = some (.int .i64 k) := by rw [HB7.out.cell 0, ← HC6e.out]; rfl
      clear T7 kp7 q0 q2
      by_cases hk : k = 3
      · have hs := HS.out
        rw [if_pos hk] at hs
        obtain ⟨rfl, rfl⟩ := Prod.mk.inj hs
        clear hs
        subst hk
        go_wp2
        go_ret
        exact ⟨rfl, HT7.out⟩
      · have hs := HS.out
        rw [if_neg hk] at hs
        obtain ⟨S2, ok, hsh⟩ : ∃ S2 ok, shutS (S.frF f) k pi = (S2, ok) := ⟨_, _, rfl⟩
        rw [hsh] at hs
        obtain ⟨rfl, rfl⟩ := Prod.mk.inj hs
        have hcl := fun K' (hK : Ks F n w7 K' C src (S.frF f)) => shut_is hK k pi r1 fl (by have := HIn.out; unfold Cd.Wf; omega) S2 ok hsh
        rw [HC6e.out] at hcl
        have HCl := Lib.hid hcl
        clear hs hsh hcl
        go_wp2_with (refine flatF.wpList_ld rfl rfl rfl HC6.out HB7.out ?_)
        refine (HT7.out.go HCl.out).mono ?_; rintro e w8 ⟨rfl, T8, _⟩
        have HT8 := Lib.hid T8
        clear T8
        go_wp2_with fail
        refine (errno_is _ _).mono ?_; rintro e w9 ⟨rfl, rfl⟩
        go_wp2
        go_ret
        exact ⟨rfl, HT8.out⟩
  · have hs := HS.out
    rw [if_neg hd] at hs
    obtain ⟨rfl, rfl⟩ := Prod.mk.inj hs
    clear hs
    go_wp2_with fail
    go_ret
    exact ⟨rfl, T4.out⟩
end
end Go.Proofs.YtgcikpgcoemfnaaGreat.Pr
namespace Go.Proofs.YtgcikpgcoemfnaaGreat.Pr
open Go.RowKit Co
set_option linter.unusedVariables false
set_option linter.unusedSimpArgs false
/-- All that these descriptors name is closed. -/
def clS (S : Stt) (fds : List Int) : Stt := fds.foldl (fun s fd => if 0 < fd then (closeS s (fd - 1)).1 else s) S
/-- A process without descriptors. -/
def bare (v : List Int) : List Int := v.take 8 ++ List.replicate 8 0
def closeAllS (S : Stt) (i : Int) : Stt :=
  if (S.p i).2 = 1 then (if Cd.okd (bare (S.p i).1) then (clS S ((S.p i).1.drop 8)).setP i (bare (S.p i).1) else clS S ((S.p i).1.drop 8)) else S
theorem shutS_p (S : Stt) (k i : Int) : (shutS S k i).1.p = S.p := by
  unfold shutS
  split
  · split <;> rfl
  · rfl
theorem closeS_p (S : Stt) (f : Int) : (closeS S f).1.p = S.p := by
  unfold closeS
  split
  · split
    · rfl
    · split
      · rfl
      · exact shutS_p _ _ _
  · rfl
theorem clS_p (fds : List Int) : ∀ S : Stt, (clS S fds).p = S.p := by
  unfold clS
  induction fds with
  | nil => intro S; rfl
  | cons x l ih =>
    intro S
    rw [List.foldl_cons, ih]
    split
    · exact closeS_p _ _
    · rfl
theorem clS_succ (S : Stt) {fds : List Int} {k : Nat} {fd : Int} (h : fds[k]? = some fd) : clS S (fds.take (k + 1)) = if 0 < fd then (closeS (clS S (fds.take k)) (fd - 1)).1 else clS S (fds.take k) := by
  unfold clS
  rw [List.take_add_one, h, List.foldl_append]
  rfl
theorem flatA8 : Flat 35 8 (ints (List.replicate 8 0)) := ⟨⟨_, Tryz.underlying35, rfl⟩, by kernel_rfl, fun W => by go_simp; rfl, rfl⟩
section
variable {F : List UInt8 → Prop} {n nb : Nat} {src : Src} {bad : List Rf} {xs : List UInt8} {S : Stt}
theorem goodP (h : Sto F n src nb bad xs S) {i : Int} {v : List Int} (hv : S.p i = (v, 1)) : Cd.okd v = true := by
  obtain ⟨_, x, b, _, _, hd⟩ := live (by decide) (h.p i) (by rw [hv]; show (1 : Int) ≠ 2; decide)
  rw [hv] at hd
  exact (Cd.dcd_good hd).2.1
end
theorem bare_len {v : List Int} (h : v.length = 16) : (bare v).length = 16 := by simp [bare, h]
theorem wf_okd {v : List Int} (hl : v.length = 16) (h : Cd.okd v = true) : ∀ x ∈ v, Cd.Wf x := by
  have b := Cd.okd_bounds h
  obtain ⟨a0, a1, a2, a3, a4, a5, a6, a7, f0, f1, f2, f3, f4, f5, f6, f7, rfl⟩ := Cd.split16 hl
  obtain ⟨h0, h1, h2, h3, h4, h5, h6, h7, hf⟩ := b
  simp only [List.getD_cons_zero, List.getD_cons_succ] at h0 h1 h2 h3 h4 h5 h6 h7
  have hf' := fun x hx => hf x (show x ∈ [f0, f1, f2, f3, f4, f5, f6, f7] from hx)
  intro x hx
  simp only [List.mem_cons, List.not_mem_nil, or_false] at hx hf'
  unfold Cd.Wf
  rcases hx with rfl | rfl | rfl | rfl | rfl | rfl | rfl | rfl | hx
  all_goals first | omega | (have := hf' x hx; omega)
theorem wf_bare {v : List Int} (h : ∀ x ∈ v, Cd.Wf x) : ∀ x ∈ bare v, Cd.Wf x := fun x hx => by
  unfold bare at hx
  rcases List.mem_append.1 hx with hx | hx
  · exact h x (List.mem_of_mem_take hx)
  · obtain ⟨_, rfl⟩ := List.mem_replicate.1 hx
    unfold Cd.Wf
    decide
section
variable {F : List UInt8 → Prop} {n : Nat} {w w' w1 : World} {K : Kn} {C : Cm} {src : Src} {S S' S2 : Stt}
set_option maxRecDepth 100000 in
set_option maxHeartbeats 8000000 in
theorem closeAll_is (h : Ks F n w K C src S) (i : Int) (hi : Cd.Wf i) (S' : Stt) (hs : closeAllS S i = S') :
    Calls Tryz.prog 38 #[.pointer (some ⟨C.p, 0, none⟩), .int .i64 i] w fun e w' => e = .returned (.tuple #[]) ∧ Kt F n w K C src S' w' := by
  obtain ⟨v, d, hv⟩ : ∃ v d, S.p i = (v, d) := ⟨_, _, rfl⟩
  have hl := len16 h.s hv
  have HL := Lib.hid hl
  have HGood := Lib.hid (fun e : d = 1 => goodP h.s (show S.p i = (v, 1) by rw [hv, e]))
  have HC := Lib.hid (cellsI hl)
  have HZ2 := Lib.hid (cellsI (n := 16) (l := Cd.noP) rfl)
  have H := Lib.hid h
  have HCall := Lib.hid (fun W K' (hk : Ks F n W K' C src S) => sproc_is hk i hi v d hv)
  have HI := Lib.hid hi
  unfold closeAllS at hs
  rw [hv] at hs
  dsimp only at hs
  have HS := Lib.hid hs
  have HV := Lib.hid hv
  clear h hv hl hs hi
  go_enter Tryz.func38, Tryz.ntmps38
  go_wp2_with fail
  have T0 := H.out.still (Keep.refl Nob w)
  refine (T0.go (fun K' hk => slook_is hk)).mono ?_; rintro e w1 ⟨rfl, T1, kp1⟩
  clear T0 kp1
  go_wp2_with fail
  refine (T1.go (HCall.out _)).mono ?_; rintro e w2 ⟨rfl, T2, kp2⟩
  have HT2 := Lib.hid T2
  have hsz := T2.kp.size
  clear T1 T2 kp2
  go_upto_region 2 with (first
    | (refine flatP.wpList_al rfl rfl ?_; intro w3 hb3 hk3 hs3; clear hs3)
    | (refine flatP.wpList_st rfl rfl rfl rfl HC.out HZ2.out hb3 ?_; intro w4 hb4 hk4 hs4; clear hs4))
  have T4 := Lib.hid ((HT2.out.nob hk3).st H.out hb3 (by decide) hsz hk4)
  have HB4 := Lib.hid hb4
  generalize w2.heap.size = g5 at *
  clear hk3 hb3 hk4 hb4 HT2
  by_cases hd : d = 1
  · subst hd
    have HGd := Lib.hid (HGood.out rfl)
    have HBd := Lib.hid (Cd.okd_bounds HGd.out).f
    rw [if_pos rfl] at HS
    obtain ⟨fds, hfds⟩ : ∃ fds, v.drop 8 = fds := ⟨_, rfl⟩
    have hfl : fds.length = 8 := by rw [← hfds, List.length_drop, HL.out]
    have HFl := Lib.hid hfl
    rw [hfds] at HS HBd
    have HFds := Lib.hid hfds
    have hrng := blk_range HB4.out 8 8
    rw [show ((ints v).drop 8).take 8 = ints fds by rw [← hfds]; unfold ints; rw [List.map_drop, List.take_of_length_le]; simp [HL.out]] at hrng
    have HRg := Lib.hid hrng
    have HIl := Lib.hid (show (ints fds).length = 8 by simp [ints, hfl])
    clear hfds hrng hfl
    go_upto_region 4 with (refine wpList_load_mid rfl 35 _ rfl g5 8 rfl (ints fds) _ HRg.out Tryz.underlying35 rfl (by rw [HIl.out]; exact flatA8.i) ?_)
    go_loopw [20] (fun s20 wx => ∃ k : Nat, k ≤ 8 ∧ s20 = .int .i64 k ∧ Hid (Kt F n w K C src (clS S (fds.take k)) wx) ∧ Hid (Blk wx g5 37 (ints v))) (fun s20 _ => 8 - (intOf s20).toNat)
    case atStart => exact ⟨0, Nat.zero_le _, rfl, T4, HB4⟩
    case round =>
      obtain ⟨k, hk, rfl, HT, HB⟩ := hrel
      by_cases hlt : (k : Int) < 8
      · have hix := fun W => Cd.index8 fds HFl.out k (by omega) W
        obtain ⟨fd, hfd⟩ : ∃ fd, fds.getD k 0 = fd := ⟨_, rfl⟩
        have hgk : fds[k]? = some fd := by
          rw [← hfd, List.getD_eq_getElem?_getD, List.getElem?_eq_getElem (by rw [HFl.out]; omega)]
          rfl
        have hbd := HBd.out fd (List.mem_of_getElem? hgk)
        have HSuc := Lib.hid (clS_succ S hgk)
        rw [hfd] at hix
        clear hfd hgk
        by_cases hz : 0 < fd
        · have hw1 : wrap64 (fd - 1) = fd - 1 := by rw [← IntWalk.i64_left, IntKind.wrap_i64]; omega
          have hwf : Cd.Wf (fd - 1) := by unfold Cd.Wf; omega
          rw [if_pos hz] at HSuc
          obtain ⟨S5, er5, h5⟩ : ∃ S5 er5, closeS (clS S (fds.take k)) (fd - 1) = (S5, er5) := ⟨_, _, rfl⟩
          have HCl := Lib.hid (fun K' (hK : Ks F n wr K' C src (clS S (fds.take k))) => close_is hK (fd - 1) hwf S5 er5 h5)
          rw [h5] at HSuc
          clear h5
          clear hwf
          go_wp2_with fail
          refine (HT.out.go HCl.out).mono ?_; rintro e w5 ⟨rfl, T5, kp5⟩
          have HT5 := Lib.hid (show Kt F n w K C src (clS S (fds.take (k + 1))) w5 by rw [HSuc.out]; exact T5)
          have HB5 := Lib.hid (kp5.lb H.out HB.out hsz)
          clear T5 kp5 hix hw1 hz hbd
          go_wp2_with fail
          go_roundw
          case rel => exact ⟨k + 1, by omega, by go_num, HT5, HB5⟩
          case measure => simp [intOf]; omega
        · rw [if_neg hz] at HSuc
          have HT5 := Lib.hid (show Kt F n w K C src (clS S (fds.take (k + 1))) wr by rw [HSuc.out]; exact HT.out)
          go_wp2_with fail
          go_roundw
          case rel => exact ⟨k + 1, by omega, by go_num, HT5, HB⟩
          case measure => simp [intOf]; omega
      · have HT8 := Lib.hid (show Kt F n w K C src (clS S fds) wr by
          have := HT.out
          rw [List.take_of_length_le (by rw [HFl.out]; omega)] at this
          exact this)
        have HZ8 := Lib.hid (cellsI (n := 8) (l := List.replicate 8 0) rfl)
        have HCb := Lib.hid (cellsI (bare_len HL.out))
        go_upto_region 10 with (refine flatA8.wpList_stm (off := 8) rfl rfl rfl rfl HZ8.out HB.out (by simp [ints, HL.out]) ?_; intro w6 hb6 hk6 hs6; clear hs6)
        have HB6 := Lib.hid (show Blk w6 g5 37 (ints (bare v)) by
          have e : ints (bare v) = splice (ints v) 8 (ints (List.replicate 8 0)) := by
            obtain ⟨a0, a1, a2, a3, a4, a5, a6, a7, f0, f1, f2, f3, f4, f5, f6, f7, rfl⟩ := Cd.split16 HL.out
            rfl
          rw [e]
          exact hb6)
        have T6 := Lib.hid (HT8.out.st H.out HB.out (by decide) hsz hk6)
        clear hb6 hk6
        have HSt := Lib.hid (fun K' (hK : Ks F n w6 K' C src (clS S fds)) => ssetProc_is hK i HI.out (bare v) (bare_len HL.out) (wf_bare (wf_okd HL.out HGd.out)) (Cd.okd (bare v)) (by rw [clS_p, HV.out]; rfl))
        go_wp2_with (refine flatP.wpList_ld rfl rfl rfl HCb.out HB6.out ?_)
        refine (T6.out.go HSt.out).mono ?_; rintro e w7 ⟨rfl, T7, _⟩
        rw [HS.out] at T7
        have HT7 := Lib.hid T7
        clear T7
        go_wp2
        refine bodyPost_end (results_none rfl _ _ _) rfl ?_
        exact ⟨rfl, HT7.out⟩
  · have hs := HS.out
    rw [if_neg hd] at hs
    subst hs
    go_wp2_with fail
    refine bodyPost_ret (results_none rfl _ _ _) rfl ?_
    exact ⟨rfl, T4.out⟩
end
end Go.Proofs.YtgcikpgcoemfnaaGreat.Pr
