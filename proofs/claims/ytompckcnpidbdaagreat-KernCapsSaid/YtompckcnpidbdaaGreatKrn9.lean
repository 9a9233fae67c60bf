/- What a kernel does with its regions, Caps, frames and Sects: the callees' contracts over a kernel; worlds of a row of new blocks. -/
import Derived.Test.YtompckcnpidbdaaGreatKrn7
import Derived.Test.YtompckcnpidbdaaGreatKrn8
namespace Go.Proofs.YtompckcnpidbdaaGreat
open Go.RowKit
set_option linter.unusedVariables false
set_option linter.unusedSimpArgs false
/-- A world with a row of new blocks. -/
def mkw (w : World) (l : List (TypeId × List Value)) : World := l.foldl (fun w x => w.alloc (.cells x.2.toArray x.1)) w
theorem mkw_cons (w : World) (x : TypeId × List Value) (l : List (TypeId × List Value)) : mkw w (x :: l) = mkw (w.alloc (.cells x.2.toArray x.1)) l := rfl
theorem mkw_keep : ∀ (l : List (TypeId × List Value)) (w : World), Keep Nob w (mkw w l)
  | [], w => Keep.refl _ _
  | x :: l, w => ((Keep.refl Nob w).alloc _).trans (mkw_keep l _) (fun _ _ f => f)
theorem mkw_blk : ∀ (l : List (TypeId × List Value)) (w : World) (i : Nat) (t : TypeId) (cs : List Value), l[i]? = some (t, cs) → Blk (mkw w l) (w.heap.size + i) t cs
  | [], w, i, t, cs, h => by simp at h
  | x :: l, w, 0, t, cs, h => by
    simp at h
    subst h
    rw [mkw_cons]
    have := (Blk.new w t cs).nob (mkw_keep l _)
    simpa using this
  | x :: l, w, i + 1, t, cs, h => by
    have := mkw_blk l (w.alloc (.cells x.2.toArray x.1)) i t cs (by simpa using h)
    rw [mkw_cons]
    have e : (w.alloc (.cells x.2.toArray x.1)).heap.size = w.heap.size + 1 := by simp
    rw [e, Nat.add_assoc, Nat.add_comm 1 i] at this
    exact this
theorem mkw_reads {l : List (TypeId × List Value)} {w : World} (i : Nat) {t : TypeId} {cs : List Value} (h : l[i]? = some (t, cs)) (n : Nat) (hn : cs.length = n) : Reads (mkw w l) (some ⟨w.heap.size + i, 0, none⟩) n cs := reads_all (mkw_blk l w i t cs h) hn
section
variable {w w' : World} {K : Kn}
theorem stay_xs (K : Kn) (ys : List UInt8) : Stay (fun K' => K' = { K with xs := ys }) K := fun K' h => by subst h; exact ⟨rfl, rfl, rfl, rfl⟩
theorem stay_T (K : Kn) (T : St) : Stay (fun K' => K' = { K with T := T }) K := fun K' h => by subst h; exact ⟨rfl, rfl, rfl, rfl⟩
theorem stay_b (K : Kn) (b : Nat → List Bool) : Stay (fun K' => K' = { K with bq := b }) K := fun K' h => by subst h; exact ⟨rfl, rfl, rfl, rfl⟩
theorem stay_same (K : Kn) : Stay (fun K' => K' = K) K := fun K' h => by subst h; exact ⟨rfl, rfl, rfl, rfl⟩
theorem k_read (h : IsKn w K) (i : Nat) (hi : i < K.envs.length) (cap at_ to_ on : Int) (A : Option Addr) (m c : Nat) (k a : Nat) (hv : Reach K.T K.envs.length K.L i cap 1 at_ k a 0) (ys : List UInt8) (hy : (K.xs.drop a).take k = ys) (n : Int) (hn : n = k) :
    Calls Tryz.prog 10 #[.pointer (some ⟨K.k, 0, none⟩), .int .i64 i, Calc 1 cap at_ n to_ on A m c] w fun e w' => ∃ A' c', e = .returned (.agg #[.int .i64 0, .int .i64 0, .slice A' k c']) ∧ Reads w' A' k (bytes ys) ∧ (∀ ad, A' = some ad → w.heap.size ≤ ad.block) ∧ To w K K w' := by
  subst hn
  refine do_read h i hi cap at_ k to_ on A m c 0 k ys (fun W kk => ?_)
  refine (read_yes (h.nob kk).reg hv).mono ?_
  have hr := hv.range h.reg
  have hl : ((K.xs.drop a).take k).length = k := by simp; omega
  rintro e w2 ⟨g, rfl, hb, hg, k2⟩
  rw [hy] at hb hl ⊢
  rw [hl]
  exact ⟨_, _, rfl, reads_all hb (by simp [hl]), fun ad e => (by cases e; exact hg), k2⟩
theorem k_read_no (h : IsKn w K) (i : Nat) (hi : i < K.envs.length) (cap at_ n to_ on : Int) (A : Option Addr) (m c : Nat) {v : Int} (er : Int) (hv : Reach K.T K.envs.length K.L i cap 1 at_ n v er) (he : er ≠ 0) :
    Calls Tryz.prog 10 #[.pointer (some ⟨K.k, 0, none⟩), .int .i64 i, Calc 1 cap at_ n to_ on A m c] w fun e w' => ∃ A' c', e = .returned (.agg #[.int .i64 er, .int .i64 0, .slice A' 0 c']) ∧ To w K K w' := by
  refine (do_read h i hi cap at_ n to_ on A m c er 0 [] (fun W kk => (read_no (h.nob kk).reg hv he).mono ?_)).mono ?_
  · rintro e w2 ⟨rfl, k2⟩
    exact ⟨none, 0, rfl, Reads.nil_ _ _, fun ad e => (by cases e), k2⟩
  · rintro e w2 ⟨A', c', rfl, _, _, t⟩
    exact ⟨A', c', rfl, t⟩
theorem k_write (h : IsKn w K) (i : Nat) (hi : i < K.envs.length) (cap at_ n to_ on : Int) (A : Option Addr) (m c : Nat) (a : Nat) (bs : List UInt8) (hv : Reach K.T K.envs.length K.L i cap 2 at_ m a 0) (hb : Reads w A m (bytes bs)) (ys : List UInt8) (hy : splice K.xs a bs = ys) :
    Calls Tryz.prog 10 #[.pointer (some ⟨K.k, 0, none⟩), .int .i64 i, Calc 2 cap at_ n to_ on A m c] w fun e w' => e = .returned (.agg #[.int .i64 0, .int .i64 0, .slice none 0 0]) ∧ To w K { K with xs := ys } w' := by
  refine (do_write h i hi cap at_ n to_ on A m c _ (stay_xs K ys) 0 (fun ss hs W kk => (write_yes (h.nob kk).reg hv (hb.nob kk)).mono ?_)).mono ?_
  · rintro e w2 ⟨rfl, hR, k2⟩
    rw [hy] at hR
    exact ⟨rfl, _, rfl, (h.nob kk).bytes hR k2⟩
  · rintro e w2 ⟨rfl, K', rfl, t⟩
    exact ⟨rfl, t⟩
theorem k_write_no (h : IsKn w K) (i : Nat) (hi : i < K.envs.length) (cap at_ n to_ on : Int) (A : Option Addr) (m c : Nat) {v : Int} (er : Int) (hv : Reach K.T K.envs.length K.L i cap 2 at_ m v er) (he : er ≠ 0) :
    Calls Tryz.prog 10 #[.pointer (some ⟨K.k, 0, none⟩), .int .i64 i, Calc 2 cap at_ n to_ on A m c] w fun e w' => e = .returned (.agg #[.int .i64 er, .int .i64 0, .slice none 0 0]) ∧ To w K K w' := by
  refine (do_write h i hi cap at_ n to_ on A m c _ (stay_same K) er (fun ss hs W kk => (write_no (h.nob kk).reg hv he).mono ?_)).mono ?_
  · rintro e w2 ⟨rfl, k2⟩
    exact ⟨rfl, _, rfl, To.still (h.nob kk) k2⟩
  · rintro e w2 ⟨rfl, K', rfl, t⟩
    exact ⟨rfl, t⟩
theorem k_alloc (h : IsKn w K) (i : Nat) (hi : i < K.envs.length) (cap at_ n to_ on : Int) (A : Option Addr) (m c : Nat) (ss : Int) (hs : K.envs.getD i 0 = ss) (v er : Int) (b' : Nat → List Bool) (hal : Qu.al K.ns.length K.bq ss = (v, er, b')) :
    Calls Tryz.prog 10 #[.pointer (some ⟨K.k, 0, none⟩), .int .i64 i, Calc 6 cap at_ n to_ on A m c] w fun e w' => e = .returned (.agg #[.int .i64 er, .int .i64 v, .slice none 0 0]) ∧ To w K { K with bq := b' } w' := by
  refine (do_alloc h i hi cap at_ n to_ on A m c (fun K' => K' = { K with bq := b' }) v er (fun s2 hs2 W kk => ?_)).mono ?_
  · obtain rfl : s2 = ss := hs2.symm.trans hs
    refine (Qu.alloc_is (h.nob kk).quo s2 v er b' hal).mono ?_
    rintro e w2 ⟨rfl, hQ, k2⟩
    exact ⟨rfl, _, rfl, (h.nob kk).frames hQ k2⟩
  · rintro e w2 ⟨rfl, K', rfl, t⟩
    exact ⟨rfl, t⟩
theorem k_free (h : IsKn w K) (i : Nat) (hi : i < K.envs.length) (cap at_ n to_ on : Int) (A : Option Addr) (m c : Nat) (ss : Int) (hs : K.envs.getD i 0 = ss) (er : Int) (b' : Nat → List Bool) (hfr : Qu.fr K.ns.length K.bq ss n = (er, b')) :
    Calls Tryz.prog 10 #[.pointer (some ⟨K.k, 0, none⟩), .int .i64 i, Calc 7 cap at_ n to_ on A m c] w fun e w' => e = .returned (.agg #[.int .i64 er, .int .i64 0, .slice none 0 0]) ∧ To w K { K with bq := b' } w' := by
  refine (do_free h i hi cap at_ n to_ on A m c _ (stay_b K b') er (fun s2 hs2 W kk => ?_)).mono ?_
  · obtain rfl : s2 = ss := hs2.symm.trans hs
    refine (Qu.free_is (h.nob kk).quo s2 n er b' hfr).mono ?_
    rintro e w2 ⟨rfl, hQ, k2⟩
    exact ⟨rfl, _, rfl, (h.nob kk).frames hQ k2⟩
  · rintro e w2 ⟨rfl, K', rfl, t⟩
    exact ⟨rfl, t⟩
theorem k_enter_no (h : IsKn w K) (i : Nat) (hi : i < K.envs.length) (cap at_ n to_ on : Int) (A : Option Addr) (m c : Nat) (ss : Int) (hs : K.envs.getD i 0 = ss) (hv : May K ss n false) :
    Calls Tryz.prog 10 #[.pointer (some ⟨K.k, 0, none⟩), .int .i64 i, Calc 8 cap at_ n to_ on A m c] w fun e w' => e = .returned (.agg #[.int .i64 8, .int .i64 0, .slice none 0 0]) ∧ To w K K w' := by
  refine (do_enter h i hi cap at_ n to_ on A m c (fun K' => K' = K) 0 8 (fun W kk => (enter_no (h.nob kk) i hi ss hs n hv).mono ?_)).mono ?_
  · rintro e w2 ⟨rfl, k2⟩
    exact ⟨rfl, _, rfl, To.still (h.nob kk) k2⟩
  · rintro e w2 ⟨rfl, K', rfl, t⟩
    exact ⟨rfl, t⟩
theorem k_enter (h : IsKn w K) (i : Nat) (hi : i < K.envs.length) (cap at_ n to_ on : Int) (A : Option Addr) (m c : Nat) (ss : Int) (hs : K.envs.getD i 0 = ss) (j : Nat) (hj : n = j) (G : Gt) (hG : K.gates[j]? = some G) (hm : ss ∈ G.may) (hn : K.now ≤ 9223372036854775807) (hst : G.s.stamps < 4611686018427387904) (v : Int) (b : Bool) (s' : Se.Sec) (hv : G.s.enter i K.now = (v, b, s')) :
    Calls Tryz.prog 10 #[.pointer (some ⟨K.k, 0, none⟩), .int .i64 i, Calc 8 cap at_ n to_ on A m c] w fun e w' => e = .returned (.agg #[.int .i64 0, .int .i64 v, .slice none 0 0]) ∧ ∃ A' c', To w K { K with gates := K.gates.set j { G with A := A', cap := c', s := s' } } w' := by
  subst hj
  refine (do_enter h i hi cap at_ j to_ on A m c (fun K' => ∃ A' c', K' = { K with gates := K.gates.set j { G with A := A', cap := c', s := s' } }) v 0 (fun W kk => (enter_at (h.nob kk) i hi ss hs j G hG hm hn hst v b s' hv).mono ?_)).mono ?_
  · rintro e w2 ⟨rfl, A', c', t⟩
    exact ⟨rfl, _, ⟨A', c', rfl⟩, t⟩
  · rintro e w2 ⟨rfl, K', ⟨A', c', rfl⟩, t⟩
    exact ⟨rfl, A', c', t⟩
theorem k_leave_no (h : IsKn w K) (i : Nat) (hi : i < K.envs.length) (cap at_ n to_ on : Int) (A : Option Addr) (m c : Nat) (ss : Int) (hs : K.envs.getD i 0 = ss) (hv : May K ss n false) :
    Calls Tryz.prog 10 #[.pointer (some ⟨K.k, 0, none⟩), .int .i64 i, Calc 9 cap at_ n to_ on A m c] w fun e w' => e = .returned (.agg #[.int .i64 8, .int .i64 0, .slice none 0 0]) ∧ To w K K w' := by
  refine (do_leave h i hi cap at_ n to_ on A m c (fun K' => K' = K) 0 8 (fun W kk => (leave_no (h.nob kk) i hi ss hs n at_ hv).mono ?_)).mono ?_
  · rintro e w2 ⟨rfl, k2⟩
    exact ⟨rfl, _, rfl, To.still (h.nob kk) k2⟩
  · rintro e w2 ⟨rfl, K', rfl, t⟩
    exact ⟨rfl, t⟩
theorem k_leave (h : IsKn w K) (i : Nat) (hi : i < K.envs.length) (cap at_ n to_ on : Int) (A : Option Addr) (m c : Nat) (ss : Int) (hs : K.envs.getD i 0 = ss) (j : Nat) (hj : n = j) (G : Gt) (hG : K.gates[j]? = some G) (hm : ss ∈ G.may) (v : Bool) (s' : Se.Sec) (hv : G.s.leave i at_ = (v, s')) (er : Int) (he : (if v then 0 else 8) = er) :
    Calls Tryz.prog 10 #[.pointer (some ⟨K.k, 0, none⟩), .int .i64 i, Calc 9 cap at_ n to_ on A m c] w fun e w' => e = .returned (.agg #[.int .i64 er, .int .i64 0, .slice none 0 0]) ∧ To w K { K with gates := K.gates.set j { G with s := s' } } w' := by
  subst hj
  refine (do_leave h i hi cap at_ j to_ on A m c (fun K' => K' = { K with gates := K.gates.set j { G with s := s' } }) 0 er (fun W kk => (leave_at (h.nob kk) i hi ss hs j G hG hm at_ v s' hv er he).mono ?_)).mono ?_
  · rintro e w2 ⟨rfl, t⟩
    exact ⟨rfl, _, rfl, t⟩
  · rintro e w2 ⟨rfl, K', rfl, t⟩
    exact ⟨rfl, t⟩
theorem k_grant_noright (h : IsKn w K) (i : Nat) (hi : i < K.envs.length) (cap at_ n to_ on : Int) (A : Option Addr) (m cc : Nat) (c : Cp) (hc : Has K.T K.envs.length ((i : Int), cap) c) (hno : ¬ (sub 4 c.rights = true ∧ sub on c.rights = true)) :
    Calls Tryz.prog 10 #[.pointer (some ⟨K.k, 0, none⟩), .int .i64 i, Calc 4 cap at_ n to_ on A m cc] w fun e w' => e = .returned (.agg #[.int .i64 3, .int .i64 0, .slice none 0 0]) ∧ To w K K w' := by
  refine (do_grant h i hi cap at_ n to_ on A m cc _ (stay_same K) 0 3 (fun W kk => (grant_noright (h.nob kk).reg.sp c hc hno).mono ?_)).mono ?_
  · rintro e w2 ⟨rfl, k2⟩
    exact ⟨rfl, _, rfl, To.still (h.nob kk) k2⟩
  · rintro e w2 ⟨rfl, K', rfl, t⟩
    exact ⟨rfl, t⟩
theorem Kf.kn0 {w W : World} (k : Keep Nob w W) (h : Kf W w' K) : Kn0 w w' K :=
  ⟨h.is, fun x hx => Nat.le_trans k.size (h.mine x hx), (k.mono (fun _ _ f => f.elim)).trans h.keep (fun _ _ f => f.elim)⟩
end
end Go.Proofs.YtompckcnpidbdaaGreat
