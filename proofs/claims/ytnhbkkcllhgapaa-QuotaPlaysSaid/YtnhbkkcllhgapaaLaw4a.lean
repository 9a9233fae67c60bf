/- The walks of the statements of layer 4 (quota): what each needs of awake; QuotaApart. -/
import Derived.Test.YtnhbkkcllhgapaaQuoN
namespace Go.Proofs.Ytnhbkkcllhgapaa
open Go.RowKit
set_option linter.unusedVariables false
set_option linter.unusedSimpArgs false
/-- A Quota that a call has made, with its calls. -/
structure Q0 (w0 w : World) (p : Nat) (A : Option Addr) (cap : Nat) (g : Nat → Nat) (ns : List Nat) (b : Nat → List Bool) : Prop where
  q : Quo w p A cap g ns b
  lo : ∀ i, i < ns.length → w0.heap.size ≤ g i
  keep : Keep (From w0.heap.size) w0 w
section
variable {w0 w w' : World} {p : Nat} {A : Option Addr} {cap : Nat} {g : Nat → Nat} {ns : List Nat} {b : Nat → List Bool}
theorem Q0.nob (h : Q0 w0 w p A cap g ns b) (k : Keep Nob w w') : Q0 w0 w' p A cap g ns b := ⟨h.q.nob k, h.lo, h.keep.nob k⟩
theorem Q0.rows (h : Q0 w0 w p A cap g ns b) (k : Keep (Rw ns.length g) w w') : Keep (From w0.heap.size) w0 w' := h.keep.from_ k (fun x ⟨i, hi, e⟩ => e ▸ h.lo i hi)
theorem Q0.alloc (h : Q0 w0 w p A cap g ns b) (s v er : Int) (b' : Nat → List Bool) (hal : al ns.length b s = (v, er, b')) :
    Calls Try.prog 9 #[.pointer (some ⟨p, 0, none⟩), .int .i64 s] w fun e w' => e = .returned (.tuple #[.int .i64 v, .int .i64 er]) ∧ Q0 w0 w' p A cap g ns b' ∧ Keep (Rw ns.length g) w w' :=
  (alloc_is h.q s v er b' hal).mono fun e w' ⟨he, hq, hk⟩ => ⟨he, ⟨hq, h.lo, h.rows hk⟩, hk⟩
theorem Q0.free (h : Q0 w0 w p A cap g ns b) (s k er : Int) (b' : Nat → List Bool) (hfr : fr ns.length b s k = (er, b')) :
    Calls Try.prog 11 #[.pointer (some ⟨p, 0, none⟩), .int .i64 s, .int .i64 k] w fun e w' => e = .returned (.int .i64 er) ∧ Q0 w0 w' p A cap g ns b' ∧ Keep (Rw ns.length g) w w' :=
  (free_is h.q s k er b' hfr).mono fun e w' ⟨he, hq, hk⟩ => ⟨he, ⟨hq, h.lo, h.rows hk⟩, hk⟩
theorem q0_new {A0 : Option Addr} {n0 c0 : Nat} {xs : List Int} (hx : Reads w A0 n0 (ints xs)) (h0 : n0 ≤ c0) (ns : List Nat) (hns : sizes xs = ns) (hk : Keep (From w0.heap.size) w0 w) :
    Calls Try.prog 7 #[.slice A0 n0 c0] w fun e w' => ∃ p A cap g, e = .returned (.pointer (some ⟨p, 0, none⟩)) ∧ Q0 w0 w' p A cap g ns (fun i => List.replicate (ns.getD i 0) false) ∧ (∀ i, i < ns.length → w.heap.size ≤ g i) ∧ Keep Nob w w' :=
  (new_is hx h0 ns hns).mono fun e w' ⟨p, A, cap, g, he, hq, hlo, hkn⟩ => ⟨p, A, cap, g, he, ⟨hq, fun i hi => by have := hlo i hi; have := hk.size; omega, hk.nob hkn⟩, hlo, hkn⟩
end
set_option maxHeartbeats 2000000 in
theorem awake_true (w : World) : Calls Try.prog 6 #[] w fun e w' => e = .returned (.bool true) ∧ Keep Nob w w' := by
  have k0 := (Keep.refl Nob w).alloc (.cells #[.int .i64 3, .int .i64 2] 3)
  have hx : Reads (w.alloc (.cells #[.int .i64 3, .int .i64 2] 3)) (some ⟨w.heap.size, 0, none⟩) 2 (ints [3, 2]) := reads_all (Blk.new w 3 [.int .i64 3, .int .i64 2]) rfl
  go_enter Try.func6, Try.ntmps6
  go_wp2_with fail
  refine (new_is hx (Nat.le_refl _) [3, 2] rfl).mono ?_; rintro e w1 ⟨p, A, cap, g, rfl, h1, lo1, k1⟩
  go_wp2_with fail
  refine (alloc_is h1 1 0 0 _ rfl).mono ?_; rintro e w2 ⟨rfl, h2, k2⟩
  go_wp2_with fail
  refine (frame_yes h2 1 0 (by decide) (by decide) (by decide) 3 (by decide)).mono ?_; rintro e w3 ⟨rfl, rfl⟩
  go_wp2_with fail
  refine (alloc_is h2 2 0 1 _ rfl).mono ?_; rintro e w4 ⟨rfl, h4, k4⟩
  go_wp2_with fail
  refine (used_is h4 1 1 (by decide)).mono ?_; rintro e w5 ⟨rfl, rfl⟩
  go_wp2
  go_ret
  exact ⟨rfl, (k0.nobt k1).trans (k2.trans k4 (fun _ _ m => m)) (fun x hx ⟨i, hi, e⟩ => by have := lo1 i hi; have := k0.size; omega)⟩
/-- QuotaApart: s sessions are full, the next one has k. -/
def fill (ns : List Nat) (s k : Nat) : Nat → List Bool := fun i => if i < s then List.replicate (ns.getD i 0) true else if i = s then List.replicate k true ++ List.replicate (ns.getD i 0 - k) false else List.replicate (ns.getD i 0) false
theorem fill_start (ns : List Nat) : (fun i => List.replicate (ns.getD i 0) false) = fill ns 0 0 := by
  funext i
  unfold fill
  by_cases e : i = 0
  · simp [e]
  · simp [e]
theorem fill_next (ns : List Nat) (s k : Nat) (h : ns.getD s 0 = k) : fill ns s k = fill ns (s + 1) 0 := by
  funext i
  unfold fill
  by_cases h1 : i < s
  · rw [if_pos h1, if_pos (by omega)]
  · rw [if_neg h1]
    by_cases h2 : i = s
    · rw [if_pos h2, if_pos (by omega), h2, h]; simp
    · rw [if_neg h2, if_neg (by omega)]
      by_cases h3 : i = s + 1
      · rw [if_pos h3]; simp
      · rw [if_neg h3]
theorem idx_rep (k : Nat) (l : List Bool) : (List.replicate k true ++ l).idxOf false = k + l.idxOf false := by
  induction k with
  | zero => simp
  | succ k ih => rw [List.replicate_succ, List.cons_append, List.idxOf_cons]; simp [ih]; omega
theorem fill_at (ns : List Nat) (s k : Nat) : fill ns s k s = List.replicate k true ++ List.replicate (ns.getD s 0 - k) false := by
  unfold fill
  rw [if_neg (Nat.lt_irrefl _), if_pos rfl]
theorem al_more {ns : List Nat} {s k n : Nat} (hs : s < n) (hk : k < ns.getD s 0) : al n (fill ns s k) s = (((k : Nat) : Int), 0, fill ns s (k + 1)) := by
  unfold al
  rw [if_pos ⟨by omega, by omega⟩, Int.toNat_natCast, fill_at, idx_rep]
  obtain ⟨d, hd⟩ : ∃ d, ns.getD s 0 = k + d + 1 := ⟨ns.getD s 0 - k - 1, by omega⟩
  rw [show ns.getD s 0 - k = d + 1 from by omega, List.replicate_succ]
  rw [if_pos (by simp)]
  simp only [List.idxOf_cons_self, Nat.add_zero, Prod.mk.injEq, true_and]
  funext i
  unfold up fill
  by_cases e : i = s
  · subst e
    rw [if_pos rfl, if_neg (Nat.lt_irrefl _), if_pos rfl, hd, show k + d + 1 - (k + 1) = d from by omega]
    rw [List.set_append_right _ _ (by simp)]
    simp [List.replicate_succ']
  · rw [if_neg e, if_neg e, if_neg e]
theorem al_full {ns : List Nat} {s k n : Nat} (hs : s < n) (hk : ns.getD s 0 = k) : al n (fill ns s k) s = (0, 4, fill ns (s + 1) 0) := by
  unfold al
  rw [if_pos ⟨by omega, by omega⟩, Int.toNat_natCast, fill_at, idx_rep, hk, Nat.sub_self]
  rw [if_neg (by simp), fill_next ns s k hk]
theorem fill_get {ns : List Nat} {s k : Nat} : k < (fill ns s (k + 1) s).length ∧ (fill ns s (k + 1) s).getD k false = true := by
  rw [fill_at]
  refine ⟨by simp; omega, ?_⟩
  rw [List.getD_eq_getElem?_getD, List.getElem?_append_left (by simp)]
  simp
def seen (m : Nat) : List Value := mk 256 fun i => .bool (decide (i < m))
theorem seen_set {m : Nat} (h : m < 256) : (seen m).set m (.bool true) = seen (m + 1) := mk_set _ (fun j hj => by
  by_cases e : j = m
  · rw [if_pos e]; simp [e]
  · rw [if_neg e]
    congr 1
    simp
    omega)
theorem seen_no {m : Nat} (h : m < 256) : (seen m)[m]? = some (.bool false) := by rw [seen, mk_get h]; simp
theorem seen_at {m i : Nat} (h : i < 256) : (seen m)[i]? = some (.bool (decide (i < m))) := by rw [seen, mk_get h]
theorem Q0.offS {w0 w w' : World} {p : Nat} {A : Option Addr} {cap : Nat} {g : Nat → Nat} {ns : List Nat} {b : Nat → List Bool} {x : Nat} {cs : List Value} (h : Q0 w0 w p A cap g ns b) (hb : Blk w x 4 cs) (hne : ∀ i, i < ns.length → g i ≠ x) (hlo : w0.heap.size ≤ x) (k : Keep (· = x) w w') : Q0 w0 w' p A cap g ns b :=
  ⟨h.q.keep k (h.q.obj.ne_ hb (by decide)) (fun y hy e => by obtain ⟨cur, hc⟩ := h.q.row.blk hy; exact hc.ne_ hb (by decide) e) hne, h.lo, h.keep.at_ k hlo⟩
theorem Q0.off {w0 w w' : World} {p : Nat} {A : Option Addr} {cap : Nat} {g : Nat → Nat} {ns : List Nat} {b : Nat → List Bool} {x : Nat} {t : TypeId} {cs : List Value} (h : Q0 w0 w p A cap g ns b) (hb : Blk w x t cs) (hne : ∀ i, i < ns.length → g i ≠ x) (k : Keep (Rw ns.length g) w w') : Blk w' x t cs :=
  hb.keep k (fun ⟨i, hi, e⟩ => hne i hi e)
theorem infoint : (Try.prog.info? 3).map (fun i => (i.zero, i.size, i.bytes)) = some (some (.int .i64 0), 1, 8) := by kernel_rfl
theorem sizes4 (a b c d : Nat) (ha : a < 64) (hb : b < 64) (hc : c < 64) (hd : d < 64) : sizes [(a : Int), b, c, d] = [a, b, c, d] := by
  simp only [sizes, List.take_succ_cons, List.take_zero, List.map_cons, List.map_nil, List.cons.injEq, and_true]
  exact ⟨by omega, by omega, by omega, by omega⟩
set_option maxRecDepth 100000 in
set_option maxHeartbeats 8000000 in
theorem apart_core (w : World) (a0 a1 a2 a3 : Int) (a b c d : Nat) (ha : bits .and .i64 a0 63 = (a : Int)) (hb : bits .and .i64 a1 63 = (b : Int)) (hc : bits .and .i64 a2 63 = (c : Int)) (hd : bits .and .i64 a3 63 = (d : Int)) (la : a < 64) (lb : b < 64) (lc : c < 64) (ld : d < 64) :
    Calls Try.prog 5 #[.int .i64 a0, .int .i64 a1, .int .i64 a2, .int .i64 a3] w fun e w' => e = .returned (.bool true) ∧ Below w.heap.size w w' := by
  have k0 := (Keep.refl Nob w).alloc (.cells #[.int .i64 a, .int .i64 b, .int .i64 c, .int .i64 d] 3)
  have bL : Blk (w.alloc (.cells #[.int .i64 a, .int .i64 b, .int .i64 c, .int .i64 d] 3)) w.heap.size 3 (ints [(a : Int), b, c, d]) := Blk.new w 3 _
  have hx : Reads (w.alloc (.cells #[.int .i64 a, .int .i64 b, .int .i64 c, .int .i64 d] 3)) (some ⟨w.heap.size, 0, none⟩) 4 (ints [(a : Int), b, c, d]) := reads_all bL rfl
  have hsz := sizes4 a b c d la lb lc ld
  have K0 := (Keep.refl (From w.heap.size) w).nob k0
  have HS := Lib.hid hsz
  clear hsz
  go_enter Try.func5, Try.ntmps5
  go_wp2_with fail
  refine (q0_new hx (Nat.le_refl _) [a, b, c, d] HS.out K0).mono ?_; rintro e w1 ⟨p, A, cap, g, rfl, h1, -, k1⟩
  have bL1 := bL.nob k1
  clear bL hx k0 K0 k1 ha hb hc hd
  rw [fill_start] at h1
  go_wp2_with (refine wpList_mk rfl _ _ 44 rfl 4 (.bool false) 1 Try.underlying44 infobool rfl .i64 .i64 256 _ rfl rfl rfl (by omega) (by omega) ?_; intro w2 hb2 hk2 hs2)
  have hgS : w.heap.size ≤ w1.heap.size := h1.keep.size
  have hne : ∀ i, i < [a, b, c, d].length → g i ≠ w1.heap.size := fun i hi e => by have := (h1.q.tab i hi).lt; omega
  have hneL : ∀ i, i < [a, b, c, d].length → g i ≠ w.heap.size := fun i hi e => (h1.q.tab i hi).ne_ bL1 (by decide) e
  have hLS : w.heap.size ≠ w1.heap.size := by have := bL1.lt; omega
  have q2 := h1.nob hk2
  have L2 := bL1.nob hk2
  have S2 : Blk w2 w1.heap.size 4 (seen (first [a, b, c, d] 0)) := by
    rw [mk_rep] at hb2
    exact hb2
  have hlt64 : ∀ i, i < 4 → [a, b, c, d].getD i 0 < 64 := fun i hi => by
    match i, hi with
    | 0, _ => exact la
    | 1, _ => exact lb
    | 2, _ => exact lc
    | 3, _ => exact ld
  have hcell : ∀ (W : World), Blk W w.heap.size 3 (ints [(a : Int), b, c, d]) → ∀ i, i < 4 → W.cell? ⟨w.heap.size, i, none⟩ = some (.int .i64 ([a, b, c, d].getD i 0 : Nat)) := fun W hW i hi => by
    rw [hW.cell]
    match i, hi with
    | 0, _ => rfl
    | 1, _ => rfl
    | 2, _ => rfl
    | 3, _ => rfl
  have hsum : first [a, b, c, d] 4 = a + b + c + d := by simp [first]; omega
  have HC := Lib.hid hcell
  have HSum := Lib.hid hsum
  have HLt := Lib.hid hlt64
  have HNS : [a, b, c, d].length = 4 := rfl
  clear h1 bL1 hb2 hk2 hs2 hcell hsum hlt64 HS
  generalize hnsd : [a, b, c, d] = ns at *
  generalize w1.heap.size = gS at *
  generalize hgL : w.heap.size = gL at L2 hneL HC hLS
  have HG := Lib.hid (And.intro hnsd hgL)
  clear hnsd hgL
  go_loopw [12] (fun s12 wx => ∃ s : Nat, s ≤ 4 ∧ s12 = .int .i64 s ∧ Q0 w wx p A cap g ns (fill ns s 0) ∧ Blk wx gL 3 (ints [(a : Int), b, c, d]) ∧ Blk wx gS 4 (seen (first ns s))) (fun t _ => 4 - (intOf t).toNat)
  case atStart => exact ⟨0, Nat.zero_le _, rfl, q2, L2, S2⟩
  case round =>
    obtain ⟨s, hs, rfl, hq, hL, hS⟩ := hrel
    clear q2 L2 S2
    by_cases hs4 : s < 4
    · have hfs : first ns s ≤ 64 * s := first_le hq.q.small s (by omega)
      have hn64 := HLt.out s hs4
      have hcn := fun W hW => HC.out W hW s hs4
      have hfs2 := first_succ (ns := ns) (i := s) (by omega)
      have halm := fun k hk => al_more (ns := ns) (s := s) (k := k) (n := ns.length) (by omega) hk
      have half := fun k hk => al_full (ns := ns) (s := s) (k := k) (n := ns.length) (by omega) hk
      generalize ns.getD s 0 = n at *
      have hs4i : (s : Int) < 4 := by omega
      have HCn := Lib.hid hcn
      have HF := Lib.hid hfs2
      have HAM := Lib.hid halm
      have HAF := Lib.hid half
      clear hcn hfs2 halm half
      go_wp2_with fail
      go_loopw [13] (fun t wx => ∃ k : Nat, k ≤ n ∧ t = .int .i64 k ∧ Q0 w wx p A cap g ns (fill ns s k) ∧ Blk wx gL 3 (ints [(a : Int), b, c, d]) ∧ Blk wx gS 4 (seen (first ns s + k))) (fun t _ => 64 - (intOf t).toNat)
      case atStart => exact ⟨0, Nat.zero_le _, rfl, hq, hL, hS⟩
      case round =>
        obtain ⟨k, hk, rfl, hq, hL, hS⟩ := hrel
        have hc := HCn.out _ hL
        by_cases hlt : k < n
        · have hal := HAM.out k hlt
          go_wp2_with fail
          refine (hq.alloc s k 0 _ hal).mono ?_; rintro e w3 ⟨rfl, q3, k3⟩
          have L3 := hq.off hL hneL k3
          have S3 := hq.off hS hne k3
          go_wp2_with fail
          refine (frame_yes q3.q s k (by omega) fill_get.1 fill_get.2 _ rfl).mono ?_; rintro e w4 ⟨rfl, rfl⟩
          have hm : first ns s + k < 256 := by omega
          generalize hmm : first ns s + k = m at *
          have z1 : w3.cell? ⟨gS, m, none⟩ = some (.bool false) := by rw [S3.cell]; exact seen_no hm
          have z2 := S3.frozen m
          have kf : Keep (· = gS) w3 (w3.setCell ⟨gS, m, none⟩ (.bool true)) := (Keep.refl _ w3).setCell _ _ (fun _ => rfl)
          have S4 := S3.setCell m (.bool true)
          rw [seen_set hm] at S4
          have q4 := q3.offS S3 hne hgS kf
          have L4 := L3.keep kf hLS
          have HM := Lib.hid hmm
          clear hmm hc hq hL hS q3 L3 S3 kf k3 hal
          go_wp2_with fail
          go_roundw
          case rel => exact ⟨k + 1, by omega, by go_num, q4, L4, by rw [← Nat.add_assoc, HM.out]; exact S4⟩
          case measure => simp [intOf]; omega
        · obtain rfl : n = k := by omega
          have hal := HAF.out n rfl
          go_wp2_with fail
          refine (hq.alloc s 0 4 _ hal).mono ?_; rintro e w3 ⟨rfl, q3, k3⟩
          have L3 := hq.off hL hneL k3
          have S3 := hq.off hS hne k3
          rw [← HF.out] at S3
          go_wp2_with fail
          go_roundw
          case rel => exact ⟨s + 1, by omega, by go_num, q3, L3, S3⟩
          case measure => simp [intOf]; omega
    · obtain rfl : s = 4 := by omega
      have hf := HSum.out
      rw [hf] at hS
      have HF := Lib.hid hf
      clear hf hs4
      generalize hsm : a + b + c + d = tot at *
      have HT := Lib.hid hsm
      clear hsm
      have htot : tot < 256 := by have := HT.out; omega
      go_wp2_with fail
      go_loopw [20, 21] (fun s t wx => ∃ i : Nat, i ≤ 256 ∧ t = .int .i64 i ∧ s = .int .i64 (min i tot : Nat) ∧ wx = wr) (fun _ t _ => 256 - (intOf t).toNat)
      case atStart => exact ⟨0, Nat.zero_le _, rfl, by simp, rfl⟩
      case round =>
        obtain ⟨i, hi, rfl, rfl, rfl⟩ := hrel
        by_cases hlt : i < 256
        · have hlti : (i : Int) < 256 := by omega
          have hcS : wr.cell? ⟨gS, i, none⟩ = some (.bool (decide (i < tot))) := by rw [hS.cell]; exact seen_at hlt
          by_cases h2 : i < tot
          · rw [decide_eq_true h2] at hcS
            have e1 : min i tot = i := by omega
            have e2 : min (i + 1) tot = i + 1 := by omega
            rw [e1]
            have E2 := Lib.hid e2
            clear e1 e2
            go_wp2_with fail
            go_roundw
            case rel => exact ⟨i + 1, by omega, by go_num, by rw [E2.out]; go_num, trivial⟩
            case measure => simp [intOf]; omega
          · rw [decide_eq_false h2] at hcS
            have e1 : min i tot = tot := by omega
            have e2 : min (i + 1) tot = tot := by omega
            rw [e1]
            have E2 := Lib.hid e2
            clear e1 e2
            go_wp2_with fail
            go_roundw
            case rel => exact ⟨i + 1, by omega, by go_num, by rw [E2.out], trivial⟩
            case measure => simp [intOf]; omega
        · obtain rfl : i = 256 := by omega
          have e1 : min 256 tot = tot := by omega
          rw [e1]
          clear e1
          have sf : ∀ W, Keep Nob wr W → (W.cell? ⟨gL, 0, none⟩ = some (.int .i64 a) ∧ W.cell? ⟨gL, 1, none⟩ = some (.int .i64 b) ∧ W.cell? ⟨gL, 2, none⟩ = some (.int .i64 c) ∧ W.cell? ⟨gL, 3, none⟩ = some (.int .i64 d)) := fun W k =>
            ⟨(hL.nob k).cell 0, (hL.nob k).cell 1, (hL.nob k).cell 2, (hL.nob k).cell 3⟩
          have htI : (tot : Int) = a + b + c + d := by have := HT.out; omega
          have kd := (Keep.refl Nob wr).drew
          have w1 : IntKind.i64.wrap ((a : Int) + b) = a + b := by simp [IntKind.wrap, IntKind.bits, IntKind.signed]; omega
          have w2 : IntKind.i64.wrap ((a : Int) + b + c) = a + b + c := by simp [IntKind.wrap, IntKind.bits, IntKind.signed]; omega
          have w3 : IntKind.i64.wrap ((a : Int) + b + c + d) = a + b + c + d := by simp [IntKind.wrap, IntKind.bits, IntKind.signed]; omega
          rw [htI]
          clear htI hi hlt
          go_wp2_with fail
          go_region_held3 (fun w' => w'.cell? ⟨gL, 0, none⟩ = some (.int .i64 a) ∧ w'.cell? ⟨gL, 1, none⟩ = some (.int .i64 b) ∧ w'.cell? ⟨gL, 2, none⟩ = some (.int .i64 c) ∧ w'.cell? ⟨gL, 3, none⟩ = some (.int .i64 d))
            (first | exact sf _ kd | exact sf _ k1)
            (first | (go_at_call 6; refine (awake_true _).mono ?_; rintro e' w9 ⟨rfl, k9⟩; have k1 := kd.nobt k9))
          have KK := hq.keep.nob k1
          go_wp2_with fail
          go_ret
          exact ⟨rfl, KK.done⟩
theorem QuotaApart_walk (w : World) (a0 : Int) (w0 : (Lit.int .i64 a0).wf = true) (a1 : Int) (w1 : (Lit.int .i64 a1).wf = true) (a2 : Int) (w2 : (Lit.int .i64 a2).wf = true) (a3 : Int) (w3 : (Lit.int .i64 a3).wf = true) :
    Calls Try.prog 5 #[.int .i64 a0, .int .i64 a1, .int .i64 a2, .int .i64 a3] w fun e w' => e = .returned (.bool true) ∧ Below w.heap.size w w' :=
  apart_core w a0 a1 a2 a3 (a0 % 64).toNat (a1 % 64).toNat (a2 % 64).toNat (a3 % 64).toNat (by rw [i64_and63]; omega) (by rw [i64_and63]; omega) (by rw [i64_and63]; omega) (by rw [i64_and63]; omega) (by omega) (by omega) (by omega) (by omega)
end Go.Proofs.Ytnhbkkcllhgapaa
