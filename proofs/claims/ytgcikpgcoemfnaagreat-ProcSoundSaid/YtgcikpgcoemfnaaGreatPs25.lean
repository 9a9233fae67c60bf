import Derived.Test.YtgcikpgcoemfnaaGreatPs24
import Derived.Test.YtgcikpgcoemfnaaGreatPs12
set_option maxRecDepth 100000
set_option maxHeartbeats 8000000
set_option linter.unusedVariables false
set_option linter.unusedSimpArgs false
namespace Go.Proofs.YtgcikpgcoemfnaaGreat.Co
open Go.RowKit
def ToldF (w0 w : World) (g : Int) (v : Bool) (x : Value) : Prop := match v with
 | true => ∃ A m, x = .slice A 4 m ∧ Vec w 5 1 A 4 m (bytes (cu g)) ∧ (∀ a, Own A a → w0.heap.size ≤ a)
 | false => x = .slice none 0 0
theorem jR {g : Int} (h0 : 0 ≤ g) (h1 : g ≤ 255) : ((Cd.byt g).toNat : Int) = g := Cd.bm h0 h1
theorem encf_is (g : Int) (w : World) (v : Bool) (hv : decide (0 ≤ g ∧ g ≤ 7) = v) :
  Calls Tryz.prog 304 #[.int .i64 g] w fun e w' => ∃ x, e = .returned (.tuple #[x, .bool v]) ∧ ToldF w w' g v x ∧ Keep Nob w w' := by
 cases v with
 | false =>
  have hn := of_decide_eq_false hv
  clear hv
  rcases (show g < 0 ∨ (0 ≤ g ∧ 7 < g) by omega) with h | ⟨h0, h⟩
  all_goals
   clear hn
   go_enter Tryz.func304, Tryz.ntmps304
   go_wp2
   go_ret2
   exact ⟨_, rfl, rfl, Keep.refl _ _⟩
 | true =>
  obtain ⟨h0, h1⟩ := of_decide_eq_true hv
  clear hv
  have hb0 := jR h0 (by omega)
  have hb1 := jR (g := 213 + g) (by omega) (by omega)
  have HB := aa (And.intro hb0 hb1)
  clear hb0 hb1
  go_enter Tryz.func304, Tryz.ntmps304
  go_wp2_with (refine bu rfl _ _ 28 rfl 5 (.int .u8 0) 1 Tryz.underlying28 Cd.Tryz.info5 rfl .i64 .i64 4 _ rfl rfl rfl (by omega) (by omega) ?_; intro w1 hb1 hk1 hs1; clear hs1; have z0 := hb1.cell 0; have z1 := hb1.cell 1; have z2 := hb1.cell 2; have f0 := hb1.frozen 0; have f1 := hb1.frozen 1; have f2 := hb1.frozen 2; generalize hq : w.heap.size = q at *)
  have hb2 : Blk ((w1.setCell ⟨q, 0, none⟩ (.int .u8 g)).setCell ⟨q, 1, none⟩ (.int .u8 211)) q 5 [.int .u8 g, .int .u8 211, .int .u8 0, .int .u8 0] := (hb1.setCell 0 _).setCell 1 _
  have hk2 : Keep Nob w ((w1.setCell ⟨q, 0, none⟩ (.int .u8 g)).setCell ⟨q, 1, none⟩ (.int .u8 211)) := hk1.trans (((Keep.refl (· = q) w1).setCell _ _ (fun _ => rfl)).setCell _ _ (fun _ => rfl)) (fun b hb e => by have e : b = q := e; omega)
  generalize ((w1.setCell ⟨q, 0, none⟩ (.int .u8 g)).setCell ⟨q, 1, none⟩ (.int .u8 211)) = w2 at *
  clear hb1 hk1 z0 z1 z2 f0 f1 f2
  have hrd : ae w2 (some ⟨q, 0, none⟩) 2 (bytes [Cd.byt g, 211]) := by
   have := ae.of_blk (A := some ⟨q, 0, none⟩) (off := 0) (n := 2) hb2 (fun _ => rfl) (by simp)
   have e : bytes [Cd.byt g, 211] = [.int .u8 g, .int .u8 211] := by simp [bytes, HB.out.1]
   rw [e]
   exact this
  refine (Cd.sum_is hrd (by omega) (213 + g) (by have h := HB.out.1; simp [Cd.tot]; omega)).mono ?_; rintro e w3 ⟨rfl, rfl⟩
  have z2 := hb2.cell 2
  have f2 := hb2.frozen 2
  simp only [List.getElem?_cons_zero, List.getElem?_cons_succ] at z2
  have fin : Blk (w2.setCell ⟨q, 2, none⟩ (.int .u8 (213 + g))) q 5 (bytes (cu g)) := by
   have e : bytes (cu g) = [.int .u8 g, .int .u8 211, .int .u8 (213 + g), .int .u8 0] := by simp [bytes, cu, HB.out.1, HB.out.2]
   rw [e]
   exact hb2.setCell 2 _
  have fk : Keep Nob w (w2.setCell ⟨q, 2, none⟩ (.int .u8 (213 + g))) := hk2.trans ((Keep.refl (· = q) w2).setCell _ _ (fun _ => rfl)) (fun b hb e => by have e : b = q := e; omega)
  clear hrd hb2
  go_wp2
  go_ret2
  exact ⟨_, rfl, ⟨_, _, rfl, Vec.of_blk fin (by simp [cu]) (by decide), fun a ⟨ad, e, h⟩ => by cases e; exact h ▸ Nat.le_of_eq hq⟩, fk⟩
theorem frontB_g {l : List UInt8} (h : l.length = 4) : fdec l = (if (l.getD 0 0).toNat ≤ 7 then (if cu ((l.getD 0 0).toNat : Int) = l then (((l.getD 0 0).toNat : Int), 1) else (0, 2)) else (0, 2)) := by
 unfold fdec
 rw [if_pos h]
theorem decf_is (A : Option Addr) (n cap : Nat) (l : List UInt8) (w : World) (hr : ae w A n (bytes l)) (R d : Int) (hd : fdec l = (R, d)) :
  Calls Tryz.prog 224 #[.slice A n cap] w fun e w' => e = .returned (.tuple #[.int .i64 R, .int .i64 d]) ∧ Keep Nob w w' := by
 have hl : l.length = n := by simpa using hr.1
 by_cases h4 : n = 4
 ·subst h4
  rw [frontB_g hl] at hd
  obtain ⟨b, off, hA, hc⟩ := hr.lit (by decide)
  subst hA
  have z0 := hc 0 _ (aB (by omega))
  rw [Nat.add_zero] at z0
  obtain ⟨g, hg⟩ : ∃ g : Int, ((l.getD 0 0).toNat : Int) = g := ⟨_, rfl⟩
  rw [hg] at z0 hd
  have hgb : 0 ≤ g ∧ g < 256 := by have := (l.getD 0 0).toNat_lt; omega
  have HG := aa hg
  by_cases h7 : g ≤ 7
  ·rw [if_pos (by omega)] at hd
   have henc := encf_is g w true (decide_eq_true ⟨hgb.1, h7⟩)
   clear hg hc
   have HR := aa hr
   have HL := aa hl
   clear hr hl
   go_enter Tryz.func224, Tryz.ntmps224
   go_wp2_with fail
   refine henc.mono ?_; rintro e w1 ⟨x, rfl, ⟨A', m, rfl, hv, ho⟩, k1⟩
   have hrd : ae w1 A' 4 (bytes (cu g)) := by have := hv.reads; simpa using this
   obtain ⟨veq, hveq⟩ : ∃ v, (cu g == l) = v := ⟨_, rfl⟩
   have hcall := fun c d => Cd.fR A' (some ⟨b, off, none⟩) 4 4 c d (cu g) l w1 hrd (HR.out.nob k1) veq hveq
   have HK := aa k1
   clear henc hv ho k1 hrd
   go_wp2_with fail
   refine (hcall _ _).mono ?_; rintro e w2 ⟨rfl, rfl⟩
   cases veq with
   | true =>
    rw [if_pos (by simpa using hveq)] at hd
    simp only [Prod.mk.injEq] at hd
    obtain ⟨rfl, rfl⟩ := hd
    go_wp2
    go_ret2
    exact ⟨rfl, HK.out⟩
   | false =>
    rw [if_neg (by simpa using hveq)] at hd
    simp only [Prod.mk.injEq] at hd
    obtain ⟨rfl, rfl⟩ := hd
    go_wp2
    go_ret2
    exact ⟨rfl, HK.out⟩
  ·rw [if_neg (by omega)] at hd
   simp only [Prod.mk.injEq] at hd
   obtain ⟨rfl, rfl⟩ := hd
   have henc := encf_is g w false (decide_eq_false (by omega))
   clear hg hc hr hl
   go_enter Tryz.func224, Tryz.ntmps224
   go_wp2_with fail
   refine henc.mono ?_; rintro e w1 ⟨x, rfl, rfl, k1⟩
   go_wp2
   go_ret2
   exact ⟨rfl, k1⟩
 ·have : fdec l = (0, 2) := by unfold fdec; rw [if_neg (by omega)]
  rw [this] at hd
  simp only [Prod.mk.injEq] at hd
  obtain ⟨rfl, rfl⟩ := hd
  have hne : (n : Int) ≠ 4 := by omega
  clear hr hl this
  go_enter Tryz.func224, Tryz.ntmps224
  go_wp2
  go_ret2
  exact ⟨rfl, Keep.refl _ _⟩
end Go.Proofs.YtgcikpgcoemfnaaGreat.Co
namespace Go.Proofs.YtgcikpgcoemfnaaGreat.Pn
open Go.RowKit Co
def bp : Ri.Pp := ⟨0, 0, 1, 1, Ri.nod⟩
def aL : List UInt8 := List.replicate 448 0 ++ (Ri.enc bp ++ cu 0)
theorem dN : bp.d.length = 32 := rfl
theorem pipe1_ok : Ri.okd bp = true := by decide +kernel
theorem dR : aL.length = 492 := by
 unfold aL
 rw [List.length_append, List.length_append, List.length_replicate, Ri.aJ dN, lw]
theorem fbytes_is (g : Int) (h0 : 0 ≤ g) (h7 : g ≤ 7) (w : World) : Calls Tryz.prog 100 #[.int .i64 g] w fun e w' => e = .returned (.string (str (cu g))) ∧ Keep Nob w w' := by
 have b0 := jR h0 (by omega)
 have b1 := jR (g := 213 + g) (by omega) (by omega)
 have r1 : ae (w.alloc (.cells #[.int .u8 g, .int .u8 211] 5)) (some ⟨w.heap.size, 0, none⟩) 2 (bytes [Cd.byt g, 211]) := by
  have := aj (n := 2) (Blk.new w 5 [.int .u8 g, .int .u8 211]) rfl
  have e : bytes [Cd.byt g, 211] = [.int .u8 g, .int .u8 211] := by simp [bytes, b0]
  rw [e]
  exact this
 have r2 : ae ((w.alloc (.cells #[.int .u8 g, .int .u8 211] 5)).alloc (.cells #[.int .u8 (213 + g), .int .u8 0] 5)) (some ⟨w.heap.size + 1, 0, none⟩) 2 (bytes [Cd.byt (213 + g), 0]) := by
  have := aj (n := 2) (Blk.new (w.alloc (.cells #[.int .u8 g, .int .u8 211] 5)) 5 [.int .u8 (213 + g), .int .u8 0]) rfl
  have hs : (w.alloc (.cells #[.int .u8 g, .int .u8 211] 5)).heap.size = w.heap.size + 1 := by simp
  rw [hs] at this
  have e : bytes [Cd.byt (213 + g), 0] = [.int .u8 (213 + g), .int .u8 0] := by simp [bytes, b1]
  rw [e]
  exact this
 have s1 := cw (P := Tryz.prog) _ 28 9 5 (some ⟨w.heap.size, 0, none⟩) 2 2 [Cd.byt g, 211] Tryz.underlying28 Tryz.underlying5 Tryz.underlying9 r1
 have s2 := cw (P := Tryz.prog) _ 28 9 5 (some ⟨w.heap.size + 1, 0, none⟩) 2 2 [Cd.byt (213 + g), 0] Tryz.underlying28 Tryz.underlying5 Tryz.underlying9 r2
 have hsum : ∀ W, Calls Tryz.prog 51 #[.string (str [Cd.byt g, 211])] W fun e w' => e = .returned (.int .u8 (213 + g)) ∧ W = w' := fun W => Cd.jV (by simp) _ (by simp [Cd.tot]; omega)
 have ha := fun W => Cd.cT [Cd.byt g, 211] [Cd.byt (213 + g), 0] (by simp) W
 have hw : IntKind.u8.wrap g = g := by simp [IntKind.wrap, IntKind.bits, IntKind.signed]; omega
 have hfin : [Cd.byt g, 211] ++ [Cd.byt (213 + g), 0] = cu g := rfl
 rw [hfin] at ha
 have K := aa (((Keep.refl Nob w).alloc (.cells #[.int .u8 g, .int .u8 211] 5)).alloc (.cells #[.int .u8 (213 + g), .int .u8 0] 5))
 have HS := aa hsum
 clear r1 r2 b0 b1 hsum hfin
 generalize cu g = fb at *
 generalize [Cd.byt g, 211] = l1 at *
 generalize [Cd.byt (213 + g), 0] = l2 at *
 go_enter Tryz.func100, Tryz.ntmps100
 go_wp2_with fail
 refine (HS.out _).mono ?_; rintro e w1 ⟨rfl, rfl⟩
 go_wp2
 go_ret
 exact ⟨rfl, K.out⟩
theorem zeros_made : ∃ Z : Array Value, Z.toList = bytes (List.replicate 448 0) ∧ ∀ W : World, (Instr.makeSlice 28 (.int .i64 448) (.int .i64 448)).run Tryz.prog W = .ok (.slice (some ⟨W.heap.size, 0, none⟩) 448 448) (W.alloc (.cells Z 5)) := by
 refine ⟨madeCells #[.int .u8 0] 448, ?_, fun W => ?_⟩
 ·rw [toList_madeCells_one, ao]
 ·exact run_make_row' (P := Tryz.prog) 28 5 (.int .u8 0) 1 Tryz.underlying28 Cd.Tryz.info5 rfl .i64 .i64 448 (by decide) (by decide) W
theorem rblank_is (w : World) : Calls Tryz.prog 32 #[] w fun e w' => e = .returned (.string (str aL)) ∧ Keep Nob w w' := by
  obtain ⟨Z, hZ, hmk⟩ := zeros_made
  have hconv : ∀ W W' : World, Keep Nob (W.alloc (.cells Z 5)) W' → (convert 28 9 (.slice (some ⟨W.heap.size, 0, none⟩) 448 448)).run Tryz.prog W' = .ok (.string (str (List.replicate 448 0))) W' := fun W W' k => by
    have h1 := Blk.new W 5 (bytes (List.replicate 448 0))
    rw [← hZ] at h1
    have h2 := aj (n := 448) (h1.nob k) (by rw [hZ]; simp)
    rw [hZ] at h2
    exact cw (P := Tryz.prog) W' 28 9 5 _ 448 448 _ Tryz.underlying28 Tryz.underlying5 Tryz.underlying9 h2
  have hpv : Ri.pv bp = .agg #[.int .i64 0, .int .i64 0, .int .i64 1, .int .i64 1, .int .u8 0, .int .u8 0, .int .u8 0, .int .u8 0, .int .u8 0, .int .u8 0, .int .u8 0, .int .u8 0, .int .u8 0, .int .u8 0, .int .u8 0, .int .u8 0, .int .u8 0, .int .u8 0, .int .u8 0, .int .u8 0, .int .u8 0, .int .u8 0, .int .u8 0, .int .u8 0, .int .u8 0, .int .u8 0, .int .u8 0, .int .u8 0, .int .u8 0, .int .u8 0, .int .u8 0, .int .u8 0, .int .u8 0, .int .u8 0, .int .u8 0, .int .u8 0] := rfl
  have hP := fun W => Ri.iA bp dN W
  rw [hpv] at hP
  have hF := fun W => fbytes_is 0 (by decide) (by decide) W
  have a1 := fun W => Cd.cT (List.replicate 448 0) (Ri.enc bp) (by rw [List.length_replicate, Ri.aJ dN]; decide) W
  have a2 := fun W => Cd.cT (List.replicate 448 0 ++ Ri.enc bp) (cu 0) (by rw [List.length_append, List.length_replicate, Ri.aJ dN, lw]; decide) W
  rw [List.append_assoc, show List.replicate 448 0 ++ (Ri.enc bp ++ cu 0) = aL from rfl] at a2
  have HC := aa hconv
  have HP := aa hP
  have HF := aa hF
  have c0 := hconv w (w.alloc (.cells Z 5)) (Keep.refl _ _)
  have c1 := hconv w (w.alloc (.cells Z 5)).drew (Keep.refl _ _).drew
  have c2 := hconv w.drew (w.drew.alloc (.cells Z 5)) (Keep.refl _ _)
  clear hconv hP hF hZ hpv
  generalize aL = bb at *
  generalize Ri.enc bp = pb at *
  generalize cu 0 = fb at *
  generalize hzz : List.replicate 448 (0 : UInt8) = zz at *
  clear hzz
  generalize zz ++ pb = zp at *
  go_enter Tryz.func32, Tryz.ntmps32
  go_wp2_with fail
  go_region_law (first
    | (go_simp; go_at_call 29; with_reducible_and_instances apply Calls.mono (HP.out _); rintro e1 wa ⟨rfl, ka⟩;
       have d1 := HC.out wa (wa.alloc (.cells Z 5)) (Keep.refl _ _);
       (try have d2 : (convert 28 9 (.slice (some ⟨w.heap.size, 0, none⟩) 448 448)).run Tryz.prog wa = .ok (.string (str zz)) wa := (by with_reducible_and_instances exact HC.out w wa ((Keep.refl Nob (w.alloc (.cells Z 5))).drew.trans ka (fun _ _ f => f))));
       (try have d3 : (convert 28 9 (.slice (some ⟨w.heap.size, 0, none⟩) 448 448)).run Tryz.prog wa = .ok (.string (str zz)) wa := (by with_reducible_and_instances exact HC.out w wa (((Keep.refl Nob (w.alloc (.cells Z 5))).drew.trans kb (fun _ _ f => f)).trans ka (fun _ _ f => f))));
       (try have d4 : (convert 28 9 (.slice (some ⟨wb.heap.size, 0, none⟩) 448 448)).run Tryz.prog wa = .ok (.string (str zz)) wa := (by with_reducible_and_instances exact HC.out wb wa ((Keep.refl Nob (wb.alloc (.cells Z 5))).trans ka (fun _ _ f => f))));
       have KA : Keep Nob w wa := (by with_reducible_and_instances (first | exact ((Keep.refl Nob w).alloc (.cells Z 5)).drew.trans ka (fun _ _ f => f) | exact (Keep.nobdrew w).trans ka (fun _ _ f => f) | exact KB.trans ka (fun _ _ f => f) | exact (KB.alloc (.cells Z 5)).trans ka (fun _ _ f => f))))
    | (go_simp; go_at_call 100; with_reducible_and_instances apply Calls.mono (HF.out _); rintro e2 wb ⟨rfl, kb⟩;
       have d1 := HC.out wb (wb.alloc (.cells Z 5)) (Keep.refl _ _);
       (try have d2 : (convert 28 9 (.slice (some ⟨w.heap.size, 0, none⟩) 448 448)).run Tryz.prog wb = .ok (.string (str zz)) wb := (by with_reducible_and_instances exact HC.out w wb ((Keep.refl Nob (w.alloc (.cells Z 5))).drew.trans kb (fun _ _ f => f))));
       (try have d3 : (convert 28 9 (.slice (some ⟨w.heap.size, 0, none⟩) 448 448)).run Tryz.prog wb = .ok (.string (str zz)) wb := (by with_reducible_and_instances exact HC.out w wb (((Keep.refl Nob (w.alloc (.cells Z 5))).drew.trans ka (fun _ _ f => f)).trans kb (fun _ _ f => f))));
       (try have d4 : (convert 28 9 (.slice (some ⟨wa.heap.size, 0, none⟩) 448 448)).run Tryz.prog wb = .ok (.string (str zz)) wb := (by with_reducible_and_instances exact HC.out wa wb ((Keep.refl Nob (wa.alloc (.cells Z 5))).trans kb (fun _ _ f => f))));
       have KB : Keep Nob w wb := (by with_reducible_and_instances (first | exact ((Keep.refl Nob w).alloc (.cells Z 5)).drew.trans kb (fun _ _ f => f) | exact (Keep.nobdrew w).trans kb (fun _ _ f => f) | exact KA.trans kb (fun _ _ f => f) | exact (KA.alloc (.cells Z 5)).trans kb (fun _ _ f => f)))))
  all_goals (go_wp2; go_ret)
  all_goals (refine ⟨rfl, ?_⟩; with_reducible_and_instances (first | exact KA | exact KB | exact KA.alloc _ | exact KB.alloc _))
end Go.Proofs.YtgcikpgcoemfnaaGreat.Pn
