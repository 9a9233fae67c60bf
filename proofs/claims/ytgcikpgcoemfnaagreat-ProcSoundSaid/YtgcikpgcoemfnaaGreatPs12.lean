import Derived.Deep.RegionHeld3
import Derived.Deep.CutBlock
import Derived.Test.YtgcikpgcoemfnaaGreatPs9
import Derived.Test.YtgcikpgcoemfnaaGreatPs2
import Derived.Test.YtgcikpgcoemfnaaGreatPsHd
set_option maxRecDepth 100000
set_option maxHeartbeats 8000000
set_option linter.unusedVariables false
set_option linter.unusedSimpArgs false
namespace Go.Proofs.YtgcikpgcoemfnaaGreat.Cd
open Go.RowKit
theorem fR (A B : Option Addr) (n m c d : Nat) (x y : List UInt8) (w : World) (hx : ae w A n (bytes x)) (hy : ae w B m (bytes y)) (v : Bool) (hv : (x == y) = v) :
  Calls Tryz.prog 292 #[.slice A n c, .slice B m d] w fun e w' => e = .returned (.bool v) ∧ w = w' := by
 have s1 := fun c => cw (P := Tryz.prog) w 28 9 5 A n c x Tryz.underlying28 Tryz.underlying5 Tryz.underlying9 hx
 have s2 := fun c => cw (P := Tryz.prog) w 28 9 5 B m c y Tryz.underlying28 Tryz.underlying5 Tryz.underlying9 hy
 have s3 : ((str x).toList == (str y).toList) = v := by rw [gC, gC, hv]
 clear hv hx hy
 generalize str x = X at *
 generalize str y = Y at *
 go_enter Tryz.func292, Tryz.ntmps292
 go_wp2
 go_ret
 exact ⟨rfl, rfl⟩
theorem aW {w : World} {g n : Nat} {l : List UInt8} (hr : ae w (some ⟨g, 0, none⟩) n (bytes l)) {k : Nat} (hk : k < n) : w.cell? ⟨g, k, none⟩ = some (.int .u8 ((l.getD k 0).toNat : Int)) := by
 have hl : l.length = n := by simpa using hr.1
 obtain ⟨ad, h1, h2⟩ := hr.2 (by omega)
 cases h1
 have := h2 k _ (aB (by omega))
 rwa [cR, Nat.zero_add] at this
section
variable {ρ : Operand → Value} {o : Oper} {x y : Operand} {w : World} {g : Nat} {q old : List Int}
theorem aG (ho : o.op = .load 37 x) (hx : ρ x = .pointer (some ⟨g, 0, none⟩)) (hq : q.length = 16) (hb : Blk w g 37 (ab q)) : (execOp ρ o).run Tryz.prog w = .ok (.value (.agg (ab q).toArray)) w := by
 have := run_loadVar_row (P := Tryz.prog) w g 37 37 (ab q).toArray (0, 0) _ hb Tryz.underlying37 rfl (by rw [bz]; simp [hq])
 simp [execOp, ho, hx, Instr.loadAt, Instr.sureAddr, this, Result.andThen]
theorem exec_store (ho : o.op = .store 37 x y) (hx : ρ x = .pointer (some ⟨g, 0, none⟩)) (hy : ρ y = .agg (ab q).toArray) (hq : q.length = 16) (hd : old.length = 16) (hb : Blk w g 37 (ab old)) :
  (execOp ρ o).run Tryz.prog w = .ok .skip (w.setRow g (ab q).toArray) := by
 have := run_storeVar_row (P := Tryz.prog) w g 37 37 (ab old).toArray (ab q).toArray hb (by rw [bz]; simp [hq]) (by simp [hq, hd]) (by rw [Array.all_eq_true_iff_forall_mem]; intro v hv; exact dz q v (by simpa using hv))
 simp [execOp, ho, hx, hy, Instr.storeAt, Instr.sureAddr, this, Result.andThen]
theorem wp_store {a : Act} {K : Act → World → Prop} {Q : Exit → Act → World → Prop} (ho : o.op = .store 37 x y) (hx : a.eval x = .pointer (some ⟨g, 0, none⟩)) (hy : a.eval y = .agg (ab q).toArray) (hq : q.length = 16) (hd : old.length = 16) (hb : Blk w g 37 (ab old))
  (h : K (a.put o.dst undef) (w.setRow g (ab q).toArray)) : Oper.wp Tryz.prog o a w K Q := by
 unfold Oper.wp
 rw [exec_store ho hx hy hq hd hb]
 exact h
end
theorem get_is_ (l : List UInt8) (hl : l.length = 24) (g c : Nat) (w : World) (hr : ae w (some ⟨g, 0, none⟩) 24 (bytes l)) (R : List Int) (hR : rd l = R) (v : Bool) (hv : gd l = v) :
  Calls Tryz.prog 204 #[.slice (some ⟨g, 0, none⟩) 24 c] w fun e w' => e = .returned (.tuple #[pv R, .bool v]) ∧ Keep Nob w w' := by
 have HRR := aa hR
 have HV := aa hv
 clear hR hv
 have hlt := block_lt_of_cell (aW hr (k := 0) (by decide))
 have hlt' : g < w.heap.size := hlt
 have h0 := aW hr (k := 0) (by decide)
 have h1 := aW hr (k := 1) (by decide)
 have h2 := aW hr (k := 2) (by decide)
 have h3 := aW hr (k := 3) (by decide)
 have u0 := cz (l.getD 0 0)
 have u1 := cz (l.getD 1 0)
 have u2 := cz (l.getD 2 0)
 have u3 := cz (l.getD 3 0)
 have HL := aa hl
 have HR := aa hr
 obtain ⟨x0, hx0⟩ : ∃ x, ((l.getD 0 0).toNat : Int) = x := ⟨_, rfl⟩
 obtain ⟨x1, hx1⟩ : ∃ x, ((l.getD 1 0).toNat : Int) = x := ⟨_, rfl⟩
 obtain ⟨x2, hx2⟩ : ∃ x, ((l.getD 2 0).toNat : Int) = x := ⟨_, rfl⟩
 obtain ⟨x3, hx3⟩ : ∃ x, ((l.getD 3 0).toNat : Int) = x := ⟨_, rfl⟩
 have hR4 : rpt l 4 = [x0, x1, x2, x3, 0, 0, 0, 0, 0, 0, 0, 0, 0, 0, 0, 0] := by
  subst hx0 hx1 hx2 hx3
  obtain ⟨x0, x1, x2, x3, x4, x5, x6, x7, x8, x9, y0, y1, y2, y3, y4, y5, y6, y7, y8, y9, z0, z1, z2, z3, rfl⟩ := split24 hl
  rfl
 have HR4 := aa hR4
 rw [hx0] at h0 u0
 rw [hx1] at h1 u1
 rw [hx2] at h2 u2
 rw [hx3] at h3 u3
 have i0 : IntKind.i64.wrap x0 = x0 := ax _ (by omega) (by omega)
 have i1 : IntKind.i64.wrap x1 = x1 := ax _ (by omega) (by omega)
 have i2 : IntKind.i64.wrap x2 = x2 := ax _ (by omega) (by omega)
 have i3 : IntKind.i64.wrap x3 = x3 := ax _ (by omega) (by omega)
 clear hl hr hx0 hx1 hx2 hx3 hlt hR4
 go_enter Tryz.func204, Tryz.ntmps204
 go_wp2_with fail
 go_region
 have hp1 : Blk (((w.alloc (.cells #[.int .i64 0, .int .i64 0, .int .i64 0, .int .i64 0, .int .i64 0, .int .i64 0, .int .i64 0, .int .i64 0, .int .i64 0, .int .i64 0, .int .i64 0, .int .i64 0, .int .i64 0, .int .i64 0, .int .i64 0, .int .i64 0] 37)).alloc (.cells #[.int .i64 x0, .int .i64 x1, .int .i64 x2, .int .i64 x3, .int .i64 0, .int .i64 0, .int .i64 0, .int .i64 0, .int .i64 0, .int .i64 0, .int .i64 0, .int .i64 0, .int .i64 0, .int .i64 0, .int .i64 0, .int .i64 0] 37)).drew) (w.heap.size + 1) 37 (ab (rpt l 4)) := by
  rw [HR4.out]
  have := (Blk.new (w.alloc (.cells #[.int .i64 0, .int .i64 0, .int .i64 0, .int .i64 0, .int .i64 0, .int .i64 0, .int .i64 0, .int .i64 0, .int .i64 0, .int .i64 0, .int .i64 0, .int .i64 0, .int .i64 0, .int .i64 0, .int .i64 0, .int .i64 0] 37)) 37 (ab [x0, x1, x2, x3, 0, 0, 0, 0, 0, 0, 0, 0, 0, 0, 0, 0])).drew
  rw [show (w.alloc (.cells #[.int .i64 0, .int .i64 0, .int .i64 0, .int .i64 0, .int .i64 0, .int .i64 0, .int .i64 0, .int .i64 0, .int .i64 0, .int .i64 0, .int .i64 0, .int .i64 0, .int .i64 0, .int .i64 0, .int .i64 0, .int .i64 0] 37)).heap.size = w.heap.size + 1 from by simp] at this
  exact this
 have hr1 : Blk (((w.alloc (.cells #[.int .i64 0, .int .i64 0, .int .i64 0, .int .i64 0, .int .i64 0, .int .i64 0, .int .i64 0, .int .i64 0, .int .i64 0, .int .i64 0, .int .i64 0, .int .i64 0, .int .i64 0, .int .i64 0, .int .i64 0, .int .i64 0] 37)).alloc (.cells #[.int .i64 x0, .int .i64 x1, .int .i64 x2, .int .i64 x3, .int .i64 0, .int .i64 0, .int .i64 0, .int .i64 0, .int .i64 0, .int .i64 0, .int .i64 0, .int .i64 0, .int .i64 0, .int .i64 0, .int .i64 0, .int .i64 0] 37)).drew) w.heap.size 37 (ab noP) := ((Blk.new w 37 (ab noP)).alloc _).drew
 have hk1 : Keep Nob w (((w.alloc (.cells #[.int .i64 0, .int .i64 0, .int .i64 0, .int .i64 0, .int .i64 0, .int .i64 0, .int .i64 0, .int .i64 0, .int .i64 0, .int .i64 0, .int .i64 0, .int .i64 0, .int .i64 0, .int .i64 0, .int .i64 0, .int .i64 0] 37)).alloc (.cells #[.int .i64 x0, .int .i64 x1, .int .i64 x2, .int .i64 x3, .int .i64 0, .int .i64 0, .int .i64 0, .int .i64 0, .int .i64 0, .int .i64 0, .int .i64 0, .int .i64 0, .int .i64 0, .int .i64 0, .int .i64 0, .int .i64 0] 37)).drew) := (((Keep.refl Nob w).alloc _).alloc _).drew
 generalize (((w.alloc (.cells #[.int .i64 0, .int .i64 0, .int .i64 0, .int .i64 0, .int .i64 0, .int .i64 0, .int .i64 0, .int .i64 0, .int .i64 0, .int .i64 0, .int .i64 0, .int .i64 0, .int .i64 0, .int .i64 0, .int .i64 0, .int .i64 0] 37)).alloc (.cells #[.int .i64 x0, .int .i64 x1, .int .i64 x2, .int .i64 x3, .int .i64 0, .int .i64 0, .int .i64 0, .int .i64 0, .int .i64 0, .int .i64 0, .int .i64 0, .int .i64 0, .int .i64 0, .int .i64 0, .int .i64 0, .int .i64 0] 37)).drew) = w1 at *
 have hgr : w.heap.size ≠ w.heap.size + 1 := by omega
 have hgn : w.heap.size ≤ w.heap.size + 1 := by omega
 generalize w.heap.size + 1 = gp at *
 clear h0 h1 h2 h3 u0 u1 u2 u3 HR4 i0 i1 i2 i3
 have hpl := hp1.lt
 have hs2 : Blk (w1.alloc (.cells #[.pointer (some ⟨gp, 4, none⟩), .pointer (some ⟨gp, 5, none⟩), .pointer (some ⟨gp, 6, none⟩), .pointer (some ⟨gp, 7, none⟩)] 384)) w1.heap.size 384 [.pointer (some ⟨gp, 4, none⟩), .pointer (some ⟨gp, 5, none⟩), .pointer (some ⟨gp, 6, none⟩), .pointer (some ⟨gp, 7, none⟩)] := Blk.new w1 _ _
 have hp2 := hp1.alloc (.cells #[.pointer (some ⟨gp, 4, none⟩), .pointer (some ⟨gp, 5, none⟩), .pointer (some ⟨gp, 6, none⟩), .pointer (some ⟨gp, 7, none⟩)] 384)
 have hr2 := hr1.alloc (.cells #[.pointer (some ⟨gp, 4, none⟩), .pointer (some ⟨gp, 5, none⟩), .pointer (some ⟨gp, 6, none⟩), .pointer (some ⟨gp, 7, none⟩)] 384)
 have hk2 := hk1.alloc (.cells #[.pointer (some ⟨gp, 4, none⟩), .pointer (some ⟨gp, 5, none⟩), .pointer (some ⟨gp, 6, none⟩), .pointer (some ⟨gp, 7, none⟩)] 384)
 clear hp1 hr1 hk1
 have hsz : w.heap.size ≤ w1.heap.size := by omega
 go_wp2_with fail
 generalize w1.heap.size = gs at *
 go_loopw [32] (fun s32 wx => ∃ k : Nat, k ≤ 4 ∧ s32 = .int .i64 k ∧ Blk wx gp 37 (ab (rpt l (4 + k))) ∧ Blk wx w.heap.size 37 (ab noP) ∧ Blk wx gs 384 [.pointer (some ⟨gp, 4, none⟩), .pointer (some ⟨gp, 5, none⟩), .pointer (some ⟨gp, 6, none⟩), .pointer (some ⟨gp, 7, none⟩)] ∧ Keep Nob w wx) (fun s32 _ => 4 - (intOf s32).toNat)
 case atStart => exact ⟨0, Nat.zero_le _, rfl, hp2, hr2, hs2, hk2⟩
 case round =>
  obtain ⟨k, hk, rfl, hp3, hr3, hs3, hk3⟩ := hrel
  clear hp2 hr2 hs2 hk2
  by_cases hlt : k < 4
  ·have c5 := hs3.cell k
   have hcc : ([.pointer (some ⟨gp, 4, none⟩), .pointer (some ⟨gp, 5, none⟩), .pointer (some ⟨gp, 6, none⟩), .pointer (some ⟨gp, 7, none⟩)] : List Value)[k]? = some (.pointer (some ⟨gp, 4 + k, none⟩)) := by
    rcases (show k = 0 ∨ k = 1 ∨ k = 2 ∨ k = 3 from by omega) with rfl | rfl | rfl | rfl <;> rfl
   rw [hcc] at c5
   clear hcc
   go_wp2_with fail
   refine (get_is (some ⟨g, 0, none⟩) 24 c _ l _ (HR.out.nob hk3) (by decide) true (decide_eq_true ⟨by omega, by omega⟩) ((rd l).getD (4 + k) 0) (by rw [if_pos rfl, rd_two k hlt]; congr 1 <;> omega)).mono ?_; rintro e wy ⟨rfl, ky⟩
   have hp4 := hp3.nob ky
   have hr4 := hr3.nob ky
   have hs4 := hs3.nob ky
   have hk4 := hk3.nobt ky
   clear hp3 hr3 hs3 hk3 ky c5
   have hset := rpt_set HL.out (k := 4 + k) (by omega)
   generalize (rd l).getD (4 + k) 0 = u at *
   have fr := hp4.frozen (4 + k)
   have cc : ∃ x, _ = some x := ⟨_, (hp4.cell (4 + k)).trans (jp (by rw [rpt_len HL.out (by omega)]; omega))⟩
   obtain ⟨x, cc⟩ := cc
   have hp5 : Blk (wy.setCell ⟨gp, 4 + k, none⟩ (.int .i64 u)) gp 37 (ab (rpt l (4 + (k + 1)))) := by
    have := hp4.setCell (4 + k) (.int .i64 u)
    rw [dF, hset] at this
    exact this
   have hr5 := hr4.far (p := ⟨gp, 4 + k, none⟩) hgr (.int .i64 u)
   have hs5 := hs4.far (p := ⟨gp, 4 + k, none⟩) (show gs ≠ gp from by omega) (.int .i64 u)
   have hk5 : Keep Nob w (wy.setCell ⟨gp, 4 + k, none⟩ (.int .i64 u)) := hk4.setCell ⟨gp, 4 + k, none⟩ _ (fun h => absurd h (by show ¬ gp < _; omega))
   clear hp4 hr4 hs4 hk4 hset
   go_wp2_with fail
   go_round
   case rel => exact ⟨k + 1, by omega, by go_num, hp5, hr5, hs5, hk5⟩
   case measure => simp [intOf]; omega
  ·obtain rfl : k = 4 := by omega
   clear hlt hk hs3
   go_wp2_with fail
   go_loopw [48] (fun s48 wx => ∃ k : Nat, k ≤ 8 ∧ s48 = .int .i64 k ∧ Blk wx gp 37 (ab (rpt l (8 + k))) ∧ Blk wx w.heap.size 37 (ab noP) ∧ Keep Nob w wx) (fun s48 _ => 8 - (intOf s48).toNat)
   case atStart => exact ⟨0, Nat.zero_le _, rfl, hp3, hr3, hk3⟩
   case round =>
    obtain ⟨k, hk, rfl, hp4, hr4, hk4⟩ := hrel
    clear hp3 hr3 hk3
    by_cases hlt : k < 8
    ·have c6 := aW (HR.out.nob hk4) (k := 12 + k) (by omega)
     have hset := rpt_set HL.out (k := 8 + k) (by omega)
     rw [rd_fds HL.out k hlt] at hset
     have hu := cz (l.getD (12 + k) 0)
     obtain ⟨u, hu0⟩ : ∃ x, ((l.getD (12 + k) 0).toNat : Int) = x := ⟨_, rfl⟩
     rw [hu0] at c6 hset hu
     clear hu0
     have hwr : IntKind.i64.wrap u = u := ax _ (by omega) (by omega)
     have fr := hp4.frozen (8 + k)
     have cc : ∃ x, _ = some x := ⟨_, (hp4.cell (8 + k)).trans (jp (by rw [rpt_len HL.out (by omega)]; omega))⟩
     obtain ⟨x, cc⟩ := cc
     have hp5 : Blk (wr.setCell ⟨gp, 8 + k, none⟩ (.int .i64 u)) gp 37 (ab (rpt l (8 + (k + 1)))) := by
      have := hp4.setCell (8 + k) (.int .i64 u)
      rw [dF, hset] at this
      exact this
     have hr5 := hr4.far (p := ⟨gp, 8 + k, none⟩) hgr (.int .i64 u)
     have hk5 : Keep Nob w (wr.setCell ⟨gp, 8 + k, none⟩ (.int .i64 u)) := hk4.setCell ⟨gp, 8 + k, none⟩ _ (fun h => absurd h (by show ¬ gp < _; omega))
     clear hp4 hr4 hk4 hset
     go_wp2_with fail
     go_round
     case rel => exact ⟨k + 1, by omega, by go_num, hp5, hr5, hk5⟩
     case measure => simp [intOf]; omega
    ·obtain rfl : k = 8 := by omega
     rw [show 8 + 8 = 16 from rfl, rpt_all HL.out] at hp4
     clear hlt hk
     go_wp2_with (refine bu rfl _ _ 28 rfl 5 (.int .u8 0) 1 Tryz.underlying28 Tryz.info5 rfl .i64 .i64 24 _ rfl rfl rfl (by omega) (by omega) ?_; intro w5 hb5 hk5 hs5)
     clear hs5
     have hp5 := hp4.nob hk5
     have hr5 := hr4.nob hk5
     have hk6 := hk4.nobt hk5
     have hR5 := (HR.out.nob hk4).nob hk5
     have hgw : wr.heap.size ≠ gp := by have := hp4.lt; omega
     have hga : wr.heap.size ≠ w.heap.size := by have := hr4.lt; omega
     have hgb : wr.heap.size ≠ g := by have := hk4.size; omega
     have hge : w.heap.size ≤ wr.heap.size := hk4.size
     rw [← ao] at hb5
     clear hp4 hr4 hk4 hk5
     generalize wr.heap.size = ga at *
     have hrl := cY HL.out
     have hrw := rd_wf HL.out
     have hgd : (okd (rd l) && enc (rd l) == l) = v := HV.out
     clear HV
     rw [HRR.out] at hgd hp5 hrl hrw
     clear HRR
     have hpd := hp5.drew
     have hrd := hr5.drew
     have hkd := hk6.drew
     have hRd := hR5.nob ((Keep.refl Nob w5).drew)
     have hbd := hb5.drew
     clear hp5 hr5 hk6 hR5 hb5
     have hgr' : gp ≠ w.heap.size := Ne.symm hgr
     have HRL := aa hrl
     have HRW := aa hrw
     clear hrl hrw
     cases ho : okd R with
     | true =>
      rw [ho, Bool.true_and] at hgd
      have ho2 := fZ R HRL.out HRW.out ga _ hbd true ho
      simp only [pv, if_true] at ho2
      have HO := aa ho2
      have HV := aa hgd
      clear ho2 ho hgd
      refine wp_region_held_drew (S := (fun w' => Blk w' gp 37 (ab R))) (by kernel_rfl) hpd (fun hHeld => ?_)
      refine tk 0 rfl ?_ ?_ ?_
      rotate_left
      ·(intro w hSw; (try dsimp only at hSw); refine aG (x := .tmp 4) ?_ ?_ HRL.out hSw <;> rfl)
      try simp only [Act.put, zS]
      refine tk 1 rfl ?_ ?_ ?_
      rotate_left
      ·(intro w hSw; (try dsimp only at hSw); refine aG (x := .tmp 4) ?_ ?_ HRL.out hSw <;> rfl)
      try simp only [Act.put, zS]
      refine tk 2 rfl ?_ ?_ ?_
      rotate_left
      ·(intro w hSw; (try dsimp only at hSw); go_simp; try with_reducible rfl)
      try simp only [Act.put, zS]
      refine wpAnyH_ready (rs := [3]) (by kernel_rfl) (by simp) ?_
      refine AllReadyH.cons rfl (fun K hK => ?_) AllReadyH.nil
      go_simp
      with_reducible_and_instances apply Calls.mono HO.out; rintro e w6 ⟨rfl, z6, k6⟩
      have hp6 := hpd.keep k6 (Ne.symm hgw)
      have hr6 := hrd.keep k6 (Ne.symm hga)
      refine hK.out _ _ ?_ (fun hHeld => ?_)
      ·exact hp6
      clear hK K
      try simp only [Act.put, zS]
      refine tk 4 rfl ?_ ?_ ?_
      rotate_left
      ·(intro w hSw; (try dsimp only at hSw); go_simp; try with_reducible rfl)
      try simp only [Act.put, zS]
      refine tk 5 rfl ?_ ?_ ?_
      rotate_left
      ·(intro w hSw; (try dsimp only at hSw); go_simp; try with_reducible rfl)
      try simp only [Act.put, zS]
      refine tk 6 rfl ?_ ?_ ?_
      rotate_left
      ·(intro w hSw; (try dsimp only at hSw); go_simp; try with_reducible rfl)
      try simp only [Act.put, zS]
      refine wpAnyH_ready (rs := [7]) (by kernel_rfl) (by simp) ?_
      refine AllReadyH.cons rfl (fun K hK => ?_) AllReadyH.nil
      go_simp
      refine (fR _ _ _ _ _ _ (enc R) l _ (aj z6 (by rw [am, aJ HRL.out])) (hRd.keep k6 (fun ad e => by cases e; exact Ne.symm hgb)) v HV.out).mono ?_; rintro e w7 ⟨rfl, rfl⟩
      refine hK.out _ _ ?_ (fun hHeld => ?_)
      ·exact hp6
      clear hK K
      try simp only [Act.put, zS]
      refine tk 8 rfl ?_ ?_ ?_
      rotate_left
      ·(intro w hSw; (try dsimp only at hSw); go_simp; try with_reducible rfl)
      try simp only [Act.put, zS]
      refine wpAnyH_ready (rs := [9]) (by kernel_rfl) (by simp) ?_
      refine AllReadyH.cons rfl (fun K hK => ?_) AllReadyH.nil
      rw [if_pos (by rfl)]
      refine wp_store (old := noP) (q := R) rfl rfl rfl HRL.out rfl hr6 ?_
      refine hK.out _ _ ?_ (fun hHeld => ?_)
      ·exact hp6.setRow_far hgr' _
      clear hK K
      try simp only [Act.put, zS]
      refine tk 10 rfl ?_ ?_ ?_
      rotate_left
      ·(intro w hSw; (try dsimp only at hSw); go_simp; try with_reducible rfl)
      try simp only [Act.put, zS]
      refine wpAnyH_done (by kernel_rfl) ?_ _
      have fin := (hkd.trans k6 (fun b hb e => by have h3 : b = ga := e; omega)).setRow w.heap.size (ab R).toArray (fun h => absurd h (Nat.lt_irrefl _))
      have hr7 := hr6.setRow (ab R)
      go_wp2
      (try simp only [Exit.inBlock, Exit.then])
      refine bodyPost_ret (v := .tuple #[pv R, .bool v]) (results_pair rfl _ _ w.heap.size R HRL.out rfl hr7 _ rfl) rfl ?_
      exact ⟨rfl, fin⟩
     | false =>
      rw [ho, Bool.false_and] at hgd
      have ho2 := fZ R HRL.out HRW.out ga _ hbd false ho
      simp only [pv, if_false, Bool.false_eq_true] at ho2
      have HO := aa ho2
      clear ho2 ho
      subst hgd
      refine wp_region_held_drew (S := (fun w' => Blk w' gp 37 (ab R))) (by kernel_rfl) hpd (fun hHeld => ?_)
      refine tk 0 rfl ?_ ?_ ?_
      rotate_left
      ·(intro w hSw; (try dsimp only at hSw); refine aG (x := .tmp 4) ?_ ?_ HRL.out hSw <;> rfl)
      try simp only [Act.put, zS]
      refine tk 1 rfl ?_ ?_ ?_
      rotate_left
      ·(intro w hSw; (try dsimp only at hSw); refine aG (x := .tmp 4) ?_ ?_ HRL.out hSw <;> rfl)
      try simp only [Act.put, zS]
      refine tk 2 rfl ?_ ?_ ?_
      rotate_left
      ·(intro w hSw; (try dsimp only at hSw); go_simp; try with_reducible rfl)
      try simp only [Act.put, zS]
      refine wpAnyH_ready (rs := [3]) (by kernel_rfl) (by simp) ?_
      refine AllReadyH.cons rfl (fun K hK => ?_) AllReadyH.nil
      go_simp
      with_reducible_and_instances apply Calls.mono HO.out; rintro e w6 ⟨rfl, z6, k6⟩
      have hp6 := hpd.keep k6 (Ne.symm hgw)
      have hr6 := hrd.keep k6 (Ne.symm hga)
      refine hK.out _ _ ?_ (fun hHeld => ?_)
      ·exact hp6
      clear hK K
      try simp only [Act.put, zS]
      refine tk 4 rfl ?_ ?_ ?_
      rotate_left
      ·(intro w hSw; (try dsimp only at hSw); go_simp; try with_reducible rfl)
      try simp only [Act.put, zS]
      refine sk 5 rfl ?_
      try simp only [Act.put, zS]
      refine sk 6 rfl ?_
      try simp only [Act.put, zS]
      refine sk 7 rfl ?_
      try simp only [Act.put, zS]
      refine tk 8 rfl ?_ ?_ ?_
      rotate_left
      ·(intro w hSw; (try dsimp only at hSw); go_simp; try with_reducible rfl)
      try simp only [Act.put, zS]
      refine wpAnyH_ready (rs := [9]) (by kernel_rfl) (by simp) ?_
      refine AllReadyH.cons rfl (fun K hK => ?_) AllReadyH.nil
      rw [if_pos (by rfl)]
      refine wp_store (old := noP) (q := R) rfl rfl rfl HRL.out rfl hr6 ?_
      refine hK.out _ _ ?_ (fun hHeld => ?_)
      ·exact hp6.setRow_far hgr' _
      clear hK K
      try simp only [Act.put, zS]
      refine tk 10 rfl ?_ ?_ ?_
      rotate_left
      ·(intro w hSw; (try dsimp only at hSw); go_simp; try with_reducible rfl)
      try simp only [Act.put, zS]
      refine wpAnyH_done (by kernel_rfl) ?_ _
      have fin := (hkd.trans k6 (fun b hb e => by have h3 : b = ga := e; omega)).setRow w.heap.size (ab R).toArray (fun h => absurd h (Nat.lt_irrefl _))
      have hr7 := hr6.setRow (ab R)
      go_wp2
      (try simp only [Exit.inBlock, Exit.then])
      refine bodyPost_ret (v := .tuple #[pv R, .bool false]) (results_pair rfl _ _ w.heap.size R HRL.out rfl hr7 _ rfl) rfl ?_
      exact ⟨rfl, fin⟩
end Go.Proofs.YtgcikpgcoemfnaaGreat.Cd
namespace Go.Proofs.YtgcikpgcoemfnaaGreat.Cd
open Go.RowKit
theorem wrap_byt_ (n : Int) : IntKind.u8.wrap n = ((byt n).toNat : Int) := by
 rw [byt, cj, IntKind.wrap_u8']
theorem dD {w : World} {g : Nat} {t : TypeId} {a0 a1 a2 a3 a4 a5 a6 a7 f0 f1 f2 f3 f4 f5 f6 f7 : Int} (hb : Blk w g t (ab [a0, a1, a2, a3, a4, a5, a6, a7, f0, f1, f2, f3, f4, f5, f6, f7])) :
  w.cell? ⟨g, 4, none⟩ = some (.int .i64 a4) ∧ w.cell? ⟨g, 5, none⟩ = some (.int .i64 a5) ∧ w.cell? ⟨g, 6, none⟩ = some (.int .i64 a6) ∧ w.cell? ⟨g, 7, none⟩ = some (.int .i64 a7) := by
 refine ⟨?_, ?_, ?_, ?_⟩ <;> rw [hb.cell] <;> rfl
def head (p : List Int) : List UInt8 := [byt (p.getD 0 0), byt (p.getD 1 0), byt (p.getD 2 0), byt (p.getD 3 0)] ++ two (p.getD 4 0) ++ two (p.getD 5 0) ++ two (p.getD 6 0) ++ two (p.getD 7 0)
theorem procbytes_is (p : List Int) (hl : p.length = 16) (ok : okd p = true) (w : World) :
  Calls Tryz.prog 16 #[pv p] w fun e w' => e = .returned (.string (str (enc p))) ∧ Keep Nob w w' := by
 have B := aH ok
 have T4 := fun w => jX (p.getD 4 0) w B.pe.1 B.pe.2
 have T5 := fun w => jX (p.getD 5 0) w B.m.1 B.m.2
 have T6 := fun w => jX (p.getD 6 0) w B.i.1 B.i.2
 have T7 := fun w => jX (p.getD 7 0) w B.ca.1 B.ca.2
 have hpe : pre p = head p ++ (p.drop 8).map byt ++ [167] := rfl
 have hen : enc p = pre p ++ [bK (pre p), 0, 0] := rfl
 have hhl : (head p).length = 12 := rfl
 clear B ok
 obtain ⟨a0, a1, a2, a3, a4, a5, a6, a7, f0, f1, f2, f3, f4, f5, f6, f7, rfl⟩ := aD hl
 simp only [List.getD_cons_succ, List.getD_cons_zero, List.drop_succ_cons, List.drop_zero] at T4 T5 T6 T7 hpe
 have s4 := fun W => cT ([byt a0, byt a1, byt a2, byt a3]) (two a4) (by simp [two]) W
 have s5 := fun W => cT ([byt a0, byt a1, byt a2, byt a3] ++ two a4) (two a5) (by simp [two]) W
 have s6 := fun W => cT ([byt a0, byt a1, byt a2, byt a3] ++ two a4 ++ two a5) (two a6) (by simp [two]) W
 have s7 := fun W => cT ([byt a0, byt a1, byt a2, byt a3] ++ two a4 ++ two a5 ++ two a6) (two a7) (by simp [two]) W
 rw [show [byt a0, byt a1, byt a2, byt a3] ++ two a4 ++ two a5 ++ two a6 ++ two a7 = head [a0, a1, a2, a3, a4, a5, a6, a7, f0, f1, f2, f3, f4, f5, f6, f7] from rfl] at s7
 obtain ⟨y0, hy0⟩ : ∃ y, IntKind.u8.wrap a0 = y := ⟨_, rfl⟩
 obtain ⟨y1, hy1⟩ : ∃ y, IntKind.u8.wrap a1 = y := ⟨_, rfl⟩
 obtain ⟨y2, hy2⟩ : ∃ y, IntKind.u8.wrap a2 = y := ⟨_, rfl⟩
 obtain ⟨y3, hy3⟩ : ∃ y, IntKind.u8.wrap a3 = y := ⟨_, rfl⟩
 have hcv := fun (W : World) c => df W [byt a0, byt a1, byt a2, byt a3] [.int .u8 y0, .int .u8 y1, .int .u8 y2, .int .u8 y3] 4 c (by subst hy0 hy1 hy2 hy3; simp only [wrap_byt_]; rfl) rfl
 generalize hS3 : str ([byt a0, byt a1, byt a2, byt a3]) = S3 at *
 generalize hS4 : str ([byt a0, byt a1, byt a2, byt a3] ++ two a4) = S4 at *
 generalize hS5 : str ([byt a0, byt a1, byt a2, byt a3] ++ two a4 ++ two a5) = S5 at *
 generalize hS6 : str ([byt a0, byt a1, byt a2, byt a3] ++ two a4 ++ two a5 ++ two a6) = S6 at *
 generalize hH : head [a0, a1, a2, a3, a4, a5, a6, a7, f0, f1, f2, f3, f4, f5, f6, f7] = H at *
 generalize hE : enc [a0, a1, a2, a3, a4, a5, a6, a7, f0, f1, f2, f3, f4, f5, f6, f7] = E at *
 generalize hQ : pre [a0, a1, a2, a3, a4, a5, a6, a7, f0, f1, f2, f3, f4, f5, f6, f7] = Q0 at *
 generalize str (two a4) = t4 at *
 generalize str (two a5) = t5 at *
 generalize str (two a6) = t6 at *
 generalize str (two a7) = t7 at *
 clear hS3 hS4 hS5 hS6 hH hE hQ hl
 have HT4 := aa T4
 have HT5 := aa T5
 have HT6 := aa T6
 have HT7 := aa T7
 have HPE := aa hpe
 have HEN := aa hen
 have HHL := aa hhl
 clear T4 T5 T6 T7 hpe hen hhl
 have HCV := aa hcv
 clear hcv
 simp only [pv, ab, List.map_cons, List.map_nil]
 go_enter Tryz.func16, Tryz.ntmps16
 go_wp2_with (refine af rfl 37 _ rfl _ rfl ?_; intro w1 hb hk hs; clear hs; have hb : Blk w1 w.heap.size 37 (ab [a0, a1, a2, a3, a4, a5, a6, a7, f0, f1, f2, f3, f4, f5, f6, f7]) := hb; have hcv := HCV.out w1; obtain ⟨c0, c1, c2, c3, c4, c5, c6, c7, c8, c9, c10, c11, c12, c13, c14, c15⟩ := fj hb)
 have hb2 := hb.alloc (.cells #[.int .u8 y0, .int .u8 y1, .int .u8 y2, .int .u8 y3] 5)
 have hk2 := hk.alloc (.cells #[.int .u8 y0, .int .u8 y1, .int .u8 y2, .int .u8 y3] 5)
 clear hb hk hcv HCV c0 c1 c2 c3 c4 c5 c6 c7 c8 c9 c10 c11 c12 c13 c14 c15
 generalize w1.alloc (.cells #[.int .u8 y0, .int .u8 y1, .int .u8 y2, .int .u8 y3] 5) = w2 at *
 have hbd := hb2.drew
 have hkd := hk2.drew
 clear hb2 hk2
 go_region_held3 (fun w' => w'.cell? ⟨w.heap.size, 4, none⟩ = some (.int .i64 a4) ∧ w'.cell? ⟨w.heap.size, 5, none⟩ = some (.int .i64 a5) ∧ w'.cell? ⟨w.heap.size, 6, none⟩ = some (.int .i64 a6) ∧ w'.cell? ⟨w.heap.size, 7, none⟩ = some (.int .i64 a7))
  (first | with_reducible_and_instances exact dD hbd | with_reducible_and_instances exact dD hb4 | with_reducible_and_instances exact dD hb5 | with_reducible_and_instances exact dD hb6 | with_reducible_and_instances exact dD hb7)
  (first | (go_at_call 50; with_reducible_and_instances apply Calls.mono (HT4.out _); rintro e w4 ⟨rfl, k4⟩; have hb4 := hbd.nob k4; have hk4 := hkd.nobt k4) | (go_at_call 50; with_reducible_and_instances apply Calls.mono (HT5.out _); rintro e w5 ⟨rfl, k5⟩; have hb5 := hb4.nob k5; have hk5 := hk4.nobt k5) | (go_at_call 50; with_reducible_and_instances apply Calls.mono (HT6.out _); rintro e w6 ⟨rfl, k6⟩; have hb6 := hb5.nob k6; have hk6 := hk5.nobt k6) | (go_at_call 50; with_reducible_and_instances apply Calls.mono (HT7.out _); rintro e w7 ⟨rfl, k7⟩; have hb7 := hb6.nob k7; have hk7 := hk6.nobt k7))
 clear s4 s5 s6 s7 HT4 HT5 HT6 HT7 hy0 hy1 hy2 hy3
 have hcF : ∀ (W : World) g (hb : Blk W g 37 (ab [a0, a1, a2, a3, a4, a5, a6, a7, f0, f1, f2, f3, f4, f5, f6, f7])) k, k < 8 → W.cell? ⟨g, 8 + k, none⟩ = some (.int .i64 (([f0, f1, f2, f3, f4, f5, f6, f7] : List Int).getD k 0)) := fun W g hb k hk => by
  rw [hb.cell, show ab [a0, a1, a2, a3, a4, a5, a6, a7, f0, f1, f2, f3, f4, f5, f6, f7] = ab [a0, a1, a2, a3, a4, a5, a6, a7] ++ ab [f0, f1, f2, f3, f4, f5, f6, f7] from rfl, List.getElem?_append_right (by simp), dd]
  show (ab [f0, f1, f2, f3, f4, f5, f6, f7])[8 + k - 8]? = _
  rw [Nat.add_sub_cancel_left, bg, List.getD_eq_getElem?_getD, List.getElem?_eq_getElem hk]; rfl
 have HCF := aa hcF
 have htk : ∀ k, k < 8 → ([f0, f1, f2, f3, f4, f5, f6, f7] : List Int).take (k + 1) = [f0, f1, f2, f3, f4, f5, f6, f7].take k ++ [([f0, f1, f2, f3, f4, f5, f6, f7] : List Int).getD k 0] := fun k hk => by
  rw [List.take_succ_eq_append_getElem hk, List.getD_eq_getElem?_getD, List.getElem?_eq_getElem hk]; rfl
 have HTK := aa htk
 clear hcF htk
 go_wp2_with fail
 go_loopw [4, 3] (fun s4 s3 wx => ∃ k : Nat, k ≤ 8 ∧ s4 = .int .i64 k ∧ s3 = .string (str (H ++ (([f0, f1, f2, f3, f4, f5, f6, f7] : List Int).take k).map byt)) ∧ Blk wx w.heap.size 37 (ab [a0, a1, a2, a3, a4, a5, a6, a7, f0, f1, f2, f3, f4, f5, f6, f7]) ∧ Keep Nob w wx) (fun s4 _ _ => 8 - (intOf s4).toNat)
 case atStart => exact ⟨0, Nat.zero_le _, rfl, by simp, hb7, hk7⟩
 case round =>
  obtain ⟨k, hk, rfl, rfl, hb8, hk8⟩ := hrel
  clear hb7 hk7
  by_cases hlt : k < 8
  ·have ck := HCF.out _ _ hb8 k hlt
   have ht := HTK.out k hlt
   have hlen : (H ++ (([f0, f1, f2, f3, f4, f5, f6, f7] : List Int).take k).map byt).length + 1 ≤ 100000 := by rw [List.length_append, HHL.out]; simp; omega
   generalize ([f0, f1, f2, f3, f4, f5, f6, f7] : List Int).getD k 0 = u at *
   have sa := fun W => cT (H ++ (([f0, f1, f2, f3, f4, f5, f6, f7] : List Int).take k).map byt) [byt u] hlen W
   rw [show H ++ (([f0, f1, f2, f3, f4, f5, f6, f7] : List Int).take k).map byt ++ [byt u] = H ++ (([f0, f1, f2, f3, f4, f5, f6, f7] : List Int).take (k + 1)).map byt from by rw [ht]; simp] at sa
   clear ht hlen
   generalize str (H ++ (([f0, f1, f2, f3, f4, f5, f6, f7] : List Int).take k).map byt) = S at *
   obtain ⟨S', hS'⟩ : ∃ S', str (H ++ (([f0, f1, f2, f3, f4, f5, f6, f7] : List Int).take (k + 1)).map byt) = S' := ⟨_, rfl⟩
   rw [hS'] at sa
   have HS' := aa hS'
   clear hS'
   obtain ⟨y, hy⟩ : ∃ y, IntKind.u8.wrap u = y := ⟨_, rfl⟩
   have cv := fun c => df wr [byt u] [.int .u8 y] 1 c (by rw [← hy, wrap_byt_]; rfl) rfl
   have hb9 := hb8.alloc (.cells #[.int .u8 y] 5)
   have hk9 := hk8.alloc (.cells #[.int .u8 y] 5)
   clear hb8 hk8
   generalize str [byt u] = z at *
   go_wp2_with fail
   go_round
   case rel => exact ⟨k + 1, by omega, by go_num, by rw [HS'.out], hb9, hk9⟩
   case measure => simp [intOf]; omega
  ·obtain rfl : k = 8 := by omega
   clear HCF HTK hlt hk hb8
   have hlen : (H ++ [f0, f1, f2, f3, f4, f5, f6, f7].map byt).length = 20 := by rw [List.length_append, HHL.out]; rfl
   have hql : Q0.length = 21 := by rw [HPE.out, List.length_append, hlen]; rfl
   have sa := fun W => cT (H ++ [f0, f1, f2, f3, f4, f5, f6, f7].map byt) [167] (by rw [hlen]; decide) W
   rw [← HPE.out, show str [167] = { data := #[167] } from rfl] at sa
   have hw8 : H ++ (([f0, f1, f2, f3, f4, f5, f6, f7] : List Int).take 8).map byt = H ++ [f0, f1, f2, f3, f4, f5, f6, f7].map byt := rfl
   rw [hw8]
   clear hw8 hlen
   generalize str (H ++ [f0, f1, f2, f3, f4, f5, f6, f7].map byt) = S at *
   have sb := fun W => cT Q0 [bK Q0, 0, 0] (by rw [hql]; show 21 + 3 ≤ 100000; decide) W
   rw [← HEN.out] at sb
   have hq : (((bK Q0).toNat : Nat) : Int) = ((tot Q0 % 256 : Nat) : Int) := by
    rw [bK, UInt8.toNat_ofNat', Nat.mod_mod]
   have HR := aa (fun W => jV (l := Q0) (w := W) (by omega) ((tot Q0 % 256 : Nat) : Int) rfl)
   clear hql HPE HEN
   generalize ((tot Q0 % 256 : Nat) : Int) = q at *
   have cv := fun c => df wr [bK Q0, 0, 0] [.int .u8 q, .int .u8 0, .int .u8 0] 3 c (by rw [← hq]; rfl) rfl
   clear hq
   have hk9 := hk8.alloc (.cells #[.int .u8 q, .int .u8 0, .int .u8 0] 5)
   clear hk8
   generalize str [bK Q0, 0, 0] = z at *
   generalize str Q0 = S0 at *
   go_wp2_with fail
   refine (HR.out _).mono ?_; rintro e w9 ⟨rfl, rfl⟩
   go_wp2
   go_ret
   exact ⟨rfl, hk9⟩
end Go.Proofs.YtgcikpgcoemfnaaGreat.Cd
namespace Go.Proofs.YtgcikpgcoemfnaaGreat.Cd
open Go.RowKit
section
variable {ρ : Operand → Value} {o : Oper} {x y : Operand} {w : World} {g : Nat} {q old : List Int}
theorem ea (ho : o.op = .store 37 x y) (hx : ρ x = .pointer (some ⟨g, 0, none⟩)) (hy : ρ y = .agg (ab q).toArray) (hq : q.length = 16) (hd : old.length = 16) (hb : Blk w g 37 (ab old)) :
  (execOp ρ o).run Tryz.prog w = .ok .skip (w.setRow g (ab q).toArray) := by
 have := run_storeVar_row (P := Tryz.prog) w g 37 37 (ab old).toArray (ab q).toArray hb (by rw [bz]; simp [hq]) (by simp [hq, hd]) (by rw [Array.all_eq_true_iff_forall_mem]; intro v hv; exact dz q v (by simpa using hv))
 simp [execOp, ho, hx, hy, Instr.storeAt, Instr.sureAddr, this, Result.andThen]
theorem aU {a : Act} {K : Act → World → Prop} {Q : Exit → Act → World → Prop} (ho : o.op = .store 37 x y) (hx : a.eval x = .pointer (some ⟨g, 0, none⟩)) (hy : a.eval y = .agg (ab q).toArray) (hq : q.length = 16) (hd : old.length = 16) (hb : Blk w g 37 (ab old))
  (h : K (a.put o.dst undef) (w.setRow g (ab q).toArray)) : Oper.wp Tryz.prog o a w K Q := by
 unfold Oper.wp
 rw [ea ho hx hy hq hd hb]
 exact h
end
section
variable {ops : Array Oper} {rest : List Oper} {o : Oper} {a : Act} {Q : Exit → Act → World → Prop} {w : World}
theorem wpList_st (hgd : o.guard = none) (x y : Operand) (ho : o.op = .store 37 x y) (g : Nat) (q old : List Int) (hx : a.eval x = .pointer (some ⟨g, 0, none⟩)) (hy : a.eval y = .agg (ab q).toArray) (hq : q.length = 16) (hd : old.length = 16) (hb : Blk w g 37 (ab old))
  (h : ∀ w', Blk w' g 37 (ab q) → Keep (· = g) w w' → w'.heap.size = w.heap.size → wpList Tryz.prog ops Q rest (a.put o.dst undef) w') : wpList Tryz.prog ops Q (o :: rest) a w := by
 refine wpList_plain hgd fun K hK => ?_
 have hrun := run_storeVar_row (P := Tryz.prog) w g 37 37 (ab old).toArray (ab q).toArray hb (by rw [bz]; simp [hq]) (by simp [hq, hd]) (by rw [Array.all_eq_true_iff_forall_mem]; intro v hv; exact dz q v (by simpa using hv))
 have hh := h (w.setRow g (ab q).toArray) (hb.setRow _) ((Keep.refl _ w).setRow g _ (fun _ => rfl)) (by simp)
 unfold Oper.wp
 simp [execOp, ho, hx, hy, Instr.storeAt, Instr.sureAddr, hrun, Result.andThen]
 exact hK _ _ hh
theorem wpList_ld (hgd : o.guard = none) (x : Operand) (ho : o.op = .load 37 x) (g : Nat) (q : List Int) (hx : a.eval x = .pointer (some ⟨g, 0, none⟩)) (hq : q.length = 16) (hb : Blk w g 37 (ab q))
  (h : wpList Tryz.prog ops Q rest (a.put o.dst (.agg (ab q).toArray)) w) : wpList Tryz.prog ops Q (o :: rest) a w := by
 refine wpList_plain hgd fun K hK => ?_
 have hrun := run_loadVar_row (P := Tryz.prog) w g 37 37 (ab q).toArray (0, 0) _ hb Tryz.underlying37 rfl (by rw [bz]; simp [hq])
 unfold Oper.wp
 simp [execOp, ho, hx, Instr.loadAt, Instr.sureAddr, hrun, Result.andThen]
 exact hK _ _ h
end
end Go.Proofs.YtgcikpgcoemfnaaGreat.Cd
namespace Go.Proofs.YtgcikpgcoemfnaaGreat.Co
open Go.RowKit
theorem alP (W : World) : (Instr.alloc 37 true (.tuple #[])).run Tryz.prog W = .ok (.pointer (some ⟨W.heap.size, 0, none⟩)) (W.alloc (.cells (ab Cd.noP).toArray 37)) := by
 go_simp
 rfl
theorem alF (W : World) : (Instr.alloc 64 true (.tuple #[])).run Tryz.prog W = .ok (.pointer (some ⟨W.heap.size, 0, none⟩)) (W.alloc (.cells (ab Fi.noP).toArray 64)) := by
 go_simp
 rfl
theorem ar : cS 37 16 (ab Cd.noP) := ⟨⟨_, Tryz.underlying37, rfl⟩, Cd.bz, alP, rfl⟩
theorem bn : cS 64 4 (ab Fi.noP) := ⟨⟨_, Tryz.underlying64, rfl⟩, Fi.bz, alF, rfl⟩
theorem bj : cS 83 36 (Ri.pc Ri.noP) := ⟨⟨_, Tryz.underlying83, rfl⟩, Ri.bz, Ri.run_al, rfl⟩
theorem ai {n : Nat} {l : List Int} (h : l.length = n) : cE n (ab l) := ⟨by simp [ab, h], dz l⟩
theorem aO {p : Ri.Pp} (h : p.d.length = 32) : cE 36 (Ri.pc p) := ⟨Ri.bQ h, Ri.jl p⟩
end Go.Proofs.YtgcikpgcoemfnaaGreat.Co
namespace Go.Proofs.YtgcikpgcoemfnaaGreat.Cd
open Go.RowKit
def IsC (w : World) (p : Nat) : Prop := Blk w p 304 [.int .i64 24, .func (.func 203) #[] #[], .func (.func 204) #[] #[]]
theorem IsC.nob {w w' : World} {p : Nat} (h : IsC w p) (k : Keep Nob w w') : IsC w' p := Blk.nob h k
theorem new_is (w : World) : Calls Tryz.prog 202 #[.int .i64 24, .func (.func 203) #[] #[], .func (.func 204) #[] #[]] w fun e w' => e = .returned (.pointer (some ⟨w.heap.size, 0, none⟩)) ∧ IsC w' w.heap.size ∧ Keep Nob w w' := by
 go_enter Tryz.func202, Tryz.ntmps202
 go_wp2
 go_ret
 exact ⟨rfl, Blk.new w 304 [.int .i64 24, .func (.func 203) #[] #[], .func (.func 204) #[] #[]], (Keep.refl Nob w).alloc _⟩
theorem eN (w : World) : Calls Tryz.prog 109 #[] w fun e w' => ∃ p, e = .returned (.pointer (some ⟨p, 0, none⟩)) ∧ IsC w' p ∧ Keep Nob w w' := by
 go_enter Tryz.func109, Tryz.ntmps109
 go_wp2_with fail
 refine (new_is w).mono ?_; rintro e w1 ⟨rfl, h1, k1⟩
 go_wp2
 go_ret
 exact ⟨_, rfl, h1, k1⟩
theorem pnil (f : Fn) (a b : Array Value) (w : World) : (binOp .eql 302 (.func f a b) .nilFunc).run Tryz.prog w = .ok (.bool false) w := by
 have := Tryz.underlying302
 first
 | (rfl; done)
 | (go_simp; done)
theorem gnil (f : Fn) (a b : Array Value) (w : World) : (binOp .eql 200 (.func f a b) .nilFunc).run Tryz.prog w = .ok (.bool false) w := by
 have := Tryz.underlying200
 first
 | (rfl; done)
 | (go_simp; done)
def Told (w0 w : World) (P : List Int) (v : Bool) (x : Value) : Prop := match v with
 | true => ∃ A m, x = .slice A 24 m ∧ Vec w 5 1 A 24 m (bytes (enc P)) ∧ (∀ g, Own A g → w0.heap.size ≤ g)
 | false => x = .slice none 0 0
theorem Told.from_ {w0 w0' w : World} {P : List Int} {v : Bool} {x : Value} (h : Told w0' w P v x) (hs : w0.heap.size ≤ w0'.heap.size) : Told w0 w P v x := by
 cases v with
 | true => obtain ⟨A, m, h1, h2, h3⟩ := h; exact ⟨A, m, h1, h2, fun g hg => Nat.le_trans hs (h3 g hg)⟩
 | false => exact h
theorem iB (p : Nat) (P : List Int) (hl : P.length = 16) (hw : ∀ x ∈ P, Wf x) (w : World) (h : IsC w p) (v : Bool) (hv : okd P = v) :
  Calls Tryz.prog 199 #[.pointer (some ⟨p, 0, none⟩), pv P] w fun e w' => ∃ x, e = .returned (.tuple #[x, .bool v]) ∧ Told w w' P v x ∧ Keep Nob w w' := by
 have hnil := pnil
 have ho := fun g w hz => fZ P hl hw g w hz v hv
 simp only [pv] at ho ⊢
 have HO := aa ho
 have HL := aa hl
 clear ho hl hw
 go_enter Tryz.func199, Tryz.ntmps199
 go_wp2_with (first | (refine af rfl 37 _ rfl _ rfl ?_; intro w1 hb1 hk1 hs1; clear hs1; have hb1 : Blk w1 w.heap.size 37 (ab P) := hb1; have c0 : w1.cell? ⟨p, 0, none⟩ = some (.int .i64 24) := Blk.cell (h.nob hk1) 0) | (refine bu rfl _ _ 28 rfl 5 (.int .u8 0) 1 Tryz.underlying28 Tryz.info5 rfl .i64 .i64 24 _ rfl rfl rfl (by omega) (by omega) ?_; intro w2 hb2 hk2 hs2; clear hs2))
 rw [← ao] at hb2
 have hC2 := (h.nob hk1).nob hk2
 have hB2 := hb1.nob hk2
 have hK2 := hk1.nobt hk2
 have hge : w.heap.size ≤ w1.heap.size := hk1.size
 have hne : w.heap.size ≠ w1.heap.size := by have := hb1.lt; omega
 have hpe : p ≠ w1.heap.size := by have := (h.nob hk1).lt; omega
 clear c0 hb1 hk1 hk2 h
 generalize w1.heap.size = g at *
 have hC := hC2.nob (Keep.nobdrew w2)
 have hB := hB2.drew
 have kk := hK2.drew
 have hz := hb2.drew
 clear hC2 hB2 hK2 hb2
 have c1 : w2.drew.cell? ⟨p, 1, none⟩ = some (.func (.func 203) #[] #[]) := Blk.cell hC 1
 refine wp_region_held_drew (S := (fun w' => w'.cell? ⟨p, 1, none⟩ = some (.func (.func 203) #[] #[]) ∧ Blk w' w.heap.size 37 (ab P))) (by kernel_rfl) ⟨c1, hB⟩ (fun hHeld => ?_)
 refine tk 0 rfl ?_ ?_ ?_
 rotate_left
 ·(intro w hSw; (try dsimp only at hSw); obtain ⟨s1, s2⟩ := hSw; go_simp; try with_reducible rfl)
 try simp only [Act.put, zS]
 refine tk 1 rfl ?_ ?_ ?_
 rotate_left
 ·(intro w hSw; (try dsimp only at hSw); obtain ⟨s1, s2⟩ := hSw; go_simp; try with_reducible rfl)
 try simp only [Act.put, zS]
 refine tk 2 rfl ?_ ?_ ?_
 rotate_left
 ·(intro w hSw; (try dsimp only at hSw); obtain ⟨s1, s2⟩ := hSw; go_simp; try with_reducible rfl)
 try simp only [Act.put, zS]
 refine tk 3 rfl ?_ ?_ ?_
 rotate_left
 ·(intro w hSw; (try dsimp only at hSw); obtain ⟨s1, s2⟩ := hSw; go_simp; try with_reducible rfl)
 try simp only [Act.put, zS]
 refine tk 4 rfl ?_ ?_ ?_
 rotate_left
 ·(intro w hSw; (try dsimp only at hSw); obtain ⟨s1, s2⟩ := hSw; go_simp; try with_reducible rfl)
 try simp only [Act.put, zS]
 refine tk 5 rfl ?_ ?_ ?_
 rotate_left
 ·(intro w hSw; (try dsimp only at hSw); obtain ⟨s1, s2⟩ := hSw; go_simp; try with_reducible rfl)
 try simp only [Act.put, zS]
 refine tk 6 rfl ?_ ?_ ?_
 rotate_left
 ·(intro w hSw; (try dsimp only at hSw); obtain ⟨s1, s2⟩ := hSw; go_simp; try with_reducible rfl)
 try simp only [Act.put, zS]
 refine tk 7 rfl ?_ ?_ ?_
 rotate_left
 ·(intro w hSw; (try dsimp only at hSw); obtain ⟨s1, s2⟩ := hSw; go_simp; try with_reducible rfl)
 try simp only [Act.put, zS]
 refine tk 8 rfl ?_ ?_ ?_
 rotate_left
 ·(intro w hSw; (try dsimp only at hSw); obtain ⟨s1, s2⟩ := hSw; go_simp; try with_reducible rfl)
 try simp only [Act.put, zS]
 refine tk 9 rfl ?_ ?_ ?_
 rotate_left
 ·(intro w hSw; (try dsimp only at hSw); obtain ⟨s1, s2⟩ := hSw; go_simp; try with_reducible rfl)
 try simp only [Act.put, zS]
 refine tk 10 rfl ?_ ?_ ?_
 rotate_left
 ·(intro w hSw; (try dsimp only at hSw); obtain ⟨s1, s2⟩ := hSw; refine aG (x := .tmp 3) ?_ ?_ HL.out s2 <;> rfl)
 try simp only [Act.put, zS]
 refine tk 11 rfl ?_ ?_ ?_
 rotate_left
 ·(intro w hSw; (try dsimp only at hSw); obtain ⟨s1, s2⟩ := hSw; go_simp; try with_reducible rfl)
 try simp only [Act.put, zS]
 refine wpAnyH_ready (rs := [12]) (by kernel_rfl) (by simp) ?_
 refine AllReadyH.cons rfl (fun K hK => ?_) AllReadyH.nil
 go_simp
 with_reducible_and_instances apply Calls.mono (HO.out g _ hz); rintro e w6 ⟨rfl, z6, k6⟩
 have hC6 : IsC w6 p := Blk.keep hC k6 hpe
 have hB6 := hB.keep k6 hne
 have hK6 : Keep Nob w w6 := kk.trans k6 (fun b hb e => by have h3 : b = g := e; omega)
 refine hK.out _ _ ?_ (fun hHeld => ?_)
 ·exact ⟨Blk.cell hC6 1, hB6⟩
 clear hK K
 try simp only [Act.put, zS]
 refine tk 13 rfl ?_ ?_ ?_
 rotate_left
 ·(intro w hSw; (try dsimp only at hSw); obtain ⟨s1, s2⟩ := hSw; go_simp; try with_reducible rfl)
 try simp only [Act.put, zS]
 refine tk 14 rfl ?_ ?_ ?_
 rotate_left
 ·(intro w hSw; (try dsimp only at hSw); obtain ⟨s1, s2⟩ := hSw; go_simp; try with_reducible rfl)
 try simp only [Act.put, zS]
 refine wpAnyH_done (by kernel_rfl) ?_ _
 cases v with
 | false =>
  go_wp2
  go_ret2
  exact ⟨_, rfl, rfl, hK6⟩
 | true =>
  rw [if_pos rfl] at z6
  have r6 := aj z6 (by rw [am, aJ HL.out])
  go_wp2_with fail
  refine (clone_is _ _ _ _ _ r6 (by omega)).mono ?_; rintro e w7 ⟨A, m, rfl, v7, k7, o7⟩
  go_wp2
  go_ret2
  exact ⟨_, rfl, ⟨A, m, rfl, v7, fun b hb => Nat.le_trans hK6.size (o7 b hb)⟩, hK6.nobt k7⟩
def eY (l : List UInt8) : List Int × Bool := if l.length = 24 then (if gd l then (rd l, true) else (noP, false)) else (noP, false)
theorem fi (p : Nat) (A : Option Addr) (n cap : Nat) (l : List UInt8) (w : World) (h : IsC w p) (hr : ae w A n (bytes l)) (hn : n ≤ 140737488351232) (R : List Int) (v : Bool) (hd : eY l = (R, v)) :
  Calls Tryz.prog 110 #[.pointer (some ⟨p, 0, none⟩), .slice A n cap] w fun e w' => e = .returned (.tuple #[pv R, .bool v]) ∧ Keep Nob w w' := by
 have hl : l.length = n := by simpa using hr.1
 have hnil := gnil
 have hR0 : Blk ((w.alloc (.cells #[.int .i64 0, .int .i64 0, .int .i64 0, .int .i64 0, .int .i64 0, .int .i64 0, .int .i64 0, .int .i64 0, .int .i64 0, .int .i64 0, .int .i64 0, .int .i64 0, .int .i64 0, .int .i64 0, .int .i64 0, .int .i64 0] 37)).alloc (.cells #[.int .i64 0, .int .i64 0, .int .i64 0, .int .i64 0, .int .i64 0, .int .i64 0, .int .i64 0, .int .i64 0, .int .i64 0, .int .i64 0, .int .i64 0, .int .i64 0, .int .i64 0, .int .i64 0, .int .i64 0, .int .i64 0] 37)) w.heap.size 37 (ab noP) := (Blk.new w 37 (ab noP)).alloc _
 have hZ0 : Blk ((w.alloc (.cells #[.int .i64 0, .int .i64 0, .int .i64 0, .int .i64 0, .int .i64 0, .int .i64 0, .int .i64 0, .int .i64 0, .int .i64 0, .int .i64 0, .int .i64 0, .int .i64 0, .int .i64 0, .int .i64 0, .int .i64 0, .int .i64 0] 37)).alloc (.cells #[.int .i64 0, .int .i64 0, .int .i64 0, .int .i64 0, .int .i64 0, .int .i64 0, .int .i64 0, .int .i64 0, .int .i64 0, .int .i64 0, .int .i64 0, .int .i64 0, .int .i64 0, .int .i64 0, .int .i64 0, .int .i64 0] 37)) (w.heap.size + 1) 37 (ab noP) := by
  have := Blk.new (w.alloc (.cells #[.int .i64 0, .int .i64 0, .int .i64 0, .int .i64 0, .int .i64 0, .int .i64 0, .int .i64 0, .int .i64 0, .int .i64 0, .int .i64 0, .int .i64 0, .int .i64 0, .int .i64 0, .int .i64 0, .int .i64 0, .int .i64 0] 37)) 37 (ab noP)
  rw [show (w.alloc (.cells #[.int .i64 0, .int .i64 0, .int .i64 0, .int .i64 0, .int .i64 0, .int .i64 0, .int .i64 0, .int .i64 0, .int .i64 0, .int .i64 0, .int .i64 0, .int .i64 0, .int .i64 0, .int .i64 0, .int .i64 0, .int .i64 0] 37)).heap.size = w.heap.size + 1 from by simp] at this
  exact this
 have hK0 : Keep Nob w ((w.alloc (.cells #[.int .i64 0, .int .i64 0, .int .i64 0, .int .i64 0, .int .i64 0, .int .i64 0, .int .i64 0, .int .i64 0, .int .i64 0, .int .i64 0, .int .i64 0, .int .i64 0, .int .i64 0, .int .i64 0, .int .i64 0, .int .i64 0] 37)).alloc (.cells #[.int .i64 0, .int .i64 0, .int .i64 0, .int .i64 0, .int .i64 0, .int .i64 0, .int .i64 0, .int .i64 0, .int .i64 0, .int .i64 0, .int .i64 0, .int .i64 0, .int .i64 0, .int .i64 0, .int .i64 0, .int .i64 0] 37)) := ((Keep.refl Nob w).alloc _).alloc _
 have hC0 := h.nob hK0
 have hr0 := hr.nob hK0
 have c2 : ((w.alloc (.cells #[.int .i64 0, .int .i64 0, .int .i64 0, .int .i64 0, .int .i64 0, .int .i64 0, .int .i64 0, .int .i64 0, .int .i64 0, .int .i64 0, .int .i64 0, .int .i64 0, .int .i64 0, .int .i64 0, .int .i64 0, .int .i64 0] 37)).alloc (.cells #[.int .i64 0, .int .i64 0, .int .i64 0, .int .i64 0, .int .i64 0, .int .i64 0, .int .i64 0, .int .i64 0, .int .i64 0, .int .i64 0, .int .i64 0, .int .i64 0, .int .i64 0, .int .i64 0, .int .i64 0, .int .i64 0] 37)).cell? ⟨p, 2, none⟩ = some (.func (.func 204) #[] #[]) := Blk.cell hC0 2
 have c0 : ((w.alloc (.cells #[.int .i64 0, .int .i64 0, .int .i64 0, .int .i64 0, .int .i64 0, .int .i64 0, .int .i64 0, .int .i64 0, .int .i64 0, .int .i64 0, .int .i64 0, .int .i64 0, .int .i64 0, .int .i64 0, .int .i64 0, .int .i64 0] 37)).alloc (.cells #[.int .i64 0, .int .i64 0, .int .i64 0, .int .i64 0, .int .i64 0, .int .i64 0, .int .i64 0, .int .i64 0, .int .i64 0, .int .i64 0, .int .i64 0, .int .i64 0, .int .i64 0, .int .i64 0, .int .i64 0, .int .i64 0] 37)).cell? ⟨p, 0, none⟩ = some (.int .i64 24) := Blk.cell hC0 0
 by_cases h24 : n = 24
 rotate_left
 ·have hd2 : (noP, false) = (R, v) := by rw [← hd, eY, if_neg (by omega)]
  cases hd2
  have hne : ((n : Int) != 24) = true := by simpa using (show (n : Int) ≠ 24 from by omega)
  clear hd hl h24
  go_enter Tryz.func110, Tryz.ntmps110
  go_wp2_with (first | (refine wpList_ld rfl _ rfl (w.heap.size + 1) noP rfl rfl hZ0 ?_) | (refine wpList_st rfl _ _ rfl _ noP noP rfl rfl rfl rfl hR0 ?_; intro w2 hr2 hk2 hs2; clear hs2))
  (try simp only [Exit.inBlock, Exit.then])
  refine bodyPost_ret (v := .tuple #[pv noP, .bool false]) (results_pair rfl _ _ w.heap.size noP rfl rfl hr2 _ rfl) rfl ?_
  exact ⟨rfl, hK0.trans hk2 (fun b hb e => by have h3 : b = w.heap.size := e; omega)⟩
 subst h24
 have hd2 : (if gd l then (rd l, true) else (noP, false)) = (R, v) := by rw [← hd, eY, if_pos hl]
 have HD := aa hd2
 have HL := aa hl
 clear hd hd2 hl
 go_enter Tryz.func110, Tryz.ntmps110
 go_upto_region 4 with fail
 have hRd := hR0.drew
 have hZd := hZ0.drew
 have hKd := hK0.drew
 have hCd := hC0.nob (Keep.nobdrew _)
 have hrd := hr0.nob (Keep.nobdrew _)
 clear hR0 hZ0 hK0 hC0 hr0 c0 c2 h hr
 generalize ((w.alloc (.cells #[.int .i64 0, .int .i64 0, .int .i64 0, .int .i64 0, .int .i64 0, .int .i64 0, .int .i64 0, .int .i64 0, .int .i64 0, .int .i64 0, .int .i64 0, .int .i64 0, .int .i64 0, .int .i64 0, .int .i64 0, .int .i64 0] 37)).alloc (.cells #[.int .i64 0, .int .i64 0, .int .i64 0, .int .i64 0, .int .i64 0, .int .i64 0, .int .i64 0, .int .i64 0, .int .i64 0, .int .i64 0, .int .i64 0, .int .i64 0, .int .i64 0, .int .i64 0, .int .i64 0, .int .i64 0] 37)) = w2 at *
 have hrz : w.heap.size ≠ w.heap.size + 1 := by omega
 generalize w.heap.size + 1 = z at *
 have c2 : w2.drew.cell? ⟨p, 2, none⟩ = some (.func (.func 204) #[] #[]) := Blk.cell hCd 2
 obtain ⟨Q, hQ⟩ : ∃ Q, rd l = Q := ⟨_, rfl⟩
 obtain ⟨b, hb⟩ : ∃ b, gd l = b := ⟨_, rfl⟩
 have HG := aa (fun g c w hr => get_is_ l HL.out g c w hr Q hQ b hb)
 rw [hQ, hb] at HD
 have hql : Q.length = 16 := by rw [← hQ, cY HL.out]
 have HQ := aa hql
 clear hQ hb hql
 go_cut [7, 8] from 24 to 33 (fun s7 s8 wx => ∃ g, s7 = .pointer (some ⟨g, 0, none⟩) ∧ s8 = .bool b ∧ Blk wx g 37 (ab Q) ∧ Blk wx w.heap.size 37 (ab noP) ∧ Blk wx z 37 (ab noP) ∧ Keep Nob w wx)
 case first =>
  go_wp2_with fail
  refine wp_region_held_drew (S := (fun w' => w'.cell? ⟨p, 2, none⟩ = some (.func (.func 204) #[] #[]))) (by kernel_rfl) c2 (fun hHeld => ?_)
  generalize w2.drew = wd at *
  refine tk 0 rfl ?_ ?_ ?_
  rotate_left
  ·(intro w hSw; (try dsimp only at hSw); go_simp; try with_reducible rfl)
  try simp only [Act.put, zS]
  refine tk 1 rfl ?_ ?_ ?_
  rotate_left
  ·(intro w hSw; (try dsimp only at hSw); go_simp; try with_reducible rfl)
  try simp only [Act.put, zS]
  refine tk 2 rfl ?_ ?_ ?_
  rotate_left
  ·(intro w hSw; (try dsimp only at hSw); go_simp; try with_reducible rfl)
  try simp only [Act.put, zS]
  refine tk 3 rfl ?_ ?_ ?_
  rotate_left
  ·(intro w hSw; (try dsimp only at hSw); go_simp; try with_reducible rfl)
  try simp only [Act.put, zS]
  refine tk 4 rfl ?_ ?_ ?_
  rotate_left
  ·(intro w hSw; (try dsimp only at hSw); go_simp; try with_reducible rfl)
  try simp only [Act.put, zS]
  refine wpAnyH_ready (rs := [5, 10]) (by kernel_rfl) (by simp) ?_
  refine AllReadyH.cons rfl (fun K hK => ?_) ?_
  ·go_simp
   refine (clone_is A 24 cap l _ hrd (by omega)).mono ?_; rintro e w_1 ⟨A_4, c_5, rfl, v_3, k_2, _⟩
   obtain ⟨g_6, cur, rfl, _, _, _, _⟩ := v_3.at_ (by decide)
   have hr_7 : ae w_1 (some ⟨g_6, 0, none⟩) 24 (bytes l) := v_3.reads
   have hC_8 := hCd.nob k_2
   have hR_9 := hRd.nob k_2
   have hZ_10 := hZd.nob k_2
   have hI_11 := hrd.nob k_2
   have kk_12 := hKd.nobt k_2
   refine hK.out _ _ ?_ (fun hHeld => ?_)
   ·exact Blk.cell hC_8 2
   clear hK K
   try simp only [Act.put, zS]
   refine wpAnyH_ready (rs := [6, 10]) (by kernel_rfl) (by simp) ?_
   refine AllReadyH.cons rfl (fun K hK => ?_) ?_
   ·go_simp
    refine (HG.out g_6 c_5 _ hr_7).mono ?_; rintro e w_13 ⟨rfl, k_14⟩
    have hC_15 := hC_8.nob k_14
    have hR_16 := hR_9.nob k_14
    have hZ_17 := hZ_10.nob k_14
    have hI_18 := hI_11.nob k_14
    have kk_19 := kk_12.nobt k_14
    unfold pv
    refine hK.out _ _ ?_ (fun hHeld => ?_)
    ·exact Blk.cell hC_15 2
    clear hK K
    try simp only [Act.put, zS]
    refine tk 7 rfl ?_ ?_ ?_
    rotate_left
    ·(intro w hSw; (try dsimp only at hSw); go_simp; try with_reducible rfl)
    try simp only [Act.put, zS]
    refine tk 8 rfl ?_ ?_ ?_
    rotate_left
    ·(intro w hSw; (try dsimp only at hSw); go_simp; try with_reducible rfl)
    try simp only [Act.put, zS]
    refine tk 9 rfl ?_ ?_ ?_
    rotate_left
    ·(intro w hSw; (try dsimp only at hSw); go_simp; try with_reducible rfl)
    try simp only [Act.put, zS]
    refine wpAnyH_ready (rs := [10]) (by kernel_rfl) (by simp) ?_
    refine AllReadyH.cons rfl (fun K hK => ?_) AllReadyH.nil
    go_simp
    have hn_20 : Blk (w_13.alloc (.cells #[.int .i64 0, .int .i64 0, .int .i64 0, .int .i64 0, .int .i64 0, .int .i64 0, .int .i64 0, .int .i64 0, .int .i64 0, .int .i64 0, .int .i64 0, .int .i64 0, .int .i64 0, .int .i64 0, .int .i64 0, .int .i64 0] 37)) w_13.heap.size 37 (ab noP) := Blk.new w_13 37 (ab noP)
    have ka_21 := (Keep.refl Nob w_13).alloc (.cells #[.int .i64 0, .int .i64 0, .int .i64 0, .int .i64 0, .int .i64 0, .int .i64 0, .int .i64 0, .int .i64 0, .int .i64 0, .int .i64 0, .int .i64 0, .int .i64 0, .int .i64 0, .int .i64 0, .int .i64 0, .int .i64 0] 37)
    have e_22 : w.heap.size ≤ w_13.heap.size := kk_19.size
    have e_23 : w.heap.size ≠ w_13.heap.size := by have := hR_16.lt; omega
    have e_24 : z ≠ w_13.heap.size := by have := hZ_17.lt; omega
    have e_25 : p ≠ w_13.heap.size := by have := Blk.lt hC_15; omega
    have hC_26 := hC_15.nob ka_21
    have hR_27 := hR_16.nob ka_21
    have hZ_28 := hZ_17.nob ka_21
    have hI_29 := hI_18.nob ka_21
    have kk_30 := kk_19.nobt ka_21
    refine hK.out _ _ ?_ (fun hHeld => ?_)
    ·exact Blk.cell hC_26 2
    clear hK K
    try simp only [Act.put, zS]
    generalize (w_13.alloc (.cells #[.int .i64 0, .int .i64 0, .int .i64 0, .int .i64 0, .int .i64 0, .int .i64 0, .int .i64 0, .int .i64 0, .int .i64 0, .int .i64 0, .int .i64 0, .int .i64 0, .int .i64 0, .int .i64 0, .int .i64 0, .int .i64 0] 37)) = w_31 at *
    generalize w_13.heap.size = gn_32 at *
    refine wpAnyH_ready (rs := [11]) (by kernel_rfl) (by simp) ?_
    refine AllReadyH.cons rfl (fun K hK => ?_) AllReadyH.nil
    rw [if_pos (by rfl)]
    refine aU (old := noP) (q := Q) rfl rfl rfl HQ.out rfl hn_20 ?_
    refine hK.out _ _ ?_ (fun hHeld => ?_)
    ·exact Blk.cell (Blk.setRow_far hC_26 e_25 _) 2
    clear hK K
    try simp only [Act.put, zS]
    refine tk 12 rfl ?_ ?_ ?_
    rotate_left
    ·(intro w hSw; (try dsimp only at hSw); go_simp; try with_reducible rfl)
    try simp only [Act.put, zS]
    refine wpAnyH_done (by kernel_rfl) ?_ _
    go_wp2_with fail
    go_meet
    exact ⟨_, rfl, rfl, hn_20.setRow (ab Q), hR_27.setRow_far e_23 _, hZ_28.setRow_far e_24 _, kk_30.setRow gn_32 _ (fun h => absurd h (by omega))⟩
   refine AllReadyH.cons rfl (fun K hK => ?_) AllReadyH.nil
   go_simp
   have hn_33 : Blk (w_1.alloc (.cells #[.int .i64 0, .int .i64 0, .int .i64 0, .int .i64 0, .int .i64 0, .int .i64 0, .int .i64 0, .int .i64 0, .int .i64 0, .int .i64 0, .int .i64 0, .int .i64 0, .int .i64 0, .int .i64 0, .int .i64 0, .int .i64 0] 37)) w_1.heap.size 37 (ab noP) := Blk.new w_1 37 (ab noP)
   have ka_34 := (Keep.refl Nob w_1).alloc (.cells #[.int .i64 0, .int .i64 0, .int .i64 0, .int .i64 0, .int .i64 0, .int .i64 0, .int .i64 0, .int .i64 0, .int .i64 0, .int .i64 0, .int .i64 0, .int .i64 0, .int .i64 0, .int .i64 0, .int .i64 0, .int .i64 0] 37)
   have e_35 : w.heap.size ≤ w_1.heap.size := kk_12.size
   have e_36 : w.heap.size ≠ w_1.heap.size := by have := hR_9.lt; omega
   have e_37 : z ≠ w_1.heap.size := by have := hZ_10.lt; omega
   have e_38 : p ≠ w_1.heap.size := by have := Blk.lt hC_8; omega
   have hC_39 := hC_8.nob ka_34
   have hR_40 := hR_9.nob ka_34
   have hZ_41 := hZ_10.nob ka_34
   have hI_42 := hI_11.nob ka_34
   have hr_43 := hr_7.nob ka_34
   have kk_44 := kk_12.nobt ka_34
   refine hK.out _ _ ?_ (fun hHeld => ?_)
   ·exact Blk.cell hC_39 2
   clear hK K
   try simp only [Act.put, zS]
   generalize (w_1.alloc (.cells #[.int .i64 0, .int .i64 0, .int .i64 0, .int .i64 0, .int .i64 0, .int .i64 0, .int .i64 0, .int .i64 0, .int .i64 0, .int .i64 0, .int .i64 0, .int .i64 0, .int .i64 0, .int .i64 0, .int .i64 0, .int .i64 0] 37)) = w_45 at *
   generalize w_1.heap.size = gn_46 at *
   refine wpAnyH_ready (rs := [6]) (by kernel_rfl) (by simp) ?_
   refine AllReadyH.cons rfl (fun K hK => ?_) AllReadyH.nil
   go_simp
   refine (HG.out g_6 c_5 _ hr_43).mono ?_; rintro e w_47 ⟨rfl, k_48⟩
   have hC_49 := hC_39.nob k_48
   have hR_50 := hR_40.nob k_48
   have hZ_51 := hZ_41.nob k_48
   have hI_52 := hI_42.nob k_48
   have hn_53 := hn_33.nob k_48
   have kk_54 := kk_44.nobt k_48
   unfold pv
   refine hK.out _ _ ?_ (fun hHeld => ?_)
   ·exact Blk.cell hC_49 2
   clear hK K
   try simp only [Act.put, zS]
   refine tk 7 rfl ?_ ?_ ?_
   rotate_left
   ·(intro w hSw; (try dsimp only at hSw); go_simp; try with_reducible rfl)
   try simp only [Act.put, zS]
   refine tk 8 rfl ?_ ?_ ?_
   rotate_left
   ·(intro w hSw; (try dsimp only at hSw); go_simp; try with_reducible rfl)
   try simp only [Act.put, zS]
   refine tk 9 rfl ?_ ?_ ?_
   rotate_left
   ·(intro w hSw; (try dsimp only at hSw); go_simp; try with_reducible rfl)
   try simp only [Act.put, zS]
   refine wpAnyH_ready (rs := [11]) (by kernel_rfl) (by simp) ?_
   refine AllReadyH.cons rfl (fun K hK => ?_) AllReadyH.nil
   rw [if_pos (by rfl)]
   refine aU (old := noP) (q := Q) rfl rfl rfl HQ.out rfl hn_53 ?_
   refine hK.out _ _ ?_ (fun hHeld => ?_)
   ·exact Blk.cell (Blk.setRow_far hC_49 e_38 _) 2
   clear hK K
   try simp only [Act.put, zS]
   refine tk 12 rfl ?_ ?_ ?_
   rotate_left
   ·(intro w hSw; (try dsimp only at hSw); go_simp; try with_reducible rfl)
   try simp only [Act.put, zS]
   refine wpAnyH_done (by kernel_rfl) ?_ _
   go_wp2_with fail
   go_meet
   exact ⟨_, rfl, rfl, hn_53.setRow (ab Q), hR_50.setRow_far e_36 _, hZ_51.setRow_far e_37 _, kk_54.setRow gn_46 _ (fun h => absurd h (by omega))⟩
  refine AllReadyH.cons rfl (fun K hK => ?_) AllReadyH.nil
  go_simp
  have hn_55 : Blk (wd.alloc (.cells #[.int .i64 0, .int .i64 0, .int .i64 0, .int .i64 0, .int .i64 0, .int .i64 0, .int .i64 0, .int .i64 0, .int .i64 0, .int .i64 0, .int .i64 0, .int .i64 0, .int .i64 0, .int .i64 0, .int .i64 0, .int .i64 0] 37)) wd.heap.size 37 (ab noP) := Blk.new wd 37 (ab noP)
  have ka_56 := (Keep.refl Nob wd).alloc (.cells #[.int .i64 0, .int .i64 0, .int .i64 0, .int .i64 0, .int .i64 0, .int .i64 0, .int .i64 0, .int .i64 0, .int .i64 0, .int .i64 0, .int .i64 0, .int .i64 0, .int .i64 0, .int .i64 0, .int .i64 0, .int .i64 0] 37)
  have e_57 : w.heap.size ≤ wd.heap.size := hKd.size
  have e_58 : w.heap.size ≠ wd.heap.size := by have := hRd.lt; omega
  have e_59 : z ≠ wd.heap.size := by have := hZd.lt; omega
  have e_60 : p ≠ wd.heap.size := by have := Blk.lt hCd; omega
  have hC_61 := hCd.nob ka_56
  have hR_62 := hRd.nob ka_56
  have hZ_63 := hZd.nob ka_56
  have hI_64 := hrd.nob ka_56
  have kk_65 := hKd.nobt ka_56
  refine hK.out _ _ ?_ (fun hHeld => ?_)
  ·exact Blk.cell hC_61 2
  clear hK K
  try simp only [Act.put, zS]
  generalize (wd.alloc (.cells #[.int .i64 0, .int .i64 0, .int .i64 0, .int .i64 0, .int .i64 0, .int .i64 0, .int .i64 0, .int .i64 0, .int .i64 0, .int .i64 0, .int .i64 0, .int .i64 0, .int .i64 0, .int .i64 0, .int .i64 0, .int .i64 0] 37)) = w_66 at *
  generalize wd.heap.size = gn_67 at *
  refine wpAnyH_ready (rs := [5]) (by kernel_rfl) (by simp) ?_
  refine AllReadyH.cons rfl (fun K hK => ?_) AllReadyH.nil
  go_simp
  refine (clone_is A 24 cap l _ hI_64 (by omega)).mono ?_; rintro e w_68 ⟨A_71, c_72, rfl, v_70, k_69, _⟩
  obtain ⟨g_73, cur, rfl, _, _, _, _⟩ := v_70.at_ (by decide)
  have hr_74 : ae w_68 (some ⟨g_73, 0, none⟩) 24 (bytes l) := v_70.reads
  have hC_75 := hC_61.nob k_69
  have hR_76 := hR_62.nob k_69
  have hZ_77 := hZ_63.nob k_69
  have hI_78 := hI_64.nob k_69
  have hn_79 := hn_55.nob k_69
  have kk_80 := kk_65.nobt k_69
  refine hK.out _ _ ?_ (fun hHeld => ?_)
  ·exact Blk.cell hC_75 2
  clear hK K
  try simp only [Act.put, zS]
  refine wpAnyH_ready (rs := [6]) (by kernel_rfl) (by simp) ?_
  refine AllReadyH.cons rfl (fun K hK => ?_) AllReadyH.nil
  go_simp
  refine (HG.out g_73 c_72 _ hr_74).mono ?_; rintro e w_81 ⟨rfl, k_82⟩
  have hC_83 := hC_75.nob k_82
  have hR_84 := hR_76.nob k_82
  have hZ_85 := hZ_77.nob k_82
  have hI_86 := hI_78.nob k_82
  have hn_87 := hn_79.nob k_82
  have kk_88 := kk_80.nobt k_82
  unfold pv
  refine hK.out _ _ ?_ (fun hHeld => ?_)
  ·exact Blk.cell hC_83 2
  clear hK K
  try simp only [Act.put, zS]
  refine tk 7 rfl ?_ ?_ ?_
  rotate_left
  ·(intro w hSw; (try dsimp only at hSw); go_simp; try with_reducible rfl)
  try simp only [Act.put, zS]
  refine tk 8 rfl ?_ ?_ ?_
  rotate_left
  ·(intro w hSw; (try dsimp only at hSw); go_simp; try with_reducible rfl)
  try simp only [Act.put, zS]
  refine tk 9 rfl ?_ ?_ ?_
  rotate_left
  ·(intro w hSw; (try dsimp only at hSw); go_simp; try with_reducible rfl)
  try simp only [Act.put, zS]
  refine wpAnyH_ready (rs := [11]) (by kernel_rfl) (by simp) ?_
  refine AllReadyH.cons rfl (fun K hK => ?_) AllReadyH.nil
  rw [if_pos (by rfl)]
  refine aU (old := noP) (q := Q) rfl rfl rfl HQ.out rfl hn_87 ?_
  refine hK.out _ _ ?_ (fun hHeld => ?_)
  ·exact Blk.cell (Blk.setRow_far hC_83 e_60 _) 2
  clear hK K
  try simp only [Act.put, zS]
  refine tk 12 rfl ?_ ?_ ?_
  rotate_left
  ·(intro w hSw; (try dsimp only at hSw); go_simp; try with_reducible rfl)
  try simp only [Act.put, zS]
  refine wpAnyH_done (by kernel_rfl) ?_ _
  go_wp2_with fail
  go_meet
  exact ⟨_, rfl, rfl, hn_87.setRow (ab Q), hR_84.setRow_far e_58 _, hZ_85.setRow_far e_59 _, kk_88.setRow gn_67 _ (fun h => absurd h (by omega))⟩
 case rest =>
 obtain ⟨g, rfl, rfl, hn6, hR6, hZ6, hK6⟩ := hcut
 clear hCd hRd hZd hKd hrd
 have hd3 := HD.out
 clear HD
 cases b with
 | false =>
  rw [if_neg (by simp)] at hd3
  cases hd3
  go_wp2_with (first | (refine wpList_ld rfl _ rfl z noP rfl rfl hZ6 ?_) | (refine wpList_st rfl _ _ rfl _ noP noP rfl rfl rfl rfl hR6 ?_; intro w7 hr7 hk7 hs7; clear hs7))
  (try simp only [Exit.inBlock, Exit.then])
  refine bodyPost_ret (v := .tuple #[pv noP, .bool false]) (results_pair rfl _ _ w.heap.size noP rfl rfl hr7 _ rfl) rfl ?_
  exact ⟨rfl, hK6.trans hk7 (fun b hb e => by have h3 : b = w.heap.size := e; omega)⟩
 | true =>
  rw [if_pos rfl] at hd3
  cases hd3
  go_wp2_with (first | (refine wpList_ld rfl _ rfl g R rfl HQ.out hn6 ?_) | (refine wpList_st rfl _ _ rfl _ R noP rfl rfl HQ.out rfl hR6 ?_; intro w7 hr7 hk7 hs7; clear hs7))
  (try simp only [Exit.inBlock, Exit.then])
  refine bodyPost_ret (v := .tuple #[pv R, .bool true]) (results_pair rfl _ _ w.heap.size R HQ.out rfl hr7 _ rfl) rfl ?_
  exact ⟨rfl, hK6.trans hk7 (fun b hb e => by have h3 : b = w.heap.size := e; omega)⟩
theorem fE (P : List Int) (hl : P.length = 16) (hw : ∀ x ∈ P, Wf x) (w : World) (v : Bool) (hv : okd P = v) :
  Calls Tryz.prog 103 #[pv P] w fun e w' => ∃ x, e = .returned (.tuple #[x, .bool v]) ∧ Told w w' P v x ∧ Keep Nob w w' := by
 have ho := fun p w h => iB p P hl hw w h v hv
 simp only [pv] at ho ⊢
 have HO := aa ho
 have HL := aa hl
 clear ho hl hw
 go_enter Tryz.func103, Tryz.ntmps103
 go_wp2_with (refine af rfl 37 _ rfl _ rfl ?_; intro w1 hb1 hk1 hs1; clear hs1; have hb1 : Blk w1 w.heap.size 37 (ab P) := hb1)
 have hB := hb1.drew
 have kk := hk1.drew
 clear hb1 hk1
 refine wp_region_held_drew (S := (fun w' => Blk w' w.heap.size 37 (ab P))) (by kernel_rfl) hB (fun hHeld => ?_)
 generalize w1.drew = wd at *
 refine tk 1 rfl ?_ ?_ ?_
 rotate_left
 ·(intro w hSw; (try dsimp only at hSw); refine aG (x := .tmp 1) ?_ ?_ HL.out hSw <;> rfl)
 try simp only [Act.put, zS]
 refine wpAnyH_ready (rs := [0]) (by kernel_rfl) (by simp) ?_
 refine AllReadyH.cons rfl (fun K hK => ?_) AllReadyH.nil
 go_simp
 refine (eN _).mono ?_; rintro e w2 ⟨p, rfl, h2, k2⟩
 have hB2 := hB.nob k2
 have kk2 := kk.nobt k2
 refine hK.out _ _ ?_ (fun hHeld => ?_)
 ·exact hB2
 clear hK K
 try simp only [Act.put, zS]
 refine wpAnyH_ready (rs := [2]) (by kernel_rfl) (by simp) ?_
 refine AllReadyH.cons rfl (fun K hK => ?_) AllReadyH.nil
 go_simp
 with_reducible_and_instances apply Calls.mono (HO.out p _ h2); rintro e w3 ⟨x, rfl, t3, k3⟩
 have hB3 := hB2.nob k3
 have kk3 := kk2.nobt k3
 refine hK.out _ _ ?_ (fun hHeld => ?_)
 ·exact hB3
 clear hK K
 try simp only [Act.put, zS]
 refine tk 3 rfl ?_ ?_ ?_
 rotate_left
 ·(intro w hSw; (try dsimp only at hSw); go_simp; try with_reducible rfl)
 try simp only [Act.put, zS]
 refine tk 4 rfl ?_ ?_ ?_
 rotate_left
 ·(intro w hSw; (try dsimp only at hSw); go_simp; try with_reducible rfl)
 try simp only [Act.put, zS]
 refine tk 5 rfl ?_ ?_ ?_
 rotate_left
 ·(intro w hSw; (try dsimp only at hSw); go_simp; try with_reducible rfl)
 try simp only [Act.put, zS]
 refine tk 6 rfl ?_ ?_ ?_
 rotate_left
 ·(intro w hSw; (try dsimp only at hSw); go_simp; try with_reducible rfl)
 try simp only [Act.put, zS]
 refine wpAnyH_done (by kernel_rfl) ?_ _
 go_wp2_with fail
 go_ret2
 exact ⟨x, rfl, t3.from_ kk2.size, kk3⟩
theorem fM (A : Option Addr) (n cap : Nat) (l : List UInt8) (w : World) (hr : ae w A n (bytes l)) (hn : n ≤ 140737488351232) (R : List Int) (d : Int) (hd : dcd l = (R, d)) :
  Calls Tryz.prog 45 #[.slice A n cap] w fun e w' => e = .returned (.tuple #[pv R, .int .i64 d]) ∧ Keep Nob w w' := by
 have hl : l.length = n := by simpa using hr.1
 have hR0 : Blk (w.alloc (.cells #[.int .i64 0, .int .i64 0, .int .i64 0, .int .i64 0, .int .i64 0, .int .i64 0, .int .i64 0, .int .i64 0, .int .i64 0, .int .i64 0, .int .i64 0, .int .i64 0, .int .i64 0, .int .i64 0, .int .i64 0, .int .i64 0] 37)) w.heap.size 37 (ab noP) := Blk.new w 37 (ab noP)
 have hK0 : Keep Nob w (w.alloc (.cells #[.int .i64 0, .int .i64 0, .int .i64 0, .int .i64 0, .int .i64 0, .int .i64 0, .int .i64 0, .int .i64 0, .int .i64 0, .int .i64 0, .int .i64 0, .int .i64 0, .int .i64 0, .int .i64 0, .int .i64 0, .int .i64 0] 37)) := (Keep.refl Nob w).alloc _
 have hr0 := hr.nob hK0
 have HD := aa hd
 have HL := aa hl
 clear hd
 by_cases h24 : n = 24
 rotate_left
 ·have hne24 : ((n : Int) == 24) = false := by simpa using (show (n : Int) ≠ 24 from by omega)
  have h2 : eY l = (noP, false) := by rw [eY, if_neg (by omega)]
  have hd2 : (noP, (2 : Int)) = (R, d) := by rw [← HD.out, dcd, if_neg (by omega)]
  obtain ⟨Q, hQ⟩ : ∃ Q, noP = Q := ⟨_, rfl⟩
  obtain ⟨b, hb⟩ : ∃ b, false = b := ⟨_, rfl⟩
  have HQ := aa (show Q.length = 16 from by rw [← hQ]; rfl)
  have HQ2 := aa (show (if b then (Q, (1 : Int)) else (noP, 2)) = (R, d) from by rw [← hb]; exact hd2)
  rw [hQ, hb] at h2
  have HC := aa h2
  clear hQ hb h2 hd2 HD HL hr hl h24
  go_enter Tryz.func45, Tryz.ntmps45
  go_wp2_with fail
  refine (eN _).mono ?_; rintro e w1 ⟨p, rfl, h1, k1⟩
  have hR1 := hR0.nob k1
  have kk1 := hK0.nobt k1
  have hr1 := hr0.nob k1
  clear hR0 hK0 hr0
  go_wp2_with fail
  refine (fi p A n cap l _ h1 hr1 hn Q b HC.out).mono ?_; rintro e w2 ⟨rfl, k2⟩
  have hR2 := hR1.nob k2
  have kk2 := kk1.nobt k2
  have hge : w.heap.size ≤ w2.heap.size := kk2.size
  have hne : w.heap.size ≠ w2.heap.size := by have := hR2.lt; omega
  clear hR1 kk1 hr1 h1 k1 k2
  unfold pv
  cases b with
  | false =>
   have hd2 := HQ2.out
   rw [if_neg (by simp)] at hd2
   cases hd2
   go_wp2_with (first | (refine wpList_st rfl (.tmp 4) (.tmp 18) rfl w2.heap.size Q noP rfl rfl HQ.out rfl (Blk.new w2 37 (ab noP)) ?_; intro w3 hn3 hk3 hs3; clear hs3; have hR3 := (hR2.alloc (.cells #[.int .i64 0, .int .i64 0, .int .i64 0, .int .i64 0, .int .i64 0, .int .i64 0, .int .i64 0, .int .i64 0, .int .i64 0, .int .i64 0, .int .i64 0, .int .i64 0, .int .i64 0, .int .i64 0, .int .i64 0, .int .i64 0] 37)).keep hk3 hne; have kk3 := (kk2.alloc (.cells #[.int .i64 0, .int .i64 0, .int .i64 0, .int .i64 0, .int .i64 0, .int .i64 0, .int .i64 0, .int .i64 0, .int .i64 0, .int .i64 0, .int .i64 0, .int .i64 0, .int .i64 0, .int .i64 0, .int .i64 0, .int .i64 0] 37)).trans hk3 (fun b hb e => by have h3 : b = w2.heap.size := e; omega)) | (refine wpList_st rfl (.tmp 2) _ rfl w.heap.size noP noP rfl rfl rfl rfl hR3 ?_; intro w4 hr4 hk4 hs4; clear hs4))
   (try simp only [Exit.inBlock, Exit.then])
   refine bodyPost_ret (v := .tuple #[pv noP, .int .i64 2]) (results_pair rfl _ _ w.heap.size noP rfl rfl hr4 _ rfl) rfl ?_
   exact ⟨rfl, kk3.trans hk4 (fun b hb e => by have h3 : b = w.heap.size := e; omega)⟩
  | true =>
   have hd2 := HQ2.out
   rw [if_pos rfl] at hd2
   cases hd2
   go_wp2_with (first | (refine wpList_st rfl (.tmp 4) (.tmp 18) rfl w2.heap.size R noP rfl rfl HQ.out rfl (Blk.new w2 37 (ab noP)) ?_; intro w3 hn3 hk3 hs3; clear hs3; have hR3 := (hR2.alloc (.cells #[.int .i64 0, .int .i64 0, .int .i64 0, .int .i64 0, .int .i64 0, .int .i64 0, .int .i64 0, .int .i64 0, .int .i64 0, .int .i64 0, .int .i64 0, .int .i64 0, .int .i64 0, .int .i64 0, .int .i64 0, .int .i64 0] 37)).keep hk3 hne; have kk3 := (kk2.alloc (.cells #[.int .i64 0, .int .i64 0, .int .i64 0, .int .i64 0, .int .i64 0, .int .i64 0, .int .i64 0, .int .i64 0, .int .i64 0, .int .i64 0, .int .i64 0, .int .i64 0, .int .i64 0, .int .i64 0, .int .i64 0, .int .i64 0] 37)).trans hk3 (fun b hb e => by have h3 : b = w2.heap.size := e; omega)) | (refine wpList_ld rfl (.tmp 4) rfl w2.heap.size R rfl HQ.out hn3 ?_) | (refine wpList_st rfl (.tmp 2) _ rfl w.heap.size R noP rfl rfl HQ.out rfl hR3 ?_; intro w4 hr4 hk4 hs4; clear hs4))
   (try simp only [Exit.inBlock, Exit.then])
   refine bodyPost_ret (v := .tuple #[pv R, .int .i64 1]) (results_pair rfl _ _ w.heap.size R HQ.out rfl hr4 _ rfl) rfl ?_
   exact ⟨rfl, kk3.trans hk4 (fun b hb e => by have h3 : b = w.heap.size := e; omega)⟩
 subst h24
 obtain ⟨q, hq⟩ : ∃ q, aA l = q := ⟨_, rfl⟩
 have hbl := aa (kY (c := cap) hr0 (by omega) q hq)
 cases q with
 | true =>
  have hd2 : (noP, (0 : Int)) = (R, d) := by rw [← HD.out, dcd, if_pos hl, hq, if_pos rfl]
  cases hd2
  clear HD HL hr hl hq
  go_enter Tryz.func45, Tryz.ntmps45
  go_wp2_with fail
  refine (hbl.out).mono ?_; rintro e w1 ⟨rfl, rfl⟩
  go_wp2_with (refine wpList_st rfl _ _ rfl _ noP noP rfl rfl rfl rfl hR0 ?_; intro w4 hr4 hk4 hs4; clear hs4)
  (try simp only [Exit.inBlock, Exit.then])
  refine bodyPost_ret (v := .tuple #[pv noP, .int .i64 0]) (results_pair rfl _ _ w.heap.size noP rfl rfl hr4 _ rfl) rfl ?_
  exact ⟨rfl, hK0.trans hk4 (fun b hb e => by have h3 : b = w.heap.size := e; omega)⟩
 | false =>
  obtain ⟨b, hb⟩ : ∃ b, gd l = b := ⟨_, rfl⟩
  obtain ⟨Q, hQ⟩ : ∃ Q, (if b then rd l else noP) = Q := ⟨_, rfl⟩
  have HQ := aa (show Q.length = 16 from by rw [← hQ]; split; exact cY hl; rfl)
  have h2 : eY l = (Q, b) := by rw [eY, if_pos hl, hb, ← hQ]; cases b <;> rfl
  have HQ2 := aa (show (if b then (Q, (1 : Int)) else (noP, 2)) = (R, d) from by rw [← HD.out, dcd, if_pos hl, hq, hb, ← hQ]; cases b <;> rfl)
  have HC := aa h2
  clear hQ hb h2 HD HL hr hl hq
  go_enter Tryz.func45, Tryz.ntmps45
  go_wp2_with fail
  refine (hbl.out).mono ?_; rintro e w1 ⟨rfl, rfl⟩
  go_wp2_with fail
  refine (eN _).mono ?_; rintro e w1 ⟨p, rfl, h1, k1⟩
  have hR1 := hR0.nob k1
  have kk1 := hK0.nobt k1
  have hr1 := hr0.nob k1
  clear hR0 hK0 hr0
  go_wp2_with fail
  refine (fi p A 24 cap l _ h1 hr1 hn Q b HC.out).mono ?_; rintro e w2 ⟨rfl, k2⟩
  have hR2 := hR1.nob k2
  have kk2 := kk1.nobt k2
  have hge : w.heap.size ≤ w2.heap.size := kk2.size
  have hne : w.heap.size ≠ w2.heap.size := by have := hR2.lt; omega
  clear hR1 kk1 hr1 h1 k1 k2
  unfold pv
  cases b with
  | false =>
   have hd2 := HQ2.out
   rw [if_neg (by simp)] at hd2
   cases hd2
   go_wp2_with (first | (refine wpList_st rfl (.tmp 4) (.tmp 18) rfl w2.heap.size Q noP rfl rfl HQ.out rfl (Blk.new w2 37 (ab noP)) ?_; intro w3 hn3 hk3 hs3; clear hs3; have hR3 := (hR2.alloc (.cells #[.int .i64 0, .int .i64 0, .int .i64 0, .int .i64 0, .int .i64 0, .int .i64 0, .int .i64 0, .int .i64 0, .int .i64 0, .int .i64 0, .int .i64 0, .int .i64 0, .int .i64 0, .int .i64 0, .int .i64 0, .int .i64 0] 37)).keep hk3 hne; have kk3 := (kk2.alloc (.cells #[.int .i64 0, .int .i64 0, .int .i64 0, .int .i64 0, .int .i64 0, .int .i64 0, .int .i64 0, .int .i64 0, .int .i64 0, .int .i64 0, .int .i64 0, .int .i64 0, .int .i64 0, .int .i64 0, .int .i64 0, .int .i64 0] 37)).trans hk3 (fun b hb e => by have h3 : b = w2.heap.size := e; omega)) | (refine wpList_st rfl (.tmp 2) _ rfl w.heap.size noP noP rfl rfl rfl rfl hR3 ?_; intro w4 hr4 hk4 hs4; clear hs4))
   (try simp only [Exit.inBlock, Exit.then])
   refine bodyPost_ret (v := .tuple #[pv noP, .int .i64 2]) (results_pair rfl _ _ w.heap.size noP rfl rfl hr4 _ rfl) rfl ?_
   exact ⟨rfl, kk3.trans hk4 (fun b hb e => by have h3 : b = w.heap.size := e; omega)⟩
  | true =>
   have hd2 := HQ2.out
   rw [if_pos rfl] at hd2
   cases hd2
   go_wp2_with (first | (refine wpList_st rfl (.tmp 4) (.tmp 18) rfl w2.heap.size R noP rfl rfl HQ.out rfl (Blk.new w2 37 (ab noP)) ?_; intro w3 hn3 hk3 hs3; clear hs3; have hR3 := (hR2.alloc (.cells #[.int .i64 0, .int .i64 0, .int .i64 0, .int .i64 0, .int .i64 0, .int .i64 0, .int .i64 0, .int .i64 0, .int .i64 0, .int .i64 0, .int .i64 0, .int .i64 0, .int .i64 0, .int .i64 0, .int .i64 0, .int .i64 0] 37)).keep hk3 hne; have kk3 := (kk2.alloc (.cells #[.int .i64 0, .int .i64 0, .int .i64 0, .int .i64 0, .int .i64 0, .int .i64 0, .int .i64 0, .int .i64 0, .int .i64 0, .int .i64 0, .int .i64 0, .int .i64 0, .int .i64 0, .int .i64 0, .int .i64 0, .int .i64 0] 37)).trans hk3 (fun b hb e => by have h3 : b = w2.heap.size := e; omega)) | (refine wpList_ld rfl (.tmp 4) rfl w2.heap.size R rfl HQ.out hn3 ?_) | (refine wpList_st rfl (.tmp 2) _ rfl w.heap.size R noP rfl rfl HQ.out rfl hR3 ?_; intro w4 hr4 hk4 hs4; clear hs4))
   (try simp only [Exit.inBlock, Exit.then])
   refine bodyPost_ret (v := .tuple #[pv R, .int .i64 1]) (results_pair rfl _ _ w.heap.size R HQ.out rfl hr4 _ rfl) rfl ?_
   exact ⟨rfl, kk3.trans hk4 (fun b hb e => by have h3 : b = w.heap.size := e; omega)⟩
end Go.Proofs.YtgcikpgcoemfnaaGreat.Cd
namespace Go.Proofs.YtgcikpgcoemfnaaGreat.Fi
open Go.RowKit Cd
theorem get_is_ (l : List UInt8) (hl : l.length = 8) (g c : Nat) (w : World) (hr : ae w (some ⟨g, 0, none⟩) 8 (bytes l)) (R : List Int) (hR : rd l = R) (v : Bool) (hv : gd l = v) :
  Calls Tryz.prog 254 #[.slice (some ⟨g, 0, none⟩) 8 c] w fun e w' => e = .returned (.tuple #[pv R, .bool v]) ∧ Keep Nob w w' := by
 have hlt := block_lt_of_cell (aW hr (k := 0) (by decide))
 have hlt' : g < w.heap.size := hlt
 have h0 := aW hr (k := 0) (by decide)
 have h1 := aW hr (k := 1) (by decide)
 have h2 := aW hr (k := 2) (by decide)
 have h3 := aW hr (k := 3) (by decide)
 have u0 := cz (l.getD 0 0)
 have u1 := cz (l.getD 1 0)
 have u2 := cz (l.getD 2 0)
 have u3 := cz (l.getD 3 0)
 have hgd : (okd (rd l) && enc (rd l) == l) = v := hv
 rw [hR] at hgd
 have hR4 : [((l.getD 0 0).toNat : Int), ((l.getD 1 0).toNat : Int), ((l.getD 2 0).toNat : Int), ((l.getD 3 0).toNat : Int)] = R := hR
 have HRL := aa (show R.length = 4 from by rw [← hR]; exact cY l)
 obtain ⟨x0, hx0⟩ : ∃ x, ((l.getD 0 0).toNat : Int) = x := ⟨_, rfl⟩
 obtain ⟨x1, hx1⟩ : ∃ x, ((l.getD 1 0).toNat : Int) = x := ⟨_, rfl⟩
 obtain ⟨x2, hx2⟩ : ∃ x, ((l.getD 2 0).toNat : Int) = x := ⟨_, rfl⟩
 obtain ⟨x3, hx3⟩ : ∃ x, ((l.getD 3 0).toNat : Int) = x := ⟨_, rfl⟩
 rw [hx0, hx1, hx2, hx3] at hR4
 rw [hx0] at h0 u0
 rw [hx1] at h1 u1
 rw [hx2] at h2 u2
 rw [hx3] at h3 u3
 have i0 : IntKind.i64.wrap x0 = x0 := ax _ (by omega) (by omega)
 have i1 : IntKind.i64.wrap x1 = x1 := ax _ (by omega) (by omega)
 have i2 : IntKind.i64.wrap x2 = x2 := ax _ (by omega) (by omega)
 have i3 : IntKind.i64.wrap x3 = x3 := ax _ (by omega) (by omega)
 have HR := aa hr
 have HR4 := aa hR4
 have HGD := aa hgd
 clear hR hv hr hx0 hx1 hx2 hx3 hlt hR4 hgd
 go_enter Tryz.func254, Tryz.ntmps254
 go_wp2_with fail
 go_region
 have hp1 : Blk (((w.alloc (.cells #[.int .i64 0, .int .i64 0, .int .i64 0, .int .i64 0] 64)).alloc (.cells #[.int .i64 x0, .int .i64 x1, .int .i64 x2, .int .i64 x3] 64)).drew) (w.heap.size + 1) 64 (ab R) := by
  rw [← HR4.out]
  have := (Blk.new (w.alloc (.cells #[.int .i64 0, .int .i64 0, .int .i64 0, .int .i64 0] 64)) 64 (ab [x0, x1, x2, x3])).drew
  rw [show (w.alloc (.cells #[.int .i64 0, .int .i64 0, .int .i64 0, .int .i64 0] 64)).heap.size = w.heap.size + 1 from by simp] at this
  exact this
 have hr1 : Blk (((w.alloc (.cells #[.int .i64 0, .int .i64 0, .int .i64 0, .int .i64 0] 64)).alloc (.cells #[.int .i64 x0, .int .i64 x1, .int .i64 x2, .int .i64 x3] 64)).drew) w.heap.size 64 (ab noP) := ((Blk.new w 64 (ab noP)).alloc _).drew
 have hk1 : Keep Nob w (((w.alloc (.cells #[.int .i64 0, .int .i64 0, .int .i64 0, .int .i64 0] 64)).alloc (.cells #[.int .i64 x0, .int .i64 x1, .int .i64 x2, .int .i64 x3] 64)).drew) := (((Keep.refl Nob w).alloc _).alloc _).drew
 generalize (((w.alloc (.cells #[.int .i64 0, .int .i64 0, .int .i64 0, .int .i64 0] 64)).alloc (.cells #[.int .i64 x0, .int .i64 x1, .int .i64 x2, .int .i64 x3] 64)).drew) = w1 at *
 have hgr : w.heap.size ≠ w.heap.size + 1 := by omega
 have hgn : w.heap.size ≤ w.heap.size + 1 := by omega
 generalize w.heap.size + 1 = gp at *
 clear h0 h1 h2 h3 u0 u1 u2 u3 HR4 i0 i1 i2 i3
 go_wp2_with (refine bu rfl _ _ 28 rfl 5 (.int .u8 0) 1 Tryz.underlying28 Tryz.info5 rfl .i64 .i64 8 _ rfl rfl rfl (by omega) (by omega) ?_; intro w5 hb5 hk5 hs5)
 clear hs5
 have hp5 := hp1.nob hk5
 have hr5 := hr1.nob hk5
 have hk6 := hk1.nobt hk5
 have hR5 := (HR.out.nob hk1).nob hk5
 have hgw : w1.heap.size ≠ gp := by have := hp1.lt; omega
 have hga : w1.heap.size ≠ w.heap.size := by have := hr1.lt; omega
 have hgb : w1.heap.size ≠ g := by have := hk1.size; omega
 have hge : w.heap.size ≤ w1.heap.size := hk1.size
 rw [← ao] at hb5
 clear hp1 hr1 hk1 hk5
 generalize w1.heap.size = ga at *
 have hpd := hp5.drew
 have hrd := hr5.drew
 have hkd := hk6.drew
 have hRd := hR5.nob ((Keep.refl Nob w5).drew)
 have hbd := hb5.drew
 clear hp5 hr5 hk6 hR5 hb5
 have hgr' : gp ≠ w.heap.size := Ne.symm hgr
 have hgd := HGD.out
 clear HGD
 cases ho : okd R with
 | true =>
  rw [ho, Bool.true_and] at hgd
  have ho2 := fZ R HRL.out ga _ hbd true ho
  simp only [pv, if_true] at ho2
  have HO := aa ho2
  have HV := aa hgd
  clear ho2 ho hgd
  refine wp_region_held_drew (S := (fun w' => Blk w' gp 64 (ab R))) (by kernel_rfl) hpd (fun hHeld => ?_)
  refine tk 0 rfl ?_ ?_ ?_
  rotate_left
  ·(intro w hSw; (try dsimp only at hSw); refine aG (x := .tmp 4) ?_ ?_ HRL.out hSw <;> rfl)
  try simp only [Act.put, zS]
  refine tk 1 rfl ?_ ?_ ?_
  rotate_left
  ·(intro w hSw; (try dsimp only at hSw); refine aG (x := .tmp 4) ?_ ?_ HRL.out hSw <;> rfl)
  try simp only [Act.put, zS]
  refine tk 2 rfl ?_ ?_ ?_
  rotate_left
  ·(intro w hSw; (try dsimp only at hSw); go_simp; try with_reducible rfl)
  try simp only [Act.put, zS]
  refine wpAnyH_ready (rs := [3]) (by kernel_rfl) (by simp) ?_
  refine AllReadyH.cons rfl (fun K hK => ?_) AllReadyH.nil
  go_simp
  with_reducible_and_instances apply Calls.mono HO.out; rintro e w6 ⟨rfl, z6, k6⟩
  have hp6 := hpd.keep k6 (Ne.symm hgw)
  have hr6 := hrd.keep k6 (Ne.symm hga)
  refine hK.out _ _ ?_ (fun hHeld => ?_)
  ·exact hp6
  clear hK K
  try simp only [Act.put, zS]
  refine tk 4 rfl ?_ ?_ ?_
  rotate_left
  ·(intro w hSw; (try dsimp only at hSw); go_simp; try with_reducible rfl)
  try simp only [Act.put, zS]
  refine tk 5 rfl ?_ ?_ ?_
  rotate_left
  ·(intro w hSw; (try dsimp only at hSw); go_simp; try with_reducible rfl)
  try simp only [Act.put, zS]
  refine tk 6 rfl ?_ ?_ ?_
  rotate_left
  ·(intro w hSw; (try dsimp only at hSw); go_simp; try with_reducible rfl)
  try simp only [Act.put, zS]
  refine wpAnyH_ready (rs := [7]) (by kernel_rfl) (by simp) ?_
  refine AllReadyH.cons rfl (fun K hK => ?_) AllReadyH.nil
  go_simp
  refine (fR _ _ _ _ _ _ (enc R) l _ (aj z6 (by rw [am, aJ])) (hRd.keep k6 (fun ad e => by cases e; exact Ne.symm hgb)) v HV.out).mono ?_; rintro e w7 ⟨rfl, rfl⟩
  refine hK.out _ _ ?_ (fun hHeld => ?_)
  ·exact hp6
  clear hK K
  try simp only [Act.put, zS]
  refine tk 8 rfl ?_ ?_ ?_
  rotate_left
  ·(intro w hSw; (try dsimp only at hSw); go_simp; try with_reducible rfl)
  try simp only [Act.put, zS]
  refine wpAnyH_ready (rs := [9]) (by kernel_rfl) (by simp) ?_
  refine AllReadyH.cons rfl (fun K hK => ?_) AllReadyH.nil
  rw [if_pos (by rfl)]
  refine aU (old := noP) (q := R) rfl rfl rfl HRL.out rfl hr6 ?_
  refine hK.out _ _ ?_ (fun hHeld => ?_)
  ·exact hp6.setRow_far hgr' _
  clear hK K
  try simp only [Act.put, zS]
  refine tk 10 rfl ?_ ?_ ?_
  rotate_left
  ·(intro w hSw; (try dsimp only at hSw); go_simp; try with_reducible rfl)
  try simp only [Act.put, zS]
  refine wpAnyH_done (by kernel_rfl) ?_ _
  have fin := (hkd.trans k6 (fun b hb e => by have h3 : b = ga := e; omega)).setRow w.heap.size (ab R).toArray (fun h => absurd h (Nat.lt_irrefl _))
  have hr7 := hr6.setRow (ab R)
  go_wp2
  (try simp only [Exit.inBlock, Exit.then])
  refine bodyPost_ret (v := .tuple #[pv R, .bool v]) (results_pair rfl _ _ w.heap.size R HRL.out rfl hr7 _ rfl) rfl ?_
  exact ⟨rfl, fin⟩
 | false =>
  rw [ho, Bool.false_and] at hgd
  have ho2 := fZ R HRL.out ga _ hbd false ho
  simp only [pv, if_false, Bool.false_eq_true] at ho2
  have HO := aa ho2
  clear ho2 ho
  subst hgd
  refine wp_region_held_drew (S := (fun w' => Blk w' gp 64 (ab R))) (by kernel_rfl) hpd (fun hHeld => ?_)
  refine tk 0 rfl ?_ ?_ ?_
  rotate_left
  ·(intro w hSw; (try dsimp only at hSw); refine aG (x := .tmp 4) ?_ ?_ HRL.out hSw <;> rfl)
  try simp only [Act.put, zS]
  refine tk 1 rfl ?_ ?_ ?_
  rotate_left
  ·(intro w hSw; (try dsimp only at hSw); refine aG (x := .tmp 4) ?_ ?_ HRL.out hSw <;> rfl)
  try simp only [Act.put, zS]
  refine tk 2 rfl ?_ ?_ ?_
  rotate_left
  ·(intro w hSw; (try dsimp only at hSw); go_simp; try with_reducible rfl)
  try simp only [Act.put, zS]
  refine wpAnyH_ready (rs := [3]) (by kernel_rfl) (by simp) ?_
  refine AllReadyH.cons rfl (fun K hK => ?_) AllReadyH.nil
  go_simp
  with_reducible_and_instances apply Calls.mono HO.out; rintro e w6 ⟨rfl, z6, k6⟩
  have hp6 := hpd.keep k6 (Ne.symm hgw)
  have hr6 := hrd.keep k6 (Ne.symm hga)
  refine hK.out _ _ ?_ (fun hHeld => ?_)
  ·exact hp6
  clear hK K
  try simp only [Act.put, zS]
  refine tk 4 rfl ?_ ?_ ?_
  rotate_left
  ·(intro w hSw; (try dsimp only at hSw); go_simp; try with_reducible rfl)
  try simp only [Act.put, zS]
  refine sk 5 rfl ?_
  try simp only [Act.put, zS]
  refine sk 6 rfl ?_
  try simp only [Act.put, zS]
  refine sk 7 rfl ?_
  try simp only [Act.put, zS]
  refine tk 8 rfl ?_ ?_ ?_
  rotate_left
  ·(intro w hSw; (try dsimp only at hSw); go_simp; try with_reducible rfl)
  try simp only [Act.put, zS]
  refine wpAnyH_ready (rs := [9]) (by kernel_rfl) (by simp) ?_
  refine AllReadyH.cons rfl (fun K hK => ?_) AllReadyH.nil
  rw [if_pos (by rfl)]
  refine aU (old := noP) (q := R) rfl rfl rfl HRL.out rfl hr6 ?_
  refine hK.out _ _ ?_ (fun hHeld => ?_)
  ·exact hp6.setRow_far hgr' _
  clear hK K
  try simp only [Act.put, zS]
  refine tk 10 rfl ?_ ?_ ?_
  rotate_left
  ·(intro w hSw; (try dsimp only at hSw); go_simp; try with_reducible rfl)
  try simp only [Act.put, zS]
  refine wpAnyH_done (by kernel_rfl) ?_ _
  have fin := (hkd.trans k6 (fun b hb e => by have h3 : b = ga := e; omega)).setRow w.heap.size (ab R).toArray (fun h => absurd h (Nat.lt_irrefl _))
  have hr7 := hr6.setRow (ab R)
  go_wp2
  (try simp only [Exit.inBlock, Exit.then])
  refine bodyPost_ret (v := .tuple #[pv R, .bool false]) (results_pair rfl _ _ w.heap.size R HRL.out rfl hr7 _ rfl) rfl ?_
  exact ⟨rfl, fin⟩
end Go.Proofs.YtgcikpgcoemfnaaGreat.Fi
