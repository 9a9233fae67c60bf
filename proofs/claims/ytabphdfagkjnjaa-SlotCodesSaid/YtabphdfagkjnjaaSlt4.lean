/- Package pslot: bytes.Equal; get, up to its last region. -/
import Derived.Test.YtabphdfagkjnjaaSlt3
import Derived.Test.YtabphdfagkjnjaaSltQ
import Derived.BigRegion
import Derived.Deep.RegionHeld3
import Derived.Deep.CutBlock
namespace Go.Proofs.Ytabphdfagkjnjaa
open Go.RowKit
set_option linter.unusedVariables false
set_option linter.unusedSimpArgs false
theorem equal_is (A B : Option Addr) (n m c d : Nat) (x y : List UInt8) (w : World) (hx : Reads w A n (bytes x)) (hy : Reads w B m (bytes y)) (v : Bool) (hv : (x == y) = v) :
    Calls Try.prog 39 #[.slice A n c, .slice B m d] w fun e w' => e = .returned (.bool v) ∧ w = w' := by
  have s1 := fun c => run_str (P := Try.prog) w 26 9 5 A n c x Try.underlying26 Try.underlying5 Try.underlying9 hx
  have s2 := fun c => run_str (P := Try.prog) w 26 9 5 B m c y Try.underlying26 Try.underlying5 Try.underlying9 hy
  have s3 : ((str x).toList == (str y).toList) = v := by rw [str_tl, str_tl, hv]
  clear hv hx hy
  generalize str x = X at *
  generalize str y = Y at *
  go_enter Try.func39, Try.ntmps39
  go_wp2
  go_ret
  exact ⟨rfl, rfl⟩
theorem reads_at {w : World} {g n : Nat} {l : List UInt8} (hr : Reads w (some ⟨g, 0, none⟩) n (bytes l)) {k : Nat} (hk : k < n) : w.cell? ⟨g, k, none⟩ = some (.int .u8 ((l.getD k 0).toNat : Int)) := by
  have hl : l.length = n := by simpa using hr.1
  obtain ⟨ad, h1, h2⟩ := hr.2 (by omega)
  cases h1
  have := h2 k _ (bytes_getD (by omega))
  rwa [add_lit, Nat.zero_add] at this
section
variable {ρ : Operand → Value} {o : Oper} {x y : Operand} {w : World} {g : Nat} {q old : List Int}
theorem exec_load (ho : o.op = .load 24 x) (hx : ρ x = .pointer (some ⟨g, 0, none⟩)) (hq : q.length = 16) (hb : Blk w g 24 (ints q)) : (execOp ρ o).run Try.prog w = .ok (.value (.agg (ints q).toArray)) w := by
  have := run_loadVar_row (P := Try.prog) w g 24 24 (ints q).toArray (0, 0) _ hb Try.underlying24 rfl (by rw [infoP_]; simp [hq])
  simp [execOp, ho, hx, Instr.loadAt, Instr.sureAddr, this, Result.andThen]
theorem exec_store (ho : o.op = .store 24 x y) (hx : ρ x = .pointer (some ⟨g, 0, none⟩)) (hy : ρ y = .agg (ints q).toArray) (hq : q.length = 16) (hd : old.length = 16) (hb : Blk w g 24 (ints old)) :
    (execOp ρ o).run Try.prog w = .ok .skip (w.setRow g (ints q).toArray) := by
  have := run_storeVar_row (P := Try.prog) w g 24 24 (ints old).toArray (ints q).toArray hb (by rw [infoP_]; simp [hq]) (by simp [hq, hd]) (by rw [Array.all_eq_true_iff_forall_mem]; intro v hv; exact ints_one q v (by simpa using hv))
  simp [execOp, ho, hx, hy, Instr.storeAt, Instr.sureAddr, this, Result.andThen]
theorem wp_store {a : Act} {K : Act → World → Prop} {Q : Exit → Act → World → Prop} (ho : o.op = .store 24 x y) (hx : a.eval x = .pointer (some ⟨g, 0, none⟩)) (hy : a.eval y = .agg (ints q).toArray) (hq : q.length = 16) (hd : old.length = 16) (hb : Blk w g 24 (ints old))
    (h : K (a.put o.dst undef) (w.setRow g (ints q).toArray)) : Oper.wp Try.prog o a w K Q := by
  unfold Oper.wp
  rw [exec_store ho hx hy hq hd hb]
  exact h
end
set_option maxHeartbeats 4000000 in
set_option maxRecDepth 100000 in
theorem get_is_ (l : List UInt8) (hl : l.length = 24) (g c : Nat) (w : World) (hr : Reads w (some ⟨g, 0, none⟩) 24 (bytes l)) (R : List Int) (hR : rd l = R) (v : Bool) (hv : gd l = v) :
    Calls Try.prog 34 #[.slice (some ⟨g, 0, none⟩) 24 c] w fun e w' => e = .returned (.tuple #[pv R, .bool v]) ∧ Keep Nob w w' := by
  have HRR := Lib.hid hR
  have HV := Lib.hid hv
  clear hR hv
  have hlt := block_lt_of_cell (reads_at hr (k := 0) (by decide))
  have hlt' : g < w.heap.size := hlt
  have h0 := reads_at hr (k := 0) (by decide)
  have h1 := reads_at hr (k := 1) (by decide)
  have h2 := reads_at hr (k := 2) (by decide)
  have h3 := reads_at hr (k := 3) (by decide)
  have u0 := u8_lt (l.getD 0 0)
  have u1 := u8_lt (l.getD 1 0)
  have u2 := u8_lt (l.getD 2 0)
  have u3 := u8_lt (l.getD 3 0)
  have HL := Lib.hid hl
  have HR := Lib.hid hr
  obtain ⟨x0, hx0⟩ : ∃ x, ((l.getD 0 0).toNat : Int) = x := ⟨_, rfl⟩
  obtain ⟨x1, hx1⟩ : ∃ x, ((l.getD 1 0).toNat : Int) = x := ⟨_, rfl⟩
  obtain ⟨x2, hx2⟩ : ∃ x, ((l.getD 2 0).toNat : Int) = x := ⟨_, rfl⟩
  obtain ⟨x3, hx3⟩ : ∃ x, ((l.getD 3 0).toNat : Int) = x := ⟨_, rfl⟩
  have hR4 : rpt l 4 = [x0, x1, x2, x3, 0, 0, 0, 0, 0, 0, 0, 0, 0, 0, 0, 0] := by
    subst hx0 hx1 hx2 hx3
    obtain ⟨x0, x1, x2, x3, x4, x5, x6, x7, x8, x9, y0, y1, y2, y3, y4, y5, y6, y7, y8, y9, z0, z1, z2, z3, rfl⟩ := split24 hl
    rfl
  have HR4 := Lib.hid hR4
  rw [hx0] at h0 u0
  rw [hx1] at h1 u1
  rw [hx2] at h2 u2
  rw [hx3] at h3 u3
  have i0 : IntKind.i64.wrap x0 = x0 := wrap_small_i64 _ (by omega) (by omega)
  have i1 : IntKind.i64.wrap x1 = x1 := wrap_small_i64 _ (by omega) (by omega)
  have i2 : IntKind.i64.wrap x2 = x2 := wrap_small_i64 _ (by omega) (by omega)
  have i3 : IntKind.i64.wrap x3 = x3 := wrap_small_i64 _ (by omega) (by omega)
  clear hl hr hx0 hx1 hx2 hx3 hlt hR4
  go_enter Try.func34, Try.ntmps34
  go_wp2_with fail
  go_region
  have hp1 : Blk (((w.alloc (.cells #[.int .i64 0, .int .i64 0, .int .i64 0, .int .i64 0, .int .i64 0, .int .i64 0, .int .i64 0, .int .i64 0, .int .i64 0, .int .i64 0, .int .i64 0, .int .i64 0, .int .i64 0, .int .i64 0, .int .i64 0, .int .i64 0] 24)).alloc (.cells #[.int .i64 x0, .int .i64 x1, .int .i64 x2, .int .i64 x3, .int .i64 0, .int .i64 0, .int .i64 0, .int .i64 0, .int .i64 0, .int .i64 0, .int .i64 0, .int .i64 0, .int .i64 0, .int .i64 0, .int .i64 0, .int .i64 0] 24)).drew) (w.heap.size + 1) 24 (ints (rpt l 4)) := by
    rw [HR4.out]
    have := (Blk.new (w.alloc (.cells #[.int .i64 0, .int .i64 0, .int .i64 0, .int .i64 0, .int .i64 0, .int .i64 0, .int .i64 0, .int .i64 0, .int .i64 0, .int .i64 0, .int .i64 0, .int .i64 0, .int .i64 0, .int .i64 0, .int .i64 0, .int .i64 0] 24)) 24 (ints [x0, x1, x2, x3, 0, 0, 0, 0, 0, 0, 0, 0, 0, 0, 0, 0])).drew
    rw [show (w.alloc (.cells #[.int .i64 0, .int .i64 0, .int .i64 0, .int .i64 0, .int .i64 0, .int .i64 0, .int .i64 0, .int .i64 0, .int .i64 0, .int .i64 0, .int .i64 0, .int .i64 0, .int .i64 0, .int .i64 0, .int .i64 0, .int .i64 0] 24)).heap.size = w.heap.size + 1 from by simp] at this
    exact this
  have hr1 : Blk (((w.alloc (.cells #[.int .i64 0, .int .i64 0, .int .i64 0, .int .i64 0, .int .i64 0, .int .i64 0, .int .i64 0, .int .i64 0, .int .i64 0, .int .i64 0, .int .i64 0, .int .i64 0, .int .i64 0, .int .i64 0, .int .i64 0, .int .i64 0] 24)).alloc (.cells #[.int .i64 x0, .int .i64 x1, .int .i64 x2, .int .i64 x3, .int .i64 0, .int .i64 0, .int .i64 0, .int .i64 0, .int .i64 0, .int .i64 0, .int .i64 0, .int .i64 0, .int .i64 0, .int .i64 0, .int .i64 0, .int .i64 0] 24)).drew) w.heap.size 24 (ints noP) := ((Blk.new w 24 (ints noP)).alloc _).drew
  have hk1 : Keep Nob w (((w.alloc (.cells #[.int .i64 0, .int .i64 0, .int .i64 0, .int .i64 0, .int .i64 0, .int .i64 0, .int .i64 0, .int .i64 0, .int .i64 0, .int .i64 0, .int .i64 0, .int .i64 0, .int .i64 0, .int .i64 0, .int .i64 0, .int .i64 0] 24)).alloc (.cells #[.int .i64 x0, .int .i64 x1, .int .i64 x2, .int .i64 x3, .int .i64 0, .int .i64 0, .int .i64 0, .int .i64 0, .int .i64 0, .int .i64 0, .int .i64 0, .int .i64 0, .int .i64 0, .int .i64 0, .int .i64 0, .int .i64 0] 24)).drew) := (((Keep.refl Nob w).alloc _).alloc _).drew
  generalize (((w.alloc (.cells #[.int .i64 0, .int .i64 0, .int .i64 0, .int .i64 0, .int .i64 0, .int .i64 0, .int .i64 0, .int .i64 0, .int .i64 0, .int .i64 0, .int .i64 0, .int .i64 0, .int .i64 0, .int .i64 0, .int .i64 0, .int .i64 0] 24)).alloc (.cells #[.int .i64 x0, .int .i64 x1, .int .i64 x2, .int .i64 x3, .int .i64 0, .int .i64 0, .int .i64 0, .int .i64 0, .int .i64 0, .int .i64 0, .int .i64 0, .int .i64 0, .int .i64 0, .int .i64 0, .int .i64 0, .int .i64 0] 24)).drew) = w1 at *
  have hgr : w.heap.size ≠ w.heap.size + 1 := by omega
  have hgn : w.heap.size ≤ w.heap.size + 1 := by omega
  generalize w.heap.size + 1 = gp at *
  clear h0 h1 h2 h3 u0 u1 u2 u3 HR4 i0 i1 i2 i3
  have hpl := hp1.lt
  have hs2 : Blk (w1.alloc (.cells #[.pointer (some ⟨gp, 4, none⟩), .pointer (some ⟨gp, 5, none⟩), .pointer (some ⟨gp, 6, none⟩), .pointer (some ⟨gp, 7, none⟩)] 64)) w1.heap.size 64 [.pointer (some ⟨gp, 4, none⟩), .pointer (some ⟨gp, 5, none⟩), .pointer (some ⟨gp, 6, none⟩), .pointer (some ⟨gp, 7, none⟩)] := Blk.new w1 _ _
  have hp2 := hp1.alloc (.cells #[.pointer (some ⟨gp, 4, none⟩), .pointer (some ⟨gp, 5, none⟩), .pointer (some ⟨gp, 6, none⟩), .pointer (some ⟨gp, 7, none⟩)] 64)
  have hr2 := hr1.alloc (.cells #[.pointer (some ⟨gp, 4, none⟩), .pointer (some ⟨gp, 5, none⟩), .pointer (some ⟨gp, 6, none⟩), .pointer (some ⟨gp, 7, none⟩)] 64)
  have hk2 := hk1.alloc (.cells #[.pointer (some ⟨gp, 4, none⟩), .pointer (some ⟨gp, 5, none⟩), .pointer (some ⟨gp, 6, none⟩), .pointer (some ⟨gp, 7, none⟩)] 64)
  clear hp1 hr1 hk1
  have hsz : w.heap.size ≤ w1.heap.size := by omega
  go_wp2_with fail
  generalize w1.heap.size = gs at *
  go_loopw [32] (fun s32 wx => ∃ k : Nat, k ≤ 4 ∧ s32 = .int .i64 k ∧ Blk wx gp 24 (ints (rpt l (4 + k))) ∧ Blk wx w.heap.size 24 (ints noP) ∧ Blk wx gs 64 [.pointer (some ⟨gp, 4, none⟩), .pointer (some ⟨gp, 5, none⟩), .pointer (some ⟨gp, 6, none⟩), .pointer (some ⟨gp, 7, none⟩)] ∧ Keep Nob w wx) (fun s32 _ => 4 - (intOf s32).toNat)
  case atStart => exact ⟨0, Nat.zero_le _, rfl, hp2, hr2, hs2, hk2⟩
  case round =>
    obtain ⟨k, hk, rfl, hp3, hr3, hs3, hk3⟩ := hrel
    clear hp2 hr2 hs2 hk2
    by_cases hlt : k < 4
    · have c5 := hs3.cell k
      have hcc : ([.pointer (some ⟨gp, 4, none⟩), .pointer (some ⟨gp, 5, none⟩), .pointer (some ⟨gp, 6, none⟩), .pointer (some ⟨gp, 7, none⟩)] : List Value)[k]? = some (.pointer (some ⟨gp, 4 + k, none⟩)) := by
        rcases (show k = 0 ∨ k = 1 ∨ k = 2 ∨ k = 3 from by omega) with rfl | rfl | rfl | rfl <;> rfl
      rw [hcc] at c5
      clear hcc
      go_wp2_with fail
      refine (get_is (some ⟨g, 0, none⟩) 24 c _ l _ (HR.out.nob hk3) (by decide) true (decide_eq_true ⟨by omega, by omega⟩) ((rd l).getD (4 + k) 0) (by rw [if_pos rfl, rd_two k hlt]; congr 1 <;> omega)).mono ?_; rintro e wy ⟨rfl, ky⟩
      have hp4 := hp3.nob ky
      have hr4 := hr3.nob ky
      have hs4 := hs3.nob ky
      have hk4 := hk3.nobt ky
      clear hp3 hr3 hs3 hk3 ky c5
      have hset := rpt_set HL.out (k := 4 + k) (by omega)
      generalize (rd l).getD (4 + k) 0 = u at *
      have fr := hp4.frozen (4 + k)
      have cc : ∃ x, _ = some x := ⟨_, (hp4.cell (4 + k)).trans (ints_getD (by rw [rpt_len HL.out (by omega)]; omega))⟩
      obtain ⟨x, cc⟩ := cc
      have hp5 : Blk (wy.setCell ⟨gp, 4 + k, none⟩ (.int .i64 u)) gp 24 (ints (rpt l (4 + (k + 1)))) := by
        have := hp4.setCell (4 + k) (.int .i64 u)
        rw [ints_set, hset] at this
        exact this
      have hr5 := hr4.far (p := ⟨gp, 4 + k, none⟩) hgr (.int .i64 u)
      have hs5 := hs4.far (p := ⟨gp, 4 + k, none⟩) (show gs ≠ gp from by omega) (.int .i64 u)
      have hk5 : Keep Nob w (wy.setCell ⟨gp, 4 + k, none⟩ (.int .i64 u)) := hk4.setCell ⟨gp, 4 + k, none⟩ _ (fun h => absurd h (by show ¬ gp < _; omega))
      clear hp4 hr4 hs4 hk4 hset
      go_wp2_with fail
      go_round
      case rel => exact ⟨k + 1, by omega, by go_num, hp5, hr5, hs5, hk5⟩
      case measure => simp [intOf]; omega
    · obtain rfl : k = 4 := by omega
      clear hlt hk hs3
      go_wp2_with fail
      go_loopw [48] (fun s48 wx => ∃ k : Nat, k ≤ 8 ∧ s48 = .int .i64 k ∧ Blk wx gp 24 (ints (rpt l (8 + k))) ∧ Blk wx w.heap.size 24 (ints noP) ∧ Keep Nob w wx) (fun s48 _ => 8 - (intOf s48).toNat)
      case atStart => exact ⟨0, Nat.zero_le _, rfl, hp3, hr3, hk3⟩
      case round =>
        obtain ⟨k, hk, rfl, hp4, hr4, hk4⟩ := hrel
        clear hp3 hr3 hk3
        by_cases hlt : k < 8
        · have c6 := reads_at (HR.out.nob hk4) (k := 12 + k) (by omega)
          have hset := rpt_set HL.out (k := 8 + k) (by omega)
          rw [rd_fds HL.out k hlt] at hset
          have hu := u8_lt (l.getD (12 + k) 0)
          obtain ⟨u, hu0⟩ : ∃ x, ((l.getD (12 + k) 0).toNat : Int) = x := ⟨_, rfl⟩
          rw [hu0] at c6 hset hu
          clear hu0
          have hwr : IntKind.i64.wrap u = u := wrap_small_i64 _ (by omega) (by omega)
          have fr := hp4.frozen (8 + k)
          have cc : ∃ x, _ = some x := ⟨_, (hp4.cell (8 + k)).trans (ints_getD (by rw [rpt_len HL.out (by omega)]; omega))⟩
          obtain ⟨x, cc⟩ := cc
          have hp5 : Blk (wr.setCell ⟨gp, 8 + k, none⟩ (.int .i64 u)) gp 24 (ints (rpt l (8 + (k + 1)))) := by
            have := hp4.setCell (8 + k) (.int .i64 u)
            rw [ints_set, hset] at this
            exact this
          have hr5 := hr4.far (p := ⟨gp, 8 + k, none⟩) hgr (.int .i64 u)
          have hk5 : Keep Nob w (wr.setCell ⟨gp, 8 + k, none⟩ (.int .i64 u)) := hk4.setCell ⟨gp, 8 + k, none⟩ _ (fun h => absurd h (by show ¬ gp < _; omega))
          clear hp4 hr4 hk4 hset
          go_wp2_with fail
          go_round
          case rel => exact ⟨k + 1, by omega, by go_num, hp5, hr5, hk5⟩
          case measure => simp [intOf]; omega
        · obtain rfl : k = 8 := by omega
          rw [show 8 + 8 = 16 from rfl, rpt_all HL.out] at hp4
          clear hlt hk
          go_wp2_with (refine wpList_mk rfl _ _ 26 rfl 5 (.int .u8 0) 1 Try.underlying26 Try.info5 rfl .i64 .i64 24 _ rfl rfl rfl (by omega) (by omega) ?_; intro w5 hb5 hk5 hs5)
          clear hs5
          have hp5 := hp4.nob hk5
          have hr5 := hr4.nob hk5
          have hk6 := hk4.nobt hk5
          have hR5 := (HR.out.nob hk4).nob hk5
          have hgw : wr.heap.size ≠ gp := by have := hp4.lt; omega
          have hga : wr.heap.size ≠ w.heap.size := by have := hr4.lt; omega
          have hgb : wr.heap.size ≠ g := by have := hk4.size; omega
          have hge : w.heap.size ≤ wr.heap.size := hk4.size
          rw [← bytes_replicate] at hb5
          clear hp4 hr4 hk4 hk5
          generalize wr.heap.size = ga at *
          have hrl := rd_len HL.out
          have hrw := rd_wf HL.out
          have hgd : (okd (rd l) && enc (rd l) == l) = v := HV.out
          clear HV
          rw [HRR.out] at hgd hp5 hrl hrw
          clear HRR
          have hpd := hp5.drew
          have hrd := hr5.drew
          have hkd := hk6.drew
          have hRd := hR5.nob ((Keep.refl Nob w5).drew)
          have hbd := hb5.drew
          clear hp5 hr5 hk6 hR5 hb5
          have hgr' : gp ≠ w.heap.size := Ne.symm hgr
          have HRL := Lib.hid hrl
          have HRW := Lib.hid hrw
          clear hrl hrw
          cases ho : okd R with
          | true =>
            rw [ho, Bool.true_and] at hgd
            have ho2 := put_is_ R HRL.out HRW.out ga _ hbd true ho
            simp only [pv, if_true] at ho2
            have HO := Lib.hid ho2
            have HV := Lib.hid hgd
            clear ho2 ho hgd
            refine wp_region_held_drew (S := (fun w' => Blk w' gp 24 (ints R))) (by kernel_rfl) hpd (fun hHeld => ?_)
            refine wpAnyH_take (i := 0) (v := ?_) rfl (by kernel_rfl) (by kernel_rfl) (by kernel_rfl) (fun _ _ _ h => h) (Or.inl ⟨by rfl, ?_⟩) (by assumption) ?_
            rotate_left
            · (intro w hSw; (try dsimp only at hSw); refine exec_load (x := .tmp 4) ?_ ?_ HRL.out hSw <;> rfl)
            try simp only [Act.put, List.getElem_toArray, List.getElem_cons_zero, List.getElem_cons_succ, List.setIfInBounds_toArray, List.set_cons_zero, List.set_cons_succ]
            refine wpAnyH_take (i := 1) (v := ?_) rfl (by kernel_rfl) (by kernel_rfl) (by kernel_rfl) (fun _ _ _ h => h) (Or.inl ⟨by rfl, ?_⟩) (by assumption) ?_
            rotate_left
            · (intro w hSw; (try dsimp only at hSw); refine exec_load (x := .tmp 4) ?_ ?_ HRL.out hSw <;> rfl)
            try simp only [Act.put, List.getElem_toArray, List.getElem_cons_zero, List.getElem_cons_succ, List.setIfInBounds_toArray, List.set_cons_zero, List.set_cons_succ]
            refine wpAnyH_take (i := 2) (v := ?_) rfl (by kernel_rfl) (by kernel_rfl) (by kernel_rfl) (fun _ _ _ h => h) (Or.inl ⟨by rfl, ?_⟩) (by assumption) ?_
            rotate_left
            · (intro w hSw; (try dsimp only at hSw); go_simp; try with_reducible rfl)
            try simp only [Act.put, List.getElem_toArray, List.getElem_cons_zero, List.getElem_cons_succ, List.setIfInBounds_toArray, List.set_cons_zero, List.set_cons_succ]
            refine wpAnyH_ready (rs := [3]) (by kernel_rfl) (by simp) ?_
            refine AllReadyH.cons rfl (fun K hK => ?_) AllReadyH.nil
            go_simp
            with_reducible_and_instances apply Calls.mono HO.out; rintro e w6 ⟨rfl, z6, k6⟩
            have hp6 := hpd.keep k6 (Ne.symm hgw)
            have hr6 := hrd.keep k6 (Ne.symm hga)
            refine hK.out _ _ ?_ (fun hHeld => ?_)
            · exact hp6
            clear hK K
            try simp only [Act.put, List.getElem_toArray, List.getElem_cons_zero, List.getElem_cons_succ, List.setIfInBounds_toArray, List.set_cons_zero, List.set_cons_succ]
            refine wpAnyH_take (i := 4) (v := ?_) rfl (by kernel_rfl) (by kernel_rfl) (by kernel_rfl) (fun _ _ _ h => h) (Or.inl ⟨by rfl, ?_⟩) (by assumption) ?_
            rotate_left
            · (intro w hSw; (try dsimp only at hSw); go_simp; try with_reducible rfl)
            try simp only [Act.put, List.getElem_toArray, List.getElem_cons_zero, List.getElem_cons_succ, List.setIfInBounds_toArray, List.set_cons_zero, List.set_cons_succ]
            refine wpAnyH_take (i := 5) (v := ?_) rfl (by kernel_rfl) (by kernel_rfl) (by kernel_rfl) (fun _ _ _ h => h) (Or.inl ⟨by rfl, ?_⟩) (by assumption) ?_
            rotate_left
            · (intro w hSw; (try dsimp only at hSw); go_simp; try with_reducible rfl)
            try simp only [Act.put, List.getElem_toArray, List.getElem_cons_zero, List.getElem_cons_succ, List.setIfInBounds_toArray, List.set_cons_zero, List.set_cons_succ]
            refine wpAnyH_take (i := 6) (v := ?_) rfl (by kernel_rfl) (by kernel_rfl) (by kernel_rfl) (fun _ _ _ h => h) (Or.inl ⟨by rfl, ?_⟩) (by assumption) ?_
            rotate_left
            · (intro w hSw; (try dsimp only at hSw); go_simp; try with_reducible rfl)
            try simp only [Act.put, List.getElem_toArray, List.getElem_cons_zero, List.getElem_cons_succ, List.setIfInBounds_toArray, List.set_cons_zero, List.set_cons_succ]
            refine wpAnyH_ready (rs := [7]) (by kernel_rfl) (by simp) ?_
            refine AllReadyH.cons rfl (fun K hK => ?_) AllReadyH.nil
            go_simp
            refine (equal_is _ _ _ _ _ _ (enc R) l _ (reads_all z6 (by rw [bytes_length, enc_len HRL.out])) (hRd.keep k6 (fun ad e => by cases e; exact Ne.symm hgb)) v HV.out).mono ?_; rintro e w7 ⟨rfl, rfl⟩
            refine hK.out _ _ ?_ (fun hHeld => ?_)
            · exact hp6
            clear hK K
            try simp only [Act.put, List.getElem_toArray, List.getElem_cons_zero, List.getElem_cons_succ, List.setIfInBounds_toArray, List.set_cons_zero, List.set_cons_succ]
            refine wpAnyH_take (i := 8) (v := ?_) rfl (by kernel_rfl) (by kernel_rfl) (by kernel_rfl) (fun _ _ _ h => h) (Or.inl ⟨by rfl, ?_⟩) (by assumption) ?_
            rotate_left
            · (intro w hSw; (try dsimp only at hSw); go_simp; try with_reducible rfl)
            try simp only [Act.put, List.getElem_toArray, List.getElem_cons_zero, List.getElem_cons_succ, List.setIfInBounds_toArray, List.set_cons_zero, List.set_cons_succ]
            refine wpAnyH_ready (rs := [9]) (by kernel_rfl) (by simp) ?_
            refine AllReadyH.cons rfl (fun K hK => ?_) AllReadyH.nil
            rw [if_pos (by rfl)]
            refine wp_store (old := noP) (q := R) rfl rfl rfl HRL.out rfl hr6 ?_
            refine hK.out _ _ ?_ (fun hHeld => ?_)
            · exact hp6.setRow_far hgr' _
            clear hK K
            try simp only [Act.put, List.getElem_toArray, List.getElem_cons_zero, List.getElem_cons_succ, List.setIfInBounds_toArray, List.set_cons_zero, List.set_cons_succ]
            refine wpAnyH_take (i := 10) (v := ?_) rfl (by kernel_rfl) (by kernel_rfl) (by kernel_rfl) (fun _ _ _ h => h) (Or.inl ⟨by rfl, ?_⟩) (by assumption) ?_
            rotate_left
            · (intro w hSw; (try dsimp only at hSw); go_simp; try with_reducible rfl)
            try simp only [Act.put, List.getElem_toArray, List.getElem_cons_zero, List.getElem_cons_succ, List.setIfInBounds_toArray, List.set_cons_zero, List.set_cons_succ]
            refine wpAnyH_done (by kernel_rfl) ?_ _
            have fin := (hkd.trans k6 (fun b hb e => by have h3 : b = ga := e; omega)).setRow w.heap.size (ints R).toArray (fun h => absurd h (Nat.lt_irrefl _))
            have hr7 := hr6.setRow (ints R)
            go_wp2
            (try simp only [Exit.inBlock, Exit.then])
            refine bodyPost_ret (v := .tuple #[pv R, .bool v]) (results_pair rfl _ _ w.heap.size R HRL.out rfl hr7 _ rfl) rfl ?_
            exact ⟨rfl, fin⟩
          | false =>
            rw [ho, Bool.false_and] at hgd
            have ho2 := put_is_ R HRL.out HRW.out ga _ hbd false ho
            simp only [pv, if_false, Bool.false_eq_true] at ho2
            have HO := Lib.hid ho2
            clear ho2 ho
            subst hgd
            refine wp_region_held_drew (S := (fun w' => Blk w' gp 24 (ints R))) (by kernel_rfl) hpd (fun hHeld => ?_)
            refine wpAnyH_take (i := 0) (v := ?_) rfl (by kernel_rfl) (by kernel_rfl) (by kernel_rfl) (fun _ _ _ h => h) (Or.inl ⟨by rfl, ?_⟩) (by assumption) ?_
            rotate_left
            · (intro w hSw; (try dsimp only at hSw); refine exec_load (x := .tmp 4) ?_ ?_ HRL.out hSw <;> rfl)
            try simp only [Act.put, List.getElem_toArray, List.getElem_cons_zero, List.getElem_cons_succ, List.setIfInBounds_toArray, List.set_cons_zero, List.set_cons_succ]
            refine wpAnyH_take (i := 1) (v := ?_) rfl (by kernel_rfl) (by kernel_rfl) (by kernel_rfl) (fun _ _ _ h => h) (Or.inl ⟨by rfl, ?_⟩) (by assumption) ?_
            rotate_left
            · (intro w hSw; (try dsimp only at hSw); refine exec_load (x := .tmp 4) ?_ ?_ HRL.out hSw <;> rfl)
            try simp only [Act.put, List.getElem_toArray, List.getElem_cons_zero, List.getElem_cons_succ, List.setIfInBounds_toArray, List.set_cons_zero, List.set_cons_succ]
            refine wpAnyH_take (i := 2) (v := ?_) rfl (by kernel_rfl) (by kernel_rfl) (by kernel_rfl) (fun _ _ _ h => h) (Or.inl ⟨by rfl, ?_⟩) (by assumption) ?_
            rotate_left
            · (intro w hSw; (try dsimp only at hSw); go_simp; try with_reducible rfl)
            try simp only [Act.put, List.getElem_toArray, List.getElem_cons_zero, List.getElem_cons_succ, List.setIfInBounds_toArray, List.set_cons_zero, List.set_cons_succ]
            refine wpAnyH_ready (rs := [3]) (by kernel_rfl) (by simp) ?_
            refine AllReadyH.cons rfl (fun K hK => ?_) AllReadyH.nil
            go_simp
            with_reducible_and_instances apply Calls.mono HO.out; rintro e w6 ⟨rfl, z6, k6⟩
            have hp6 := hpd.keep k6 (Ne.symm hgw)
            have hr6 := hrd.keep k6 (Ne.symm hga)
            refine hK.out _ _ ?_ (fun hHeld => ?_)
            · exact hp6
            clear hK K
            try simp only [Act.put, List.getElem_toArray, List.getElem_cons_zero, List.getElem_cons_succ, List.setIfInBounds_toArray, List.set_cons_zero, List.set_cons_succ]
            refine wpAnyH_take (i := 4) (v := ?_) rfl (by kernel_rfl) (by kernel_rfl) (by kernel_rfl) (fun _ _ _ h => h) (Or.inl ⟨by rfl, ?_⟩) (by assumption) ?_
            rotate_left
            · (intro w hSw; (try dsimp only at hSw); go_simp; try with_reducible rfl)
            try simp only [Act.put, List.getElem_toArray, List.getElem_cons_zero, List.getElem_cons_succ, List.setIfInBounds_toArray, List.set_cons_zero, List.set_cons_succ]
            refine wpAnyH_take (i := 5) (v := undef) rfl (by kernel_rfl) (by kernel_rfl) (by kernel_rfl) (fun _ _ _ h => h) (Or.inr ⟨by rfl, rfl⟩) (by assumption) ?_
            try simp only [Act.put, List.getElem_toArray, List.getElem_cons_zero, List.getElem_cons_succ, List.setIfInBounds_toArray, List.set_cons_zero, List.set_cons_succ]
            refine wpAnyH_take (i := 6) (v := undef) rfl (by kernel_rfl) (by kernel_rfl) (by kernel_rfl) (fun _ _ _ h => h) (Or.inr ⟨by rfl, rfl⟩) (by assumption) ?_
            try simp only [Act.put, List.getElem_toArray, List.getElem_cons_zero, List.getElem_cons_succ, List.setIfInBounds_toArray, List.set_cons_zero, List.set_cons_succ]
            refine wpAnyH_take (i := 7) (v := undef) rfl (by kernel_rfl) (by kernel_rfl) (by kernel_rfl) (fun _ _ _ h => h) (Or.inr ⟨by rfl, rfl⟩) (by assumption) ?_
            try simp only [Act.put, List.getElem_toArray, List.getElem_cons_zero, List.getElem_cons_succ, List.setIfInBounds_toArray, List.set_cons_zero, List.set_cons_succ]
            refine wpAnyH_take (i := 8) (v := ?_) rfl (by kernel_rfl) (by kernel_rfl) (by kernel_rfl) (fun _ _ _ h => h) (Or.inl ⟨by rfl, ?_⟩) (by assumption) ?_
            rotate_left
            · (intro w hSw; (try dsimp only at hSw); go_simp; try with_reducible rfl)
            try simp only [Act.put, List.getElem_toArray, List.getElem_cons_zero, List.getElem_cons_succ, List.setIfInBounds_toArray, List.set_cons_zero, List.set_cons_succ]
            refine wpAnyH_ready (rs := [9]) (by kernel_rfl) (by simp) ?_
            refine AllReadyH.cons rfl (fun K hK => ?_) AllReadyH.nil
            rw [if_pos (by rfl)]
            refine wp_store (old := noP) (q := R) rfl rfl rfl HRL.out rfl hr6 ?_
            refine hK.out _ _ ?_ (fun hHeld => ?_)
            · exact hp6.setRow_far hgr' _
            clear hK K
            try simp only [Act.put, List.getElem_toArray, List.getElem_cons_zero, List.getElem_cons_succ, List.setIfInBounds_toArray, List.set_cons_zero, List.set_cons_succ]
            refine wpAnyH_take (i := 10) (v := ?_) rfl (by kernel_rfl) (by kernel_rfl) (by kernel_rfl) (fun _ _ _ h => h) (Or.inl ⟨by rfl, ?_⟩) (by assumption) ?_
            rotate_left
            · (intro w hSw; (try dsimp only at hSw); go_simp; try with_reducible rfl)
            try simp only [Act.put, List.getElem_toArray, List.getElem_cons_zero, List.getElem_cons_succ, List.setIfInBounds_toArray, List.set_cons_zero, List.set_cons_succ]
            refine wpAnyH_done (by kernel_rfl) ?_ _
            have fin := (hkd.trans k6 (fun b hb e => by have h3 : b = ga := e; omega)).setRow w.heap.size (ints R).toArray (fun h => absurd h (Nat.lt_irrefl _))
            have hr7 := hr6.setRow (ints R)
            go_wp2
            (try simp only [Exit.inBlock, Exit.then])
            refine bodyPost_ret (v := .tuple #[pv R, .bool false]) (results_pair rfl _ _ w.heap.size R HRL.out rfl hr7 _ rfl) rfl ?_
            exact ⟨rfl, fin⟩
end Go.Proofs.Ytabphdfagkjnjaa
