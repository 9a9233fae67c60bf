/- Texts CoW, CoM, CoV, packed. -/
import Derived.Test.YtifigjccokpcfaaGreatPk0
import Derived.Test.YtifigjccokpcfaaGreatPbx0
import Derived.Test.YtifigjccokpcfaaGreatPk3
import Derived.Test.YtifigjccokpcfaaGreatPk5
import Derived.Test.YtifigjccokpcfaaGreatPk18
import Derived.Test.YtifigjccokpcfaaGreatPk19
import Derived.Test.YtifigjccokpcfaaGreatPk1
import Derived.Test.YtifigjccokpcfaaGreatPk8
import Derived.Test.YtifigjccokpcfaaGreatPk12
import Derived.Test.YtifigjccokpcfaaGreatPk21
import Derived.Test.YtifigjccokpcfaaGreatPk22
import Derived.Test.YtifigjccokpcfaaGreatPk13
import Derived.Test.YtifigjccokpcfaaGreatPbx2
import Derived.Test.YtifigjccokpcfaaGreatPk15
import Derived.Test.YtifigjccokpcfaaGreatPk14
import Derived.Test.YtifigjccokpcfaaGreatPk16
import Derived.Test.YtifigjccokpcfaaGreatPk17
import Derived.Test.YtifigjccokpcfaaGreatPk24
import Derived.Test.YtifigjccokpcfaaGreatPk23
import Derived.Test.YtifigjccokpcfaaGreatPk6
import Derived.Test.YtifigjccokpcfaaGreatPk9
import Derived.Test.YtifigjccokpcfaaGreatPk20
import Derived.Test.YtifigjccokpcfaaGreatPk2
import Derived.Test.YtifigjccokpcfaaGreatPk10
import Derived.Test.YtifigjccokpcfaaGreatPk11
import Derived.Test.YtifigjccokpcfaaGreatPk26
namespace Go.Proofs.YtifigjccokpcfaaGreat.Co
open Go.RowKit
set_option linter.unusedVariables false
set_option linter.unusedSimpArgs false
set_option maxRecDepth 100000 in
set_option maxHeartbeats 4000000 in
theorem writeF_is {w : World} {K : Kn} {C : Cm} {src : Src} (h : Kc w K C src) (r : Rf) (ho : RecOk r) (hsz : ∀ x, wher C.brs.length r = some x → x.2.2 = 8) (v : List Int) (hl : v.length = 4) (ok : Bool) (ys : List UInt8) (hv : pset (Fi.okd v) (Fi.enc v) K.xs src C.brs.length C.bad r = (ok, ys)) :
    Calls Tryz.prog 47 #[.pointer (some ⟨C.p, 0, none⟩), .agg #[.int .i64 r.1, .int .i64 r.2], .agg (ints v).toArray, .func (.func 48) #[] #[]] w fun e w' => e = .returned (.bool ok) ∧ To w K { K with xs := ys } w' := by
  have k1 := (Keep.refl Nob w).alloc (.cells #[.int .i64 r.1, .int .i64 r.2] 120)
  have bR := Blk.new w 120 [.int .i64 r.1, .int .i64 r.2]
  obtain ⟨vo, hvo⟩ : ∃ b, Fi.okd v = b := ⟨_, rfl⟩
  have henc := fun W => Fi.encode_is v hl W vo hvo
  unfold Fi.pv at henc
  rw [hvo] at hv
  have hel : (Fi.enc v).length = 8 := Fi.enc_len _
  have hst := fun W (kk : Keep Nob w W) A m hb oo yy hh => store_is (h.nob kk) r ho A m 8 (Fi.enc v) hel (fun x hx => by rw [hel, hsz x hx]) hb oo yy hh
  have HH := Lib.hid h
  have HC := Lib.hid (cellsI hl)
  clear hsz hvo hel h ho
  generalize r.1 = r1 at *
  generalize r.2 = r2 at *
  have hq1 : (w.alloc (.cells #[.int .i64 r1, .int .i64 r2] 120)).heap.size = w.heap.size + 1 := by simp
  have HQ1 := Lib.hid hq1
  clear hq1
  go_enter Tryz.func47, Tryz.ntmps47
  go_wp2_with (first
    | (refine wpList_box rfl 43 _ rfl _ rfl ?_; intro w1 hb1 hk1 hs1; clear hs1; have bR1 := bR.nob hk1; have c0 := bR1.cell 0; have c1 := bR1.cell 1; simp only [List.getElem?_cons_zero, List.getElem?_cons_succ] at c0 c1; have hb1 : Blk w1 (w.heap.size + 1) 43 (ints v) := (by have h5 := hb1; rw [HQ1.out] at h5; exact h5))
    | (refine flatF.wpList_ld rfl rfl rfl HC.out hb1 ?_))
  refine (henc _).mono ?_; rintro e w2 ⟨x, rfl, hT, k2⟩
  have kk := (k1.trans hk1 (fun _ _ f => f)).trans k2 (fun _ _ f => f)
  have bR2 := bR1.nob k2
  have d0 := bR2.cell 0
  have d1 := bR2.cell 1
  simp only [List.getElem?_cons_zero, List.getElem?_cons_succ] at d0 d1
  clear c0 c1 bR1 bR henc hb1
  cases vo with
  | false =>
    unfold pset at hv
    simp at hv
    obtain ⟨rfl, rfl⟩ := hv
    clear hT
    go_wp2
    go_ret
    exact ⟨rfl, To.still HH.out.k kk⟩
  | true =>
    obtain ⟨A, m, rfl, hvv, _⟩ := hT
    unfold pset at hv
    rw [if_pos rfl] at hv
    have hcall := hst _ kk A m (by simpa using hvv.reads) ok ys hv
    clear hst hv hvv
    go_wp2_with fail
    refine hcall.mono ?_; rintro e w3 ⟨rfl, t⟩
    go_wp2
    go_ret
    exact ⟨rfl, t.pre kk⟩
end Go.Proofs.YtifigjccokpcfaaGreat.Co
namespace Go.Proofs.YtifigjccokpcfaaGreat.Co
open Go.RowKit
set_option linter.unusedVariables false
set_option linter.unusedSimpArgs false
section
variable {w : World} {K : Kn} {C : Cm} {src : Src}
set_option maxRecDepth 100000 in
set_option maxHeartbeats 2000000 in
theorem setFile_is (h : Kc w K C src) (i : Int) (hi : Cd.Wf i) (v : List Int) (hl : v.length = 4) (ok : Bool) (ys : List UInt8) (hv : pset (Fi.okd v) (Fi.enc v) K.xs src C.brs.length C.bad (2, i) = (ok, ys)) :
    Calls Tryz.prog 13 #[.pointer (some ⟨C.p, 0, none⟩), .int .i64 i, .agg (ints v).toArray] w fun e w' => e = .returned (.bool ok) ∧ To w K { K with xs := ys } w' := by
  have hcall := fun W (kk : Keep Nob w W) => writeF_is (h.nob kk) (2, i) (rec_i (by omega) hi) (fun x hx => wsize2 x hx) v hl ok ys hv
  have HC := Lib.hid (cellsI hl)
  clear hv h
  dsimp only at hcall
  go_enter Tryz.func13, Tryz.ntmps13
  go_wp2_with (first
    | (refine wpList_box rfl 43 _ rfl _ rfl ?_; intro w1 hb1 hk1 hs1; clear hs1; have hb1 : Blk w1 w.heap.size 43 (ints v) := hb1)
    | (refine flatF.wpList_ld rfl rfl rfl HC.out hb1 ?_))
  refine (hcall _ hk1).mono ?_; rintro e w2 ⟨rfl, t⟩
  go_wp2
  go_ret
  exact ⟨rfl, t.pre hk1⟩
end
end Go.Proofs.YtifigjccokpcfaaGreat.Co
namespace Go.Proofs.YtifigjccokpcfaaGreat.Co
open Go.RowKit
set_option linter.unusedVariables false
set_option linter.unusedSimpArgs false
section
variable {w w' : World} {K K' : Kn} {C : Cm} {src : Src}
/-- What the kernel answers where a Cap's bytes are read. -/
theorem do_load_new (h : Kc w K C src) (j at_ n : Nat) (hj : j ≤ C.brs.length) (hin : at_ + n ≤ if j = 0 then 492 else 40) (bs : List UInt8) (hbs : got K.xs src (j, at_, n) = bs) :
    Calls Tryz.prog 28 #[.pointer (some ⟨K.k, 0, none⟩), .int .i64 C.env, Calc 1 (C.nm j) at_ n 0 0 none 0 0] w fun e w' => ∃ A' c' er, e = .returned (.agg #[.int .i64 er, .int .i64 0, .slice A' bs.length c']) ∧ Reads w' A' bs.length (bytes bs) ∧ (0 < bs.length → ∀ ad, A' = some ad → w.heap.size ≤ ad.block) ∧ To w K K w' := by
  cases hs : src j at_ n with
  | some b =>
    have hr := h.l.yes j b at_ n hj hs 1 (.inl rfl) hin
    have hrr := hr.range h.k.reg
    have hg : (K.xs.drop (b + at_)).take n = bs := by
      unfold got at hbs
      dsimp only at hbs
      rw [hs] at hbs
      exact hbs
    have hl : bs.length = n := by rw [← hg]; simp; omega
    refine (k_read h.k C.env h.l.env (C.nm j) at_ 0 0 none 0 0 n (b + at_) hr bs hg n rfl).mono ?_
    rintro e w1 ⟨A', c', rfl, h1, hfr, t⟩
    rw [hl]
    exact ⟨A', c', 0, rfl, h1, fun _ => hfr, t⟩
  | none =>
    obtain ⟨v, er, he, hr⟩ := h.l.no j at_ n hj hs 1
    obtain rfl : bs = [] := by
      rw [← hbs]
      unfold got
      dsimp only
      rw [hs]
    refine (k_read_no h.k C.env h.l.env (C.nm j) at_ n 0 0 none 0 0 er hr he).mono ?_
    rintro e w1 ⟨A', c', rfl, t⟩
    exact ⟨A', c', er, rfl, Reads.nil_ _ _, fun h0 => absurd h0 (by simp), t⟩
set_option maxRecDepth 100000 in
set_option maxHeartbeats 4000000 in
theorem load_new (h : Kc w K C src) (j at_ n : Nat) (hj : j ≤ C.brs.length) (hin : at_ + n ≤ if j = 0 then 492 else 40) (nm : Int) (hnm : C.nm j = nm) (bs : List UInt8) (hbs : got K.xs src (j, at_, n) = bs) :
    Calls Tryz.prog 44 #[.pointer (some ⟨C.p, 0, none⟩), .agg #[.int .i64 nm, .int .i64 at_, .int .i64 n]] w fun e w' => ∃ A' c', e = .returned (.slice A' bs.length c') ∧ Reads w' A' bs.length (bytes bs) ∧ (0 < bs.length → ∀ ad, A' = some ad → w.heap.size ≤ ad.block) ∧ To w K K w' := by
  subst hnm
  have k1 := (Keep.refl Nob w).alloc (.cells #[.int .i64 (C.nm j), .int .i64 at_, .int .i64 n] 117)
  have b1 := Blk.new w 117 [.int .i64 (C.nm j), .int .i64 at_, .int .i64 n]
  have h1 := h.nob k1
  have hq : w.heap.size < (w.alloc (.cells #[.int .i64 (C.nm j), .int .i64 at_, .int .i64 n] 117)).heap.size := b1.lt
  have sf : ∀ W, Kc W K C src → Blk W w.heap.size 117 [.int .i64 (C.nm j), .int .i64 at_, .int .i64 n] → W.cell? ⟨C.p, 0, none⟩ = some (.pointer (some ⟨K.k, 0, none⟩)) ∧ W.cell? ⟨C.p, 1, none⟩ = some (.int .i64 C.env) ∧ W.cell? ⟨w.heap.size, 0, none⟩ = some (.int .i64 (C.nm j)) ∧ W.cell? ⟨w.heap.size, 1, none⟩ = some (.int .i64 at_) ∧ W.cell? ⟨w.heap.size, 2, none⟩ = some (.int .i64 n) := fun W hW hb =>
    ⟨hW.c.obj.cell 0, hW.c.obj.cell 1, hb.cell 0, hb.cell 1, hb.cell 2⟩
  have hcl := do_load_new (h1.nob (Keep.nobdrew _)) j at_ n hj hin bs hbs
  unfold Calc at hcl
  have s0 := sf _ (h1.nob (Keep.nobdrew _)) (b1.nob (Keep.nobdrew _))
  have hf2 := field2
  have SF := Lib.hid sf
  have H := Lib.hid (And.intro h1 (And.intro b1 k1))
  clear h1 b1 hbs sf
  generalize C.nm j = nm at *
  go_enter Tryz.func44, Tryz.ntmps44
  go_wp2_with fail
  generalize w.alloc (.cells #[.int .i64 nm, .int .i64 at_, .int .i64 n] 117) = W at *
  generalize w.heap.size = q at *
  go_region_held3 (fun w' => w'.cell? ⟨C.p, 0, none⟩ = some (.pointer (some ⟨K.k, 0, none⟩)) ∧ w'.cell? ⟨C.p, 1, none⟩ = some (.int .i64 C.env) ∧ w'.cell? ⟨q, 0, none⟩ = some (.int .i64 nm) ∧ w'.cell? ⟨q, 1, none⟩ = some (.int .i64 at_) ∧ w'.cell? ⟨q, 2, none⟩ = some (.int .i64 n))
    (first | exact s0 | exact s1)
    (first | (go_at_call 28; with_reducible_and_instances apply Calls.mono hcl; rintro e w1 ⟨A', c', er, rfl, hR, hfr, t⟩; have s1 := SF.out _ ((H.out.1.nob (Keep.nobdrew _)).still t) ((H.out.1.nob (Keep.nobdrew _)).k.offT (H.out.2.1.nob (Keep.nobdrew _)) (by decide) t.keep)))
  go_wp2
  go_ret
  exact ⟨_, _, rfl, hR, fun h0 ad e => Nat.le_trans H.out.2.2.size (hfr h0 ad e), (t.pre (Keep.nobdrew _)).pre H.out.2.2⟩
theorem view_new (h : Kc w K C src) (bs : List UInt8) (hbs : got K.xs src (0, 0, 492) = bs) :
    Calls Tryz.prog 10 #[.pointer (some ⟨C.p, 0, none⟩)] w fun e w' => ∃ A' c', e = .returned (.slice A' bs.length c') ∧ Reads w' A' bs.length (bytes bs) ∧ (0 < bs.length → ∀ ad, A' = some ad → w.heap.size ≤ ad.block) ∧ To w K K w' := by
  have hcall := load_new h 0 0 492 (Nat.zero_le _) (by simp) C.name rfl bs hbs
  have c2 : w.cell? ⟨C.p, 2, none⟩ = some (.int .i64 C.name) := h.c.obj.cell 2
  have e0 : ((0 : Nat) : Int) = 0 := rfl
  have e1 : ((492 : Nat) : Int) = 492 := rfl
  rw [e0, e1] at hcall
  clear hbs h e0 e1
  go_enter Tryz.func10, Tryz.ntmps10
  go_wp2_with fail
  refine hcall.mono ?_; rintro e w2 ⟨A', c', rfl, hr, hfr, t⟩
  go_wp2
  go_ret
  exact ⟨_, _, rfl, hr, hfr, t⟩
end
end Go.Proofs.YtifigjccokpcfaaGreat.Co
