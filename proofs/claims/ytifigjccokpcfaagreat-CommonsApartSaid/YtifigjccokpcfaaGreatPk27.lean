/- Texts CoN, RcA, CoL, CoB, KrnA, packed. -/
import Derived.BigRegion
import Derived.Test.YtifigjccokpcfaaGreatPk0
import Derived.Test.YtifigjccokpcfaaGreatPk3
import Derived.Test.YtifigjccokpcfaaGreatPk5
import Derived.Test.YtifigjccokpcfaaGreatPk18
import Derived.Test.YtifigjccokpcfaaGreatPk19
import Derived.Test.YtifigjccokpcfaaGreatPk1
import Derived.Test.YtifigjccokpcfaaGreatPk8
import Derived.Test.YtifigjccokpcfaaGreatPk12
import Derived.Test.YtifigjccokpcfaaGreatPk21
import Derived.Test.YtifigjccokpcfaaGreatPk22
import Derived.Test.YtifigjccokpcfaaGreatPk13
import Derived.Test.YtifigjccokpcfaaGreatPk15
import Derived.Test.YtifigjccokpcfaaGreatPk14
import Derived.Test.YtifigjccokpcfaaGreatPk16
import Derived.Test.YtifigjccokpcfaaGreatPk17
import Derived.Test.YtifigjccokpcfaaGreatPk24
import Derived.Test.YtifigjccokpcfaaGreatPk23
import Derived.Test.YtifigjccokpcfaaGreatPk6
import Derived.Test.YtifigjccokpcfaaGreatPk9
import Derived.Test.YtifigjccokpcfaaGreatPk20
import Derived.Test.YtifigjccokpcfaaGreatPk2
import Derived.Test.YtifigjccokpcfaaGreatPk26
import Derived.Test.YtifigjccokpcfaaGreatPk10
import Derived.Test.YtifigjccokpcfaaGreatPk11
import Derived.Test.YtifigjccokpcfaaGreatPk25
namespace Go.Proofs.YtifigjccokpcfaaGreat.Co
open Go.RowKit Go.MapKept
set_option linter.unusedVariables false
set_option linter.unusedSimpArgs false
/-- A Commons that a call has made. -/
structure NewCm (w w' : World) (k : Nat) (C : Cm) (e : Nat) (n0 : Int) (l : List Int) : Prop where
  is : IsCm w' k C
  env : C.env = e
  name : C.name = n0
  brs : C.brs = l
  bad : C.bad = []
  p : w.heap.size ≤ C.p
  b : w.heap.size ≤ C.b
  a : ∀ ad, C.A = some ad → w.heap.size ≤ ad.block
  keep : Keep Nob w w'
theorem cnew_nil (w : World) (e : Int) : Calls Tryz.prog 25 #[.pointer none, .int .i64 e] w fun e' w' => e' = .returned (.tuple #[.pointer none, .int .i64 1]) ∧ w = w' := by
  go_enter Tryz.func25, Tryz.ntmps25
  go_wp2
  go_ret2
  exact ⟨rfl, rfl⟩
set_option maxRecDepth 100000 in
set_option maxHeartbeats 2000000 in
theorem cnew_is {w : World} {K : Kn} (h : IsKn w K) (e : Nat) (he : e < K.envs.length) (n0 : Int) (l : List Int) (hl : names ((K.T e).map Q.pl) (K.T e).length = n0 :: l) (few : l.length ≤ 31) :
    Calls Tryz.prog 25 #[.pointer (some ⟨K.k, 0, none⟩), .int .i64 e] w fun e' w' => ∃ C, e' = .returned (.tuple #[.pointer (some ⟨C.p, 0, none⟩), .int .i64 0]) ∧ NewCm w w' K.k C e n0 l := by
  have hsp := space_is h
  have hnm := snames_new h.reg.sp he
  rw [hl] at hnm
  have hmm := @run_makeMap Tryz.prog
  clear h hl he
  generalize K.s = ks at *
  generalize K.k = kk at *
  go_enter Tryz.func25, Tryz.ntmps25
  go_wp2_with fail
  refine hsp.mono ?_; rintro e' w1 ⟨rfl, rfl⟩
  go_wp2_with fail
  refine hnm.mono ?_; rintro e' w1 ⟨A, c, rfl, hv, hk, hfr⟩
  obtain ⟨g, cur, rfl, hb, hlc, hcl, ht⟩ := hv.at_ (by simp)
  have hg : w.heap.size ≤ g := hfr g ⟨_, rfl, rfl⟩
  have hrd := hv.reads
  have z0 : w1.cell? ⟨g, 0, none⟩ = some (.int .i64 n0) := by
    obtain ⟨ad, e1, e2⟩ := hrd.2 (by simp)
    cases e1
    exact e2 0 _ rfl
  have z1 : (w1.alloc (.map #[] 0)).cell? ⟨g, 0, none⟩ = some (.int .i64 n0) := by
    rw [(hb.alloc _).cell, ← hb.cell]
    exact z0
  have hr1 : c ≠ 1 → Reads w1 (some ⟨g, 1, none⟩) l.length (ints l) := fun _ => by
    obtain ⟨ad, e1, e2⟩ := hrd.2 (by simp)
    cases e1
    refine ⟨by simp [ints], fun _ => ⟨_, rfl, fun j u hu => ?_⟩⟩
    have e3 := e2 (j + 1) u (by simpa [ints] using hu)
    rw [add_lit] at e3 ⊢
    rw [← e3]
    congr 2
    omega
  have hr0 : c = 1 → Reads w1 (some ⟨g, 0, none⟩) l.length (ints l) := fun e => by
    simp at hlc
    have : l = [] := List.eq_nil_of_length_eq_zero (by omega)
    subst this
    exact Reads.nil_ _ _
  have hlen : (n0 :: l).length = l.length + 1 := rfl
  rw [hlen] at hlc ⊢
  have HH := Lib.hid (And.intro hr1 (And.intro hr0 (And.intro hk hg)))
  clear hsp hnm hv hfr hb hcl ht hrd hr1 hr0 hk hg hlen
  generalize hln : l.length = n at *
  have HL := Lib.hid hln
  have h1n : (1 : Int) ≤ (n : Int) + 1 := by omega
  clear hln
  have fin : ∀ (A : Option Addr) (c' : Nat), Reads w1 A n (ints l) → (∀ ad, A = some ad → w.heap.size ≤ ad.block) →
      ∃ C : Cm, C.p = w1.heap.size + 1 ∧ NewCm w ((w1.alloc (.map #[] 0)).alloc (.cells #[.pointer (some ⟨kk, 0, none⟩), .int .i64 e, .int .i64 n0, .slice A n c', .map (some w1.heap.size)] 115)).drew kk C e n0 l := fun A c' hA hf => by
    have hk1 : Keep Nob w1 ((w1.alloc (.map #[] 0)).alloc (.cells #[.pointer (some ⟨kk, 0, none⟩), .int .i64 e, .int .i64 n0, .slice A n c', .map (some w1.heap.size)] 115)).drew := (((Keep.refl Nob w1).alloc _).alloc _).drew
    have hlen : l.length = n := HL.out
    have hs := HH.out.2.2.1.size
    have hb2 := Blk.new (w1.alloc (.map #[] 0)) 115 [.pointer (some ⟨kk, 0, none⟩), .int .i64 e, .int .i64 n0, .slice A n c', .map (some w1.heap.size)]
    have hsz : (w1.alloc (.map #[] 0)).heap.size = w1.heap.size + 1 := by simp
    rw [hsz] at hb2
    refine ⟨⟨w1.heap.size + 1, e, n0, A, c', l, w1.heap.size, []⟩, rfl, ⟨⟨?_, ?_, ⟨[], ?_, List.Perm.refl _⟩, List.Pairwise.nil, by rw [hlen]; exact few, fun r hr => by cases hr⟩, rfl, rfl, rfl, rfl, by dsimp only; omega, hs, hf, HH.out.2.2.1.trans hk1 (fun _ _ f => f)⟩⟩
    · dsimp only
      rw [hlen]
      exact hb2
    · dsimp only
      rw [hlen]
      exact hA.nob hk1
    · exact (MapIs.new w1).nob (((Keep.refl Nob _).alloc _).drew)
  have FIN := Lib.hid fin
  clear fin
  by_cases hc1 : c = 1
  · subst hc1
    go_wp2_with fail
    go_region
    have hn0 : n = 0 := by omega
    subst hn0
    obtain ⟨C, hp, hC⟩ := FIN.out (some ⟨g, 0, none⟩) 0 (HH.out.2.1 trivial) (fun ad e => by cases e; exact HH.out.2.2.2)
    go_wp2
    go_ret2
    exact ⟨C, by rw [hp]; rfl, hC⟩
  · go_wp2_with fail
    go_region
    obtain ⟨C, hp, hC⟩ := FIN.out (some ⟨g, 1, none⟩) (c - 1) (HH.out.1 hc1) (fun ad e => by cases e; exact HH.out.2.2.2)
    go_wp2
    go_ret2
    exact ⟨C, by rw [hp]; rfl, hC⟩
end Go.Proofs.YtifigjccokpcfaaGreat.Co
namespace Go.Proofs.YtifigjccokpcfaaGreat.Dk
open Go.RowKit
set_option linter.unusedVariables false
set_option linter.unusedSimpArgs false
section
variable {w w' : World}
theorem results_tmp4 {fn : Func} {a b c d : Tmp} (h : fn.results = #[.tmp a, .tmp b, .tmp c, .tmp d]) (tmps : Array Value) (P : Program) (w : World) : (results fn tmps).run P w = .ok (.tuple #[tmps.getD a undef, tmps.getD b undef, tmps.getD c undef, tmps.getD d undef]) w := by
  simp [results, h]
end
end Go.Proofs.YtifigjccokpcfaaGreat.Dk
namespace Go.Proofs.YtifigjccokpcfaaGreat.Co
open Go.RowKit
set_option linter.unusedVariables false
set_option linter.unusedSimpArgs false
/-- What is bad behind a record's being read. -/
def seen (xs : List UInt8) (src : Src) (nb : Nat) (bad : List Rf) (r : Rf) : List Rf :=
  if r.1 = 1 then (pread Cd.dcd Cd.noP xs src nb bad r).2 else if r.1 = 2 then (pread Fi.dcd Fi.noP xs src nb bad r).2
  else if r.1 = 5 then (pread fdec 0 xs src nb bad r).2 else (pread Ri.dcd Ri.noP xs src nb bad r).2
/-- All records of a Commons. -/
def allRecs (nb : Nat) : List Rf := mk 8 (fun i => (1, (i : Int))) ++ mk 12 (fun i => (2, (i : Int))) ++ mk (4 + nb) (fun i => (3, (i : Int))) ++ [(4, 0), (5, 0)]
def look (xs : List UInt8) (src : Src) (nb : Nat) (bad : List Rf) : List Rf := (allRecs nb).foldl (seen xs src nb) bad
theorem mem_all {r : Rf} {nb : Nat} (ho : RecOk r) (hw : wher nb r ≠ none) : r ∈ allRecs nb := by
  obtain ⟨k, i⟩ := r
  have h1 := ho.k
  have h2 := ho.z
  dsimp only at h1 h2
  unfold allRecs
  simp only [List.mem_append, mk, List.mem_map, List.mem_range, List.mem_cons, List.not_mem_nil, or_false, Prod.mk.injEq]
  unfold wher at hw
  dsimp only at hw
  rcases (show k = 1 ∨ k = 2 ∨ k = 3 ∨ k = 4 ∨ k = 5 by omega) with rfl | rfl | rfl | rfl | rfl
  · left; left; left
    by_cases h : 0 ≤ i ∧ i < 8
    · exact ⟨i.toNat, by omega, rfl, by omega⟩
    · simp [h] at hw
  · left; left; right
    by_cases h : 0 ≤ i ∧ i < 12
    · exact ⟨i.toNat, by omega, rfl, by omega⟩
    · simp [h] at hw
  · left; right
    by_cases h : 0 ≤ i ∧ i < 4 + nb
    · exact ⟨i.toNat, by omega, rfl, by omega⟩
    · exfalso
      rw [if_neg (by decide), if_neg (by decide), if_pos rfl] at hw
      by_cases h4 : 4 ≤ i
      · rw [if_pos h4, if_neg (by omega)] at hw
        exact hw rfl
      · rw [if_neg h4, if_neg (by omega)] at hw
        exact hw rfl
  · right; left; exact ⟨rfl, h2 (.inl rfl)⟩
  · right; right; exact ⟨rfl, h2 (.inr rfl)⟩
theorem nodup_sorted {l : List Rf} (h : l.Pairwise ltR) : l.Nodup := h.imp (fun {a b} hab => fun (e : a = b) => ltR_irr hab (by subst e; exact hab))
theorem bad_le {w : World} {k : Nat} {C : Cm} (h : IsCm w k C) : C.bad.length ≤ 57 := by
  have := nodup_le (nodup_sorted h.srt) (fun r hr => mem_all (h.val r hr).1 (h.val r hr).2)
  have few := h.few
  unfold allRecs at this
  simp [mk] at this
  omega
section
variable {w w' : World} {K : Kn} {C : Cm} {src : Src}
theorem Ct.more {b b' : List Rf} (t : Ct w K K C { C with bad := b } src w') {w2 : World} (t2 : Ct w' K K { C with bad := b } { C with bad := b' } src w2) : Ct w K K C { C with bad := b' } src w2 :=
  t.trans t2 (fun _ m => .inl m) rfl (fun _ m _ => m)
end
end Go.Proofs.YtifigjccokpcfaaGreat.Co
namespace Go.Proofs.YtifigjccokpcfaaGreat.Co
open Go.RowKit Go.MapKept
set_option linter.unusedVariables false
set_option linter.unusedSimpArgs false
theorem infoRec : (Tryz.prog.info? 120).map (fun i => (i.zero, i.size, i.bytes)) = some (some (.agg #[.int .i64 0, .int .i64 0]), 2, 16) := by kernel_rfl
set_option maxRecDepth 100000 in
set_option maxHeartbeats 4000000 in
theorem bad_is {w : World} {k : Nat} {C : Cm} (h : IsCm w k C) :
    Calls Tryz.prog 21 #[.pointer (some ⟨C.p, 0, none⟩)] w fun e w' => ∃ A cap, e = .returned (.slice A C.bad.length cap) ∧ Vec w' 120 2 A C.bad.length cap (refs C.bad) ∧ Keep Nob w w' := by
  obtain ⟨F, hF', hperm⟩ := h.map
  have hF : MapIs Tryz.prog 120 w C.b (setM F) := hF'
  clear hF'
  have hFl : F.length ≤ 57 := by rw [hperm.length_eq]; exact bad_le h
  have hFs : (setM F).length = F.length := by simp [setM]
  have HFs := Lib.hid hFs
  have c4 : w.cell? ⟨C.p, 4, none⟩ = some (.map (some C.b)) := h.obj.cell 4
  have hsrt := h.srt
  have hfin : ∀ U : List Rf, U.Perm F → U.Pairwise (fun a b => ¬ ltR b a) → U = C.bad := fun U hU hs => by
    have hUp := hU.trans hperm
    refine sorted_eq hUp ?_ hsrt
    have hnd : U.Nodup := hUp.nodup_iff.2 (nodup_sorted hsrt)
    refine (List.Pairwise.and hs hnd).imp (fun {a b} hab => ?_)
    rcases ltR_tri a b with h1 | h1 | h1
    · exact h1
    · exact absurd h1 hab.2
    · exact absurd h1 hab.1
  have HFin := Lib.hid hfin
  have hobj := h.obj
  generalize C.b = bf at *
  generalize hcp : C.p = cp at *
  clear hFs h hfin hsrt hperm
  have hc4 : ∀ W, Keep Nob w W → W.cell? ⟨cp, 4, none⟩ = some (.map (some bf)) := fun W kk => (hobj.nob kk).cell 4
  clear hobj
  go_enter Tryz.func21, Tryz.ntmps21
  go_wp2_with (first
    | (at_len; go_loud (refine wpList_mapLen rfl _ 113 rfl 120 257 Tryz.underlying113 rfl hF ?_); go_loud (rw [HFs.out]))
    | (refine wpList_mk0 rfl _ _ 58 rfl 120 (.agg #[.int .i64 0, .int .i64 0]) 16 Tryz.underlying58 infoRec .i64 .i64 F.length _ rfl rfl rfl (by omega) (by unfold maxLen; omega) ?_; intro w3 hV3 hk5; have hF3 := hF.nob hk5; have c43 := hc4 _ hk5)
    | (at_range; refine wpList_mapRange rfl 113 _ rfl 120 257 Tryz.underlying113 rfl hF3 ?_; intro w4 hR4 hk6 hs6))
  have hV4 := hV3.nob hk6
  have hlt3 := hV3.lt w.heap.size ⟨_, rfl, rfl⟩
  have k6 := hk5.nobt hk6
  clear c4 c43 hc4
  go_frame
  go_loopw [3] (fun s11 wx => ∃ acc left g cap, s11 = .slice (some ⟨g, 0, none⟩) acc.length cap ∧ Vec wx 120 2 (some ⟨g, 0, none⟩) acc.length cap (refs acc) ∧ Ranging Tryz.prog 120 wx bf w3.heap.size (setM F) left ∧ (setM acc ++ left).Perm (setM F) ∧ Keep Nob w wx ∧ w.heap.size ≤ g) (fun _ wx => wx.rangeLeft bf w3.heap.size)
  case atStart => exact ⟨[], setM F, _, _, rfl, hV4, hR4, List.Perm.refl _, k6, Nat.le_refl _⟩
  case round =>
    obtain ⟨acc, left, g, cap, rfl, hV, hR, hp, hK, hA⟩ := hrel
    have hshape : ∀ p ∈ left, ∃ ρ : Rf, p = (rval ρ, .agg #[]) := by
      intro p hp'
      have h1 : p ∈ setM F := hp.mem_iff.1 (List.mem_append.2 (.inr hp'))
      obtain ⟨ρ, _, e⟩ := List.mem_map.1 h1
      exact ⟨ρ, e.symm⟩
    have hlen := hp.length_eq
    rw [List.length_append] at hlen
    have hal : acc.length ≤ 57 := by
      have h1 : (setM acc).length = acc.length := by simp [setM]
      have h2 := HFs.out
      omega
    have Hp := Lib.hid hp
    have hneR := hR.ne_own hV
    clear hp hlen
    go_wp2_with (first
      | (at_next; refine wpList_setNext rfl _ rfl 120 rfl hR hshape (fun hl0 => ?_) (fun ρ left' w5 hpl hR5 hk7 hs7 hen => ?_) <;> (try clear hs7))
      | (at_builtin; go_loud (refine wpList_ap rfl _ _ 58 rfl 120 2 16 (.agg #[.int .i64 0, .int .i64 0]) Tryz.underlying58 infoRec rfl (by decide) (some ⟨g, 0, none⟩) acc.length cap _ rfl (((hV.keep hk7 (fun g ho e => hneR (e ▸ ho))).nob ((Keep.refl Nob w5).alloc (.cells #[.int .i64 ρ.1, .int .i64 ρ.2] 120))).nob ((Keep.refl Nob _).alloc (.cells #[.int .i64 ρ.1, .int .i64 ρ.2] 120))) (some ⟨w5.heap.size + 1, 0, none⟩) 1 1 [.int .i64 ρ.1, .int .i64 ρ.2] rfl 2 rfl (reads_all (t := 120) (by have h5 := Blk.new (w5.alloc (.cells #[.int .i64 ρ.1, .int .i64 ρ.2] 120)) 120 [.int .i64 ρ.1, .int .i64 ρ.2]; simpa using h5) rfl) (by simp [Value.oneCell']) (by unfold maxLen; omega) (by omega) ?_); intro A2 c2 w6 hv2 hk8 ho2))
    · subst hl0
      have hpf : acc.Perm F := setM_perm (by have := Hp.out; rwa [List.append_nil] at this)
      refine (sort_is hV (by omega)).mono ?_; rintro e w7 ⟨rfl, U, hU1, hU2, hU3, hk9⟩
      obtain rfl := HFin.out U (hU1.trans hpf) hU2
      have hUl := hU1.length_eq
      have K9 := hK.trans hk9 (fun b hb e => by omega)
      have HUl := Lib.hid hUl
      clear hUl
      go_wp2
      go_ret
      exact ⟨_, cap, by rw [HUl.out]; rfl, by rw [HUl.out]; exact hU3, K9⟩
    · have hR6 := (hR5.keep (((Keep.refl Nob w5).alloc (.cells #[.int .i64 ρ.1, .int .i64 ρ.2] 120)).alloc (.cells #[.int .i64 ρ.1, .int .i64 ρ.2] 120)) (fun f => f) (fun f => f)).keep hk8 (hR.is.ne_own hV) hneR
      have hl := hpl.length_eq
      have hlt7 := hR5.is.lt
      have hlr := hR.lt
      have hws := hK.size
      have hkk := hk7.size
      have hw3 := hk5.size
      have K6 := (((hK.trans hk7 (fun b hb e => by omega)).alloc (.cells #[.int .i64 ρ.1, .int .i64 ρ.2] 120)).alloc (.cells #[.int .i64 ρ.1, .int .i64 ρ.2] 120)).trans hk8 (fun b hb ⟨a, ha, hb2⟩ => by cases ha; simp at hb2; omega)
      obtain ⟨g2, _, hA2, _⟩ := hv2.at_ (Nat.succ_pos _)
      subst hA2
      have hg2 : w.heap.size ≤ g2 := by
        rcases ho2 g2 ⟨_, rfl, rfl⟩ with ⟨a, ha, hb2⟩ | h1
        · cases ha; simp at hb2; omega
        · rw [h1]; simp; omega
      have hp6 : (setM (acc ++ [ρ]) ++ left').Perm (setM F) := by
        rw [setM_add, List.append_assoc]
        exact (hpl.symm.append_left _).trans Hp.out
      have hv6 : Vec w6 120 2 (some ⟨g2, 0, none⟩) (acc.length + 1) c2 (refs (acc ++ [ρ])) := by rw [refs_append]; exact hv2
      refine ⟨⟨acc ++ [ρ], left', g2, c2, by simp, by rw [List.length_append]; exact hv6, hR6, hp6, K6, hg2⟩, ?_⟩
      rw [hR6.left_eq, hR.left_eq]
      simp at hl
      omega
end Go.Proofs.YtifigjccokpcfaaGreat.Co
namespace Go.Proofs.YtifigjccokpcfaaGreat
open Go.RowKit
set_option linter.unusedVariables false
set_option linter.unusedSimpArgs false
/-- The state of the two. -/
structure Sx where
  now : Int
  al : Nat → Bool
  xs : List UInt8
  b : Nat → List Bool
  s0 : Se.Sec
  s1 : Se.Sec
def base (e : Nat) : Nat := 192 * (e / 2)
/-- What a name reaches. -/
def rv (st : Sx) (e : Nat) (cap at_ n : Int) : Int × Int :=
  if cap = 256 ∧ st.al e = true then (if 0 ≤ at_ ∧ 0 ≤ n ∧ at_ + n ≤ 100 then ((base e : Int) + at_, 0) else (0, 1)) else (0, 2)
def sec (st : Sx) (s : Nat) : Se.Sec := if s = 0 then st.s0 else st.s1
def setSec (st : Sx) (s : Nat) (S : Se.Sec) : Sx := if s = 0 then { st with s0 := S } else { st with s1 := S }
def upA (al : Nat → Bool) (e : Nat) : Nat → Bool := fun i => if i = e then false else al i
abbrev Ans := Int × Int × List UInt8
/-- A call of environment e. -/
def step (st : Sx) (e : Nat) (op cap at_ n to_ on : Int) (bs : List UInt8) : Ans × Sx :=
  if op = 1 then (if (rv st e cap at_ n).2 = 0 then ((0, 0, (st.xs.drop (rv st e cap at_ n).1.toNat).take n.toNat), st) else (((rv st e cap at_ n).2, 0, []), st))
  else if op = 2 then (if (rv st e cap at_ bs.length).2 = 0 then ((0, 0, []), { st with xs := splice st.xs (rv st e cap at_ bs.length).1.toNat bs }) else (((rv st e cap at_ bs.length).2, 0, []), st))
  else if op = 3 then (if (rv st e cap at_ n).2 = 0 then (if (rv st e to_ on n).2 = 0 then ((0, 0, []), { st with xs := splice st.xs (rv st e to_ on n).1.toNat ((st.xs.drop (rv st e cap at_ n).1.toNat).take n.toNat) }) else (((rv st e to_ on n).2, 0, []), st)) else (((rv st e cap at_ n).2, 0, []), st))
  else if op = 4 then (if cap = 256 ∧ st.al e = true then ((3, 0, []), st) else ((2, 0, []), st))
  else if op = 5 then (if cap = 256 ∧ st.al e = true then ((0, 1, []), { st with al := upA st.al e }) else ((2, 0, []), st))
  else if op = 6 then (((Qu.al 2 st.b (e / 2 : Nat)).2.1, (Qu.al 2 st.b (e / 2 : Nat)).1, []), { st with b := (Qu.al 2 st.b (e / 2 : Nat)).2.2 })
  else if op = 7 then (((Qu.fr 2 st.b (e / 2 : Nat) n).1, 0, []), { st with b := (Qu.fr 2 st.b (e / 2 : Nat) n).2 })
  else if op = 8 then (if n = (e / 2 : Nat) then ((0, ((sec st (e / 2)).enter e st.now).1, []), setSec st (e / 2) ((sec st (e / 2)).enter e st.now).2.2) else ((8, 0, []), st))
  else if op = 9 then (if n = (e / 2 : Nat) then (((if ((sec st (e / 2)).leave e at_).1 = true then 0 else 8), 0, []), setSec st (e / 2) ((sec st (e / 2)).leave e at_).2) else ((8, 0, []), st))
  else if op = 10 then ((0, st.now, []), st)
  else ((7, 0, []), st)
/-- How a kernel is in a state. -/
structure In8 (i : Nat) (K : Kn) (st : Sx) : Prop where
  now : K.now = st.now
  n0 : 0 ≤ st.now
  n1 : st.now ≤ 1000 * i
  envs : K.envs = [0, 0, 1, 1]
  ns : K.ns = [3, 3]
  L : K.L = [(0, 100), (192, 100)]
  xs : K.xs = st.xs
  len : st.xs.length = 384
  b : K.bq = st.b
  has : ∀ ρ c, Has K.T 4 ρ c ↔ ∃ e : Nat, e < 4 ∧ st.al e = true ∧ ρ = ((e : Int), 256) ∧ c = ⟨(e / 2 : Nat), 3, 0, 100, (0, 0)⟩
  gates : ∃ G0 G1, K.gates = [G0, G1] ∧ G0.may = [0] ∧ G1.may = [1] ∧ G0.s = st.s0 ∧ G1.s = st.s1 ∧ st.s0.stamps ≤ i ∧ st.s1.stamps ≤ i
theorem In8.le {i j : Nat} {K : Kn} {st : Sx} (h : In8 i K st) (hj : i ≤ j) : In8 j K st := by
  obtain ⟨G0, G1, g1, g2, g3, g4, g5, g6, g7⟩ := h.gates
  exact ⟨h.now, h.n0, by have := h.n1; omega, h.envs, h.ns, h.L, h.xs, h.len, h.b, h.has, G0, G1, g1, g2, g3, g4, g5, by omega, by omega⟩
theorem In8.gate {i : Nat} {K : Kn} {st : Sx} (h : In8 i K st) {s : Nat} (hs : s < 2) : ∃ G, K.gates[s]? = some G ∧ G.may = [(s : Int)] ∧ G.s = sec st s ∧ G.s.stamps ≤ i := by
  obtain ⟨G0, G1, g1, g2, g3, g4, g5, g6, g7⟩ := h.gates
  rw [g1]
  rcases (show s = 0 ∨ s = 1 by omega) with rfl | rfl
  · exact ⟨G0, rfl, g2, g4, by rw [g4]; exact g6⟩
  · exact ⟨G1, rfl, g3, g5, by rw [g5]; exact g7⟩
/-- What a name reaches, as regions tell it. -/
theorem In8.reach {i : Nat} {K : Kn} {st : Sx} (h : In8 i K st) {e : Nat} (he : e < 4) (right : Int) (hr : right = 1 ∨ right = 2) (cap at_ n : Int) : Reach K.T K.envs.length K.L e cap right at_ n (rv st e cap at_ n).1 (rv st e cap at_ n).2 := by
  have hl : K.envs.length = 4 := by rw [h.envs]; rfl
  rw [hl]
  unfold rv
  by_cases h1 : cap = 256 ∧ st.al e = true
  · rw [if_pos h1]
    have hc : Has K.T 4 ((e : Int), cap) ⟨(e / 2 : Nat), 3, 0, 100, (0, 0)⟩ := (h.has _ _).2 ⟨e, he, h1.2, by rw [h1.1], rfl⟩
    have hx : K.L[((e / 2 : Nat) : Int).toNat]? = some ((base e : Int), 100) := by
      rw [h.L, Int.toNat_natCast]
      unfold base
      rcases (show e / 2 = 0 ∨ e / 2 = 1 by omega) with h2 | h2 <;> rw [h2] <;> rfl
    have hb : (bits .and .i64 3 right == 0) = false := by rcases hr with rfl | rfl <;> decide
    by_cases h2 : 0 ≤ at_ ∧ 0 ≤ n ∧ at_ + n ≤ 100
    · rw [if_pos h2]
      exact .yes _ _ _ hc hb ⟨h2.1, h2.2.1, h2.2.2, by dsimp only; omega, hx, by dsimp only; omega⟩ (by dsimp only; omega)
    · rw [if_neg h2]
      exact .noarg _ hc hb (fun x hf => h2 ⟨hf.1, hf.2.1, hf.2.2.1⟩)
  · rw [if_neg h1]
    refine .nocap fun c hc => ?_
    obtain ⟨e2, h2, h3, h4, _⟩ := (h.has _ _).1 hc
    simp at h4
    have : e = e2 := by omega
    subst this
    exact h1 ⟨h4.2, h3⟩
section
variable {w w' : World} {K : Kn}
/-- A Cap of which nothing was granted on. -/
theorem k_revoke (h : IsKn w K) (i : Nat) (hi : i < K.envs.length) (cap at_ n to_ on : Int) (A : Option Addr) (m cc : Nat) (c : Cp) (hc : Has K.T K.envs.length ((i : Int), cap) c) (hno : ∀ ρ, ¬ Desc K.T K.envs.length ((i : Int), cap) ρ) :
    Calls Tryz.prog 28 #[.pointer (some ⟨K.k, 0, none⟩), .int .i64 i, Calc 5 cap at_ n to_ on A m cc] w fun e w' => e = .returned (.agg #[.int .i64 0, .int .i64 1, .slice none 0 0]) ∧ To w K { K with T := gone K.T [((i : Int), cap)] } w' := by
  refine (do_revoke h i hi cap at_ n to_ on A m cc _ (stay_T K (gone K.T [((i : Int), cap)])) 1 0 (fun W kk => (revoke_yes (h.nob kk).reg.sp (h.nob kk).reg.inv c hc).mono ?_)).mono ?_
  · rintro e w2 ⟨U, rfl, _, hU, hS, hI, k2⟩
    obtain rfl : U = [] := by
      cases U with
      | nil => rfl
      | cons x l => exact absurd ((hU x).1 (by simp)) (hno x)
    exact ⟨rfl, _, rfl, (h.nob kk).space hS hI k2⟩
  · rintro e w2 ⟨rfl, K', rfl, t⟩
    exact ⟨rfl, t⟩
end
end Go.Proofs.YtifigjccokpcfaaGreat
