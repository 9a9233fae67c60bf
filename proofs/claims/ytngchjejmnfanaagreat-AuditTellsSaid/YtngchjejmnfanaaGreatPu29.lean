/- Texts AudJ, AudQ, packed. -/
import Derived.BigRegion
import Derived.BigQuiet
import Derived.Test.YtngchjejmnfanaaGreatPu0
import Derived.Test.YtngchjejmnfanaaGreatPu2
import Derived.Test.YtngchjejmnfanaaGreatPu3
import Derived.Test.YtngchjejmnfanaaGreatPu4
import Derived.Test.YtngchjejmnfanaaGreatPu5
import Derived.Test.YtngchjejmnfanaaGreatPu8
import Derived.Test.YtngchjejmnfanaaGreatPu13
import Derived.Test.YtngchjejmnfanaaGreatPu16
import Derived.Test.YtngchjejmnfanaaGreatPu19
import Derived.Test.YtngchjejmnfanaaGreatPu20
import Derived.Test.YtngchjejmnfanaaGreatPu1
import Derived.Test.YtngchjejmnfanaaGreatPu7
import Derived.Test.YtngchjejmnfanaaGreatPu12
import Derived.Test.YtngchjejmnfanaaGreatPu22
import Derived.Test.YtngchjejmnfanaaGreatPu23
import Derived.Test.YtngchjejmnfanaaGreatPu15
import Derived.Test.YtngchjejmnfanaaGreatPu14
import Derived.Test.YtngchjejmnfanaaGreatPu17
import Derived.Test.YtngchjejmnfanaaGreatPu18
import Derived.Test.YtngchjejmnfanaaGreatPu25
import Derived.Test.YtngchjejmnfanaaGreatPu24
import Derived.Test.YtngchjejmnfanaaGreatPu21
import Derived.Test.YtngchjejmnfanaaGreatPu9
import Derived.Test.YtngchjejmnfanaaGreatPu26
import Derived.Test.YtngchjejmnfanaaGreatPu10
import Derived.Test.YtngchjejmnfanaaGreatPu27
import Derived.Test.YtngchjejmnfanaaGreatPu28
namespace Go.Proofs.YtngchjejmnfanaaGreat.Au
open Go.RowKit Co
set_option linter.unusedVariables false
set_option linter.unusedSimpArgs false
theorem infRec : (Tryz.prog.info? 84).map (fun i => (i.zero, i.size, i.bytes)) = some (some (.agg #[.int .i64 0, .int .i64 0]), 2, 16) := by kernel_rfl
/-- The arrays while they are being filled. -/
structure Arr (w : World) (r1 r2 r3 gp gf gr : Nat) (b : List UInt8) (i j k : Nat) : Prop where
  z1 : Blk w r1 85 (cP b 0)
  z2 : Blk w r2 86 (cF b 0)
  z3 : Blk w r3 87 (cR b 0)
  p : Blk w gp 85 (cP b i)
  f : Blk w gf 86 (cF b j)
  r : Blk w gr 87 (cR b k)
  n1 : r1 ≠ gp
  n2 : r2 ≠ gf
  n3 : r3 ≠ gr
section
variable {w w' : World} {r1 r2 r3 gp gf gr i j k : Nat} {b : List UInt8}
theorem Arr.nob (h : Arr w r1 r2 r3 gp gf gr b i j k) (kk : Keep Nob w w') : Arr w' r1 r2 r3 gp gf gr b i j k := ⟨h.z1.nob kk, h.z2.nob kk, h.z3.nob kk, h.p.nob kk, h.f.nob kk, h.r.nob kk, h.n1, h.n2, h.n3⟩
theorem Arr.row (h : Arr w r1 r2 r3 gp gf gr b i j k) {e sz n c : Nat} {A : Option Addr} {xs : List Value} (hv : Vec w e sz A n c xs) (he1 : 85 ≠ e) (he2 : 86 ≠ e) (he3 : 87 ≠ e) (kk : Keep (Own A) w w') : Arr w' r1 r2 r3 gp gf gr b i j k := by
  have ne : ∀ {g t : Nat} {cs : List Value}, Blk w g t cs → t ≠ e → ¬ Own A g := fun hb ht ho => by
    obtain ⟨c2, h2⟩ := hv.blk ho
    exact ht (hb.same h2).2
  exact ⟨h.z1.keep kk (ne h.z1 he1), h.z2.keep kk (ne h.z2 he2), h.z3.keep kk (ne h.z3 he3), h.p.keep kk (ne h.p he1), h.f.keep kk (ne h.f he2), h.r.keep kk (ne h.r he3), h.n1, h.n2, h.n3⟩
theorem Arr.p_ (h : Arr w r1 r2 r3 gp gf gr b i j k) {i' : Nat} (hp : Blk w' gp 85 (cP b i')) (kk : Keep (· = gp) w w') : Arr w' r1 r2 r3 gp gf gr b i' j k :=
  ⟨h.z1.keep kk h.n1, h.z2.keep kk (h.z2.ne_ h.p (by decide)), h.z3.keep kk (h.z3.ne_ h.p (by decide)), hp, h.f.keep kk (h.f.ne_ h.p (by decide)), h.r.keep kk (h.r.ne_ h.p (by decide)), h.n1, h.n2, h.n3⟩
theorem Arr.f_ (h : Arr w r1 r2 r3 gp gf gr b i j k) {j' : Nat} (hp : Blk w' gf 86 (cF b j')) (kk : Keep (· = gf) w w') : Arr w' r1 r2 r3 gp gf gr b i j' k :=
  ⟨h.z1.keep kk (h.z1.ne_ h.f (by decide)), h.z2.keep kk h.n2, h.z3.keep kk (h.z3.ne_ h.f (by decide)), h.p.keep kk (h.p.ne_ h.f (by decide)), hp, h.r.keep kk (h.r.ne_ h.f (by decide)), h.n1, h.n2, h.n3⟩
theorem Arr.r_ (h : Arr w r1 r2 r3 gp gf gr b i j k) {k' : Nat} (hp : Blk w' gr 87 (cR b k')) (kk : Keep (· = gr) w w') : Arr w' r1 r2 r3 gp gf gr b i j k' :=
  ⟨h.z1.keep kk (h.z1.ne_ h.r (by decide)), h.z2.keep kk (h.z2.ne_ h.r (by decide)), h.z3.keep kk h.n3, h.p.keep kk (h.p.ne_ h.r (by decide)), h.f.keep kk (h.f.ne_ h.r (by decide)), hp, h.n1, h.n2, h.n3⟩
end
set_option maxRecDepth 100000 in
set_option maxHeartbeats 32000000 in
theorem records_is {w : World} {b : List UInt8} (hl : b.length = 492) :
    Calls Tryz.prog 26 #[.string (str b)] w fun e w' => ∃ D cd, e = .returned (.tuple #[.agg (cP b 8).toArray, .agg (cF b 12).toArray, .agg (cR b 4).toArray, .slice D (bads b).length cd]) ∧ Vec w' 84 2 D (bads b).length cd (refs (bads b)) ∧ (∀ x, Own D x → w.heap.size ≤ x) ∧ Keep (From w.heap.size) w w' := by
  have HL := Lib.hid hl
  obtain ⟨bl, hbl⟩ : ∃ bl, bads b = bl := ⟨_, rfl⟩
  have HBl := Lib.hid hbl
  rw [hbl]
  have HAll := Lib.hid (And.intro (cellsP b 8) (And.intro (cellsF b 12) (cellsRr b 4)))
  obtain ⟨q1, hq1⟩ : ∃ q, cP b 8 = q := ⟨_, rfl⟩
  obtain ⟨q2, hq2⟩ : ∃ q, cF b 12 = q := ⟨_, rfl⟩
  obtain ⟨q3, hq3⟩ : ∃ q, cR b 4 = q := ⟨_, rfl⟩
  rw [hq1, hq2, hq3]
  have HQ := Lib.hid (And.intro hq1 (And.intro hq2 hq3))
  clear hl hbl hq1 hq2 hq3
  go_enter Tryz.func26, Tryz.ntmps26
  go_upto_region 1 with (refine flatA8.wpList_al rfl rfl ?_; intro x1 hx1 kx1 sx1; refine flatA12.wpList_al rfl rfl ?_; intro x2 hx2 kx2 sx2; refine flatA4.wpList_al rfl rfl ?_; intro x3 hx3 kx3 sx3)
  go_upto_region 2 with (refine flatA8.wpList_al rfl rfl ?_; intro x4 hx4 kx4 sx4)
  go_upto_region 3 with (refine flatA12.wpList_al rfl rfl ?_; intro x5 hx5 kx5 sx5)
  go_upto_region 4 with (refine flatA4.wpList_al rfl rfl ?_; intro x6 hx6 kx6 sx6)
  rw [← cP_zero b] at hx1 hx4
  rw [← cF_zero b] at hx2 hx5
  rw [← cR_zero b] at hx3 hx6
  have hlt1 := hx1.lt
  have hlt2 := hx2.lt
  have hlt3 := hx3.lt
  have HA0 := Lib.hid (show Arr x6 w.heap.size x1.heap.size x2.heap.size x3.heap.size x4.heap.size x5.heap.size b 0 0 0 from
    ⟨((((hx1.nob kx2).nob kx3).nob kx4).nob kx5).nob kx6, (((hx2.nob kx3).nob kx4).nob kx5).nob kx6, ((hx3.nob kx4).nob kx5).nob kx6, (hx4.nob kx5).nob kx6, hx5.nob kx6, hx6, by omega, by omega, by omega⟩)
  have HLo := Lib.hid (show w.heap.size ≤ x3.heap.size ∧ w.heap.size ≤ x4.heap.size ∧ w.heap.size ≤ x5.heap.size from ⟨by omega, by omega, by omega⟩)
  have HK0 := Lib.hid (show Keep (From w.heap.size) w x6 from ((((((kx1.mono (fun _ _ f => f.elim)).nob kx2).nob kx3).nob kx4).nob kx5).nob kx6))
  have HRl := Lib.hid (show w.heap.size ≤ w.heap.size ∧ w.heap.size ≤ x1.heap.size ∧ w.heap.size ≤ x2.heap.size from ⟨Nat.le_refl _, kx1.size, Nat.le_trans kx1.size kx2.size⟩)
  obtain ⟨r1, hr1⟩ : ∃ r1, w.heap.size = r1 := ⟨_, rfl⟩
  rw [hr1] at HA0
  rw [hr1]
  rw [show x1.heap.size = r1 + 1 by rw [sx1, hr1], show x2.heap.size = r1 + 1 + 1 by rw [sx2, sx1, hr1]] at HA0 HRl
  generalize x3.heap.size = gp at *
  generalize x4.heap.size = gf at *
  generalize x5.heap.size = gr at *
  clear hx1 kx1 sx1 hx2 kx2 sx2 hx3 kx3 sx3 hx4 kx4 sx4 hx5 kx5 sx5 hx6 kx6 sx6 hlt1 hlt2 hlt3
  obtain ⟨p0, hp0⟩ : ∃ p : List Rf, p = [] := ⟨_, rfl⟩
  have HP0 := Lib.hid hp0
  have HPre0 := Lib.hid (show p0.length ≤ 20 from by rw [hp0]; decide)
  clear hp0
  go_wp2_with fail
  go_loopw [9, 10, 11] (fun s9 s10 sc wx => ∃ (k : Nat) (D : Option Addr) (cd : Nat) (d : Int), k ≤ 8 ∧ sc = .int .i64 k ∧ s10 = .int .i64 d ∧ s9 = .slice D (ap p0 b 1 k).length cd ∧ Vec wx 84 2 D (ap p0 b 1 k).length cd (refs (ap p0 b 1 k)) ∧ Hid ((∀ x, Own D x → w.heap.size ≤ x) ∧ Keep (From w.heap.size) w wx ∧ Arr wx r1 (r1 + 1) (r1 + 1 + 1) gp gf gr b k 0 0)) (fun _ _ sc _ => 8 - (intOf sc).toNat)
  case atStart => exact ⟨0, none, 0, 0, Nat.zero_le _, rfl, rfl, by rw [ap_zero, HP0.out]; rfl, by rw [ap_zero, HP0.out]; exact Vec.nil _ _ _, Lib.hid ⟨fun x ⟨a, e, _⟩ => (by cases e), HK0.out, HA0.out⟩⟩
  case round =>
    obtain ⟨k, D, cd, d0, hk, rfl, rfl, rfl, hV, HT⟩ := hrel
    by_cases hlt : (k : Int) < 8
    · have hkn : k < 8 := by omega
      have hle := ap_le p0 b 1 k
      have hcut := fun W => str_cut b (24 * k) (24 * k + 24) (by omega) (by rw [HL.out]; omega) W
      rw [show ((24 * k : Nat) : Int) = 24 * (k : Int) by omega, show ((24 * k + 24 : Nat) : Int) = 24 * (k : Int) + 24 by omega, show 24 * k + 24 - (24 * k) = 24 by omega] at hcut
      obtain ⟨d, hd⟩ : ∃ d, (pAt b k).2 = d := ⟨_, rfl⟩
      have hcall := Cd.procof_is ((b.drop (24 * k)).take 24) (by simp; omega) wr (vP b k) d (by rw [← hd]; rfl)
      have hnx := ap_next p0 b 1 k
      rw [bad1, hd] at hnx
      have HNx := Lib.hid hnx
      have HVl := Lib.hid (vP_len b k)
      have HV := Lib.hid hV
      unfold Cd.pv at hcall
      obtain ⟨v, hv⟩ : ∃ v, vP b k = v := ⟨_, rfl⟩
      have HVv := Lib.hid hv
      rw [hv] at hcall HVl
      generalize str ((b.drop (24 * k)).take 24) = sq at *
      clear hd hnx hV hv
      go_wp2_with fail
      refine hcall.mono ?_; rintro e w1 ⟨rfl, k1⟩
      have HA1 := Lib.hid (HT.out.2.2.nob k1)
      have hV1 := HV.out.nob k1
      have HV1 := Lib.hid hV1
      have K1 := Lib.hid k1
      clear hcall k1 hV1 hcut
      go_upto_region 10 with (refine flatP.wpList_stm (off := k * 16) rfl rfl rfl rfl (cellsI HVl.out) HA1.out.p (by rw [cP_len]; omega) ?_; intro w2 hb2 hk2 hs2; clear hs2)
      have hb3 : Blk w2 gp 85 (cP b (k + 1)) := by
        rw [← cP_next b hkn, HVv.out]
        exact hb2
      have HA2 := Lib.hid (HA1.out.p_ hb3 hk2)
      have HV2 := Lib.hid (HV1.out.keep hk2 (fun x hx e => by
        obtain ⟨cs, hc⟩ := HV1.out.blk hx
        exact hc.ne_ HA1.out.p (by decide) e))
      have HK2 := Lib.hid ((HT.out.2.1.nob K1.out).at_ hk2 HLo.out.1)
      clear hb2 hk2 hb3
      by_cases hd2 : d = 2
      · have e1 : ap p0 b 1 (k + 1) = (ap p0 b 1 k) ++ [(1, (k : Int))] := by rw [HNx.out, if_pos (by simp [hd2])]
        have e2 : (ap p0 b 1 (k + 1)).length = (ap p0 b 1 k).length + 1 := by rw [e1, List.length_append]; rfl
        have HE := Lib.hid (And.intro e1 e2)
        have hln : (ap p0 b 1 k).length ≤ 40 := by have := HPre0.out; omega
        have hvx := HV2.out.nob ((Keep.refl Nob w2).alloc (.cells #[.int .i64 1, .int .i64 k] 84))
        have hr4 := reads_all (n := 2) (Blk.new w2 84 [.int .i64 1, .int .i64 k]) rfl
        clear e1 e2 hle
        go_wp2_with (at_builtin; go_loud (refine wpList_ap rfl _ _ 49 rfl 84 2 16 _ Tryz.underlying49 infRec rfl (by decide) D (ap p0 b 1 k).length cd _ rfl hvx (some ⟨w2.heap.size, 0, none⟩) 1 1 [.int .i64 1, .int .i64 k] rfl 2 rfl hr4 (fun u hu => by simp at hu; rcases hu with rfl | rfl <;> rfl) (by unfold maxLen; omega) (by omega) ?_); intro A2 c2 w5 hv5 hk5 ho5)
        have H5 := Lib.hid (show Vec w5 84 2 A2 (ap p0 b 1 (k + 1)).length c2 (refs (ap p0 b 1 (k + 1))) ∧ (∀ x, Own A2 x → w.heap.size ≤ x) ∧ Keep (From w.heap.size) w w5 ∧ Arr w5 r1 (r1 + 1) (r1 + 1 + 1) gp gf gr b (k + 1) 0 0 by
          have ka := (Keep.refl Nob w2).alloc (.cells #[.int .i64 1, .int .i64 k] 84)
          refine ⟨by rw [HE.out.2, HE.out.1, refs_append]; exact hv5, fun x hx => ?_, (HK2.out.nob ka).from_ hk5 (fun x m => HT.out.1 x m), (HA2.out.nob ka).row hvx (by decide) (by decide) (by decide) hk5⟩
          rcases ho5 x hx with m | m
          · exact HT.out.1 x m
          · have := HK2.out.size
            have h3 : (w2.alloc (.cells #[.int .i64 1, .int .i64 k] 84)).heap.size = w2.heap.size + 1 := by simp
            omega)
        clear hvx hr4 hv5 hk5 ho5
        go_roundw
        case rel => exact ⟨k + 1, A2, c2, 2, by omega, by go_num, rfl, by rw [HE.out.2], H5.out.1, Lib.hid H5.out.2⟩
        case measure => simp [intOf]; omega
      · have e1 : ap p0 b 1 (k + 1) = ap p0 b 1 k := by rw [HNx.out, if_neg (by simp [hd2]), List.append_nil]
        have E1 := Lib.hid e1
        clear e1
        go_wp2_with fail
        go_roundw
        case rel => exact ⟨k + 1, D, cd, d, by omega, by go_num, rfl, by rw [E1.out], by rw [E1.out]; exact HV2.out, Lib.hid ⟨HT.out.1, HK2.out, HA2.out⟩⟩
        case measure => simp [intOf]; omega
    · have h8 : k = 8 := by omega
      subst h8
      have hpl := ap_le p0 b 1 8
      have HV1f := Lib.hid (show Vec wr 84 2 D (ap p0 b 1 8).length cd (refs (ap p0 b 1 8)) from hV)
      have HT1f := HT
      obtain ⟨p1, hp1⟩ : ∃ p, ap p0 b 1 8 = p := ⟨_, rfl⟩
      have HP1 := Lib.hid hp1
      have HPre1 := Lib.hid (show p1.length ≤ 20 from by rw [← hp1]; rw [HP0.out] at hpl ⊢; exact Nat.le_trans hpl (by decide))
      rw [hp1] at HV1f ⊢
      clear hp1 hV hpl HT
      go_wp2_with fail
      go_loopw [9, 10, 12] (fun s9 s10 sc wx => ∃ (k : Nat) (D : Option Addr) (cd : Nat) (d : Int), k ≤ 12 ∧ sc = .int .i64 k ∧ s10 = .int .i64 d ∧ s9 = .slice D (ap p1 b 2 k).length cd ∧ Vec wx 84 2 D (ap p1 b 2 k).length cd (refs (ap p1 b 2 k)) ∧ Hid ((∀ x, Own D x → w.heap.size ≤ x) ∧ Keep (From w.heap.size) w wx ∧ Arr wx r1 (r1 + 1) (r1 + 1 + 1) gp gf gr b 8 k 0)) (fun _ _ sc _ => 12 - (intOf sc).toNat)
      case atStart => exact ⟨0, D, cd, d0, Nat.zero_le _, rfl, rfl, by rw [ap_zero], by rw [ap_zero]; exact HV1f.out, HT1f⟩
      case round =>
        obtain ⟨k, D, cd, d0, hk, rfl, rfl, rfl, hV, HT⟩ := hrel
        by_cases hlt : (k : Int) < 12
        · have hkn : k < 12 := by omega
          have hle := ap_le p1 b 2 k
          have hcut := fun W => str_cut b (192 + 8 * k) (192 + 8 * k + 8) (by omega) (by rw [HL.out]; omega) W
          rw [show ((192 + 8 * k : Nat) : Int) = 192 + 8 * (k : Int) by omega, show ((192 + 8 * k + 8 : Nat) : Int) = 200 + 8 * (k : Int) by omega, show 192 + 8 * k + 8 - (192 + 8 * k) = 8 by omega] at hcut
          obtain ⟨d, hd⟩ : ∃ d, (fAt b k).2 = d := ⟨_, rfl⟩
          have hcall := Fi.fileof_is ((b.drop (192 + 8 * k)).take 8) (by simp; omega) wr (vF b k) d (by rw [← hd]; rfl)
          have hnx := ap_next p1 b 2 k
          rw [bad2, hd] at hnx
          have HNx := Lib.hid hnx
          have HVl := Lib.hid (vF_len b k)
          have HV := Lib.hid hV
          unfold Fi.pv at hcall
          obtain ⟨v, hv⟩ : ∃ v, vF b k = v := ⟨_, rfl⟩
          have HVv := Lib.hid hv
          rw [hv] at hcall HVl
          generalize str ((b.drop (192 + 8 * k)).take 8) = sq at *
          clear hd hnx hV hv
          go_wp2_with fail
          refine hcall.mono ?_; rintro e w1 ⟨rfl, k1⟩
          have HA1 := Lib.hid (HT.out.2.2.nob k1)
          have hV1 := HV.out.nob k1
          have HV1 := Lib.hid hV1
          have K1 := Lib.hid k1
          clear hcall k1 hV1 hcut
          go_upto_region 16 with (refine flatF.wpList_stm (off := k * 4) rfl rfl rfl rfl (cellsI HVl.out) HA1.out.f (by rw [cF_len]; omega) ?_; intro w2 hb2 hk2 hs2; clear hs2)
          have hb3 : Blk w2 gf 86 (cF b (k + 1)) := by
            rw [← cF_next b hkn, HVv.out]
            exact hb2
          have HA2 := Lib.hid (HA1.out.f_ hb3 hk2)
          have HV2 := Lib.hid (HV1.out.keep hk2 (fun x hx e => by
            obtain ⟨cs, hc⟩ := HV1.out.blk hx
            exact hc.ne_ HA1.out.f (by decide) e))
          have HK2 := Lib.hid ((HT.out.2.1.nob K1.out).at_ hk2 HLo.out.2.1)
          clear hb2 hk2 hb3
          by_cases hd2 : d = 2
          · have e1 : ap p1 b 2 (k + 1) = (ap p1 b 2 k) ++ [(2, (k : Int))] := by rw [HNx.out, if_pos (by simp [hd2])]
            have e2 : (ap p1 b 2 (k + 1)).length = (ap p1 b 2 k).length + 1 := by rw [e1, List.length_append]; rfl
            have HE := Lib.hid (And.intro e1 e2)
            have hln : (ap p1 b 2 k).length ≤ 40 := by have := HPre1.out; omega
            have hvx := HV2.out.nob ((Keep.refl Nob w2).alloc (.cells #[.int .i64 2, .int .i64 k] 84))
            have hr4 := reads_all (n := 2) (Blk.new w2 84 [.int .i64 2, .int .i64 k]) rfl
            clear e1 e2 hle
            go_wp2_with (at_builtin; go_loud (refine wpList_ap rfl _ _ 49 rfl 84 2 16 _ Tryz.underlying49 infRec rfl (by decide) D (ap p1 b 2 k).length cd _ rfl hvx (some ⟨w2.heap.size, 0, none⟩) 1 1 [.int .i64 2, .int .i64 k] rfl 2 rfl hr4 (fun u hu => by simp at hu; rcases hu with rfl | rfl <;> rfl) (by unfold maxLen; omega) (by omega) ?_); intro A2 c2 w5 hv5 hk5 ho5)
            have H5 := Lib.hid (show Vec w5 84 2 A2 (ap p1 b 2 (k + 1)).length c2 (refs (ap p1 b 2 (k + 1))) ∧ (∀ x, Own A2 x → w.heap.size ≤ x) ∧ Keep (From w.heap.size) w w5 ∧ Arr w5 r1 (r1 + 1) (r1 + 1 + 1) gp gf gr b 8 (k + 1) 0 by
              have ka := (Keep.refl Nob w2).alloc (.cells #[.int .i64 2, .int .i64 k] 84)
              refine ⟨by rw [HE.out.2, HE.out.1, refs_append]; exact hv5, fun x hx => ?_, (HK2.out.nob ka).from_ hk5 (fun x m => HT.out.1 x m), (HA2.out.nob ka).row hvx (by decide) (by decide) (by decide) hk5⟩
              rcases ho5 x hx with m | m
              · exact HT.out.1 x m
              · have := HK2.out.size
                have h3 : (w2.alloc (.cells #[.int .i64 2, .int .i64 k] 84)).heap.size = w2.heap.size + 1 := by simp
                omega)
            clear hvx hr4 hv5 hk5 ho5
            go_roundw
            case rel => exact ⟨k + 1, A2, c2, 2, by omega, by go_num, rfl, by rw [HE.out.2], H5.out.1, Lib.hid H5.out.2⟩
            case measure => simp [intOf]; omega
          · have e1 : ap p1 b 2 (k + 1) = ap p1 b 2 k := by rw [HNx.out, if_neg (by simp [hd2]), List.append_nil]
            have E1 := Lib.hid e1
            clear e1
            go_wp2_with fail
            go_roundw
            case rel => exact ⟨k + 1, D, cd, d, by omega, by go_num, rfl, by rw [E1.out], by rw [E1.out]; exact HV2.out, Lib.hid ⟨HT.out.1, HK2.out, HA2.out⟩⟩
            case measure => simp [intOf]; omega
        · have h8 : k = 12 := by omega
          subst h8
          have hpl := ap_le p1 b 2 12
          have HV2f := Lib.hid (show Vec wr 84 2 D (ap p1 b 2 12).length cd (refs (ap p1 b 2 12)) from hV)
          have HT2f := HT
          obtain ⟨p2, hp2⟩ : ∃ p, ap p1 b 2 12 = p := ⟨_, rfl⟩
          have HP2 := Lib.hid hp2
          have HPre2 := Lib.hid (show p2.length ≤ 32 from by rw [← hp2]; have := HPre1.out; omega)
          rw [hp2] at HV2f ⊢
          clear hp2 hV hpl HT
          go_wp2_with fail
          go_loopw [9, 10, 13] (fun s9 s10 sc wx => ∃ (k : Nat) (D : Option Addr) (cd : Nat) (d : Int), k ≤ 4 ∧ sc = .int .i64 k ∧ s10 = .int .i64 d ∧ s9 = .slice D (ap p2 b 3 k).length cd ∧ Vec wx 84 2 D (ap p2 b 3 k).length cd (refs (ap p2 b 3 k)) ∧ Hid ((∀ x, Own D x → w.heap.size ≤ x) ∧ Keep (From w.heap.size) w wx ∧ Arr wx r1 (r1 + 1) (r1 + 1 + 1) gp gf gr b 8 12 k)) (fun _ _ sc _ => 4 - (intOf sc).toNat)
          case atStart => exact ⟨0, D, cd, d0, Nat.zero_le _, rfl, rfl, by rw [ap_zero], by rw [ap_zero]; exact HV2f.out, HT2f⟩
          case round =>
            obtain ⟨k, D, cd, d0, hk, rfl, rfl, rfl, hV, HT⟩ := hrel
            by_cases hlt : (k : Int) < 4
            · have hkn : k < 4 := by omega
              have hle := ap_le p2 b 3 k
              have hcut := fun W => str_cut b (288 + 40 * k) (288 + 40 * k + 40) (by omega) (by rw [HL.out]; omega) W
              rw [show ((288 + 40 * k : Nat) : Int) = 288 + 40 * (k : Int) by omega, show ((288 + 40 * k + 40 : Nat) : Int) = 328 + 40 * (k : Int) by omega, show 288 + 40 * k + 40 - (288 + 40 * k) = 40 by omega] at hcut
              obtain ⟨d, hd⟩ : ∃ d, (rAt b k).2 = d := ⟨_, rfl⟩
              have hcall := Ri.pipeof_is ((b.drop (288 + 40 * k)).take 40) (by simp; omega) wr (vR b k) d (by rw [← hd]; rfl)
              have hnx := ap_next p2 b 3 k
              rw [bad3, hd] at hnx
              have HNx := Lib.hid hnx
              have HVl := Lib.hid (vR_len b k)
              have HV := Lib.hid hV
              unfold Ri.pv at hcall
              obtain ⟨v, hv⟩ : ∃ v, vR b k = v := ⟨_, rfl⟩
              have HVv := Lib.hid hv
              rw [hv] at hcall HVl
              generalize str ((b.drop (288 + 40 * k)).take 40) = sq at *
              clear hd hnx hV hv
              go_wp2_with fail
              refine hcall.mono ?_; rintro e w1 ⟨rfl, k1⟩
              have HA1 := Lib.hid (HT.out.2.2.nob k1)
              have hV1 := HV.out.nob k1
              have HV1 := Lib.hid hV1
              have K1 := Lib.hid k1
              clear hcall k1 hV1 hcut
              go_upto_region 22 with (refine flatR.wpList_stm (off := k * 36) rfl rfl rfl rfl (cellsR HVl.out) HA1.out.r (by rw [cR_len]; omega) ?_; intro w2 hb2 hk2 hs2; clear hs2)
              have hb3 : Blk w2 gr 87 (cR b (k + 1)) := by
                rw [← cR_next b hkn, HVv.out]
                exact hb2
              have HA2 := Lib.hid (HA1.out.r_ hb3 hk2)
              have HV2 := Lib.hid (HV1.out.keep hk2 (fun x hx e => by
                obtain ⟨cs, hc⟩ := HV1.out.blk hx
                exact hc.ne_ HA1.out.r (by decide) e))
              have HK2 := Lib.hid ((HT.out.2.1.nob K1.out).at_ hk2 HLo.out.2.2)
              clear hb2 hk2 hb3
              by_cases hd2 : d = 2
              · have e1 : ap p2 b 3 (k + 1) = (ap p2 b 3 k) ++ [(3, (k : Int))] := by rw [HNx.out, if_pos (by simp [hd2])]
                have e2 : (ap p2 b 3 (k + 1)).length = (ap p2 b 3 k).length + 1 := by rw [e1, List.length_append]; rfl
                have HE := Lib.hid (And.intro e1 e2)
                have hln : (ap p2 b 3 k).length ≤ 40 := by have := HPre2.out; omega
                have hvx := HV2.out.nob ((Keep.refl Nob w2).alloc (.cells #[.int .i64 3, .int .i64 k] 84))
                have hr4 := reads_all (n := 2) (Blk.new w2 84 [.int .i64 3, .int .i64 k]) rfl
                clear e1 e2 hle
                go_wp2_with (at_builtin; go_loud (refine wpList_ap rfl _ _ 49 rfl 84 2 16 _ Tryz.underlying49 infRec rfl (by decide) D (ap p2 b 3 k).length cd _ rfl hvx (some ⟨w2.heap.size, 0, none⟩) 1 1 [.int .i64 3, .int .i64 k] rfl 2 rfl hr4 (fun u hu => by simp at hu; rcases hu with rfl | rfl <;> rfl) (by unfold maxLen; omega) (by omega) ?_); intro A2 c2 w5 hv5 hk5 ho5)
                have H5 := Lib.hid (show Vec w5 84 2 A2 (ap p2 b 3 (k + 1)).length c2 (refs (ap p2 b 3 (k + 1))) ∧ (∀ x, Own A2 x → w.heap.size ≤ x) ∧ Keep (From w.heap.size) w w5 ∧ Arr w5 r1 (r1 + 1) (r1 + 1 + 1) gp gf gr b 8 12 (k + 1) by
                  have ka := (Keep.refl Nob w2).alloc (.cells #[.int .i64 3, .int .i64 k] 84)
                  refine ⟨by rw [HE.out.2, HE.out.1, refs_append]; exact hv5, fun x hx => ?_, (HK2.out.nob ka).from_ hk5 (fun x m => HT.out.1 x m), (HA2.out.nob ka).row hvx (by decide) (by decide) (by decide) hk5⟩
                  rcases ho5 x hx with m | m
                  · exact HT.out.1 x m
                  · have := HK2.out.size
                    have h3 : (w2.alloc (.cells #[.int .i64 3, .int .i64 k] 84)).heap.size = w2.heap.size + 1 := by simp
                    omega)
                clear hvx hr4 hv5 hk5 ho5
                go_roundw
                case rel => exact ⟨k + 1, A2, c2, 2, by omega, by go_num, rfl, by rw [HE.out.2], H5.out.1, Lib.hid H5.out.2⟩
                case measure => simp [intOf]; omega
              · have e1 : ap p2 b 3 (k + 1) = ap p2 b 3 k := by rw [HNx.out, if_neg (by simp [hd2]), List.append_nil]
                have E1 := Lib.hid e1
                clear e1
                go_wp2_with fail
                go_roundw
                case rel => exact ⟨k + 1, D, cd, d, by omega, by go_num, rfl, by rw [E1.out], by rw [E1.out]; exact HV2.out, Lib.hid ⟨HT.out.1, HK2.out, HA2.out⟩⟩
                case measure => simp [intOf]; omega
            · have h8 : k = 4 := by omega
              subst h8
              have hpl := ap_le p2 b 3 4
              have HV3 := Lib.hid hV
              obtain ⟨p3, hp3⟩ : ∃ p, ap p2 b 3 4 = p := ⟨_, rfl⟩
              have HP3 := Lib.hid hp3
              have HPre3 := Lib.hid (show p3.length ≤ 36 from by rw [← hp3]; have := HPre2.out; omega)
              rw [hp3] at HV3 ⊢
              have hct := fun W => str_cut b 448 488 (by decide) (by rw [HL.out]; decide) W
              rw [show ((448 : Nat) : Int) = 448 from rfl, show ((488 : Nat) : Int) = 488 from rfl, show 488 - 448 = 40 from rfl] at hct
              obtain ⟨d, hd⟩ : ∃ d, (tAt b).2 = d := ⟨_, rfl⟩
              obtain ⟨tv, htv⟩ : ∃ v, (tAt b).1 = v := ⟨_, rfl⟩
              have hcall := Ri.pipeof_is ((b.drop 448).take 40) (by simp; omega) wr tv d (by rw [← hd, ← htv]; rfl)
              unfold Ri.pv at hcall
              have HD := Lib.hid hd
              generalize str ((b.drop 448).take 40) = sq at *
              clear hd htv
              go_wp2_with fail
              refine hcall.mono ?_; rintro e w1 ⟨rfl, k1⟩
              have HA1 := Lib.hid (HT.out.2.2.nob k1)
              have HV1 := Lib.hid (HV3.out.nob k1)
              have HK1 := Lib.hid (HT.out.2.1.nob k1)
              have HO1 := Lib.hid HT.out.1
              clear hcall k1 hct HV3 HT
              by_cases hd2 : d = 2
              · have HD4 := Lib.hid hd2
                have hvx := HV1.out.nob ((Keep.refl Nob w1).alloc (.cells #[.int .i64 4, .int .i64 0] 84))
                have hr4 := reads_all (n := 2) (Blk.new w1 84 [.int .i64 4, .int .i64 0]) rfl
                have hl3 := HPre3.out
                go_upto_region 27 with (at_builtin; go_loud (refine wpList_ap rfl _ _ 49 rfl 84 2 16 _ Tryz.underlying49 infRec rfl (by decide) D (p3.length) cd _ rfl hvx (some ⟨w1.heap.size, 0, none⟩) 1 1 [.int .i64 4, .int .i64 0] rfl 2 rfl hr4 (fun u hu => by simp at hu; rcases hu with rfl | rfl <;> rfl) (by unfold maxLen; omega) (by omega) ?_); intro At ct wt hv5 hk5 ho5)
                have ka := (Keep.refl Nob w1).alloc (.cells #[.int .i64 4, .int .i64 0] 84)
                have Vt := Lib.hid (show Vec wt 84 2 At (p3.length + 1) ct (refs (p3 ++ [(4, 0)])) by rw [refs_append]; exact hv5)
                have Ot := Lib.hid (show ∀ x, Own At x → w.heap.size ≤ x from fun x hx => by
                  rcases ho5 x hx with m | m
                  · exact HO1.out x m
                  · have := HK1.out.size
                    have h3 : (w1.alloc (.cells #[.int .i64 4, .int .i64 0] 84)).heap.size = w1.heap.size + 1 := by simp
                    omega)
                have Kt := Lib.hid ((HK1.out.nob ka).from_ hk5 (fun x m => HO1.out x m))
                have Rt := Lib.hid ((HA1.out.nob ka).row hvx (by decide) (by decide) (by decide) hk5)
                clear hvx hr4 hv5 hk5 ho5 ka hl3
                obtain ⟨xb, hxb⟩ : ∃ x, b.getD 488 0 = x := ⟨_, rfl⟩
                have hsz := str_size b
                have hix := fun W => Cd.index_str (str b) 488 488 rfl (by rw [hsz, HL.out]; decide) xb (by rw [Cd.str_at b 488 (by rw [hsz, HL.out]; decide)]; exact hxb) W
                have hdr := fun W => Cd.str_drop b 488 488 rfl (by rw [HL.out]; decide) W
                have hx8 : xb.toNat < 256 := UInt8.toNat_lt xb
                clear hsz
                rcases (show 7 < xb.toNat ∨ (xb.toNat ≤ 7 ∧ b.drop 488 = frontB ((xb.toNat : Nat) : Int)) ∨ (xb.toNat ≤ 7 ∧ b.drop 488 ≠ frontB ((xb.toNat : Nat) : Int)) by
                  by_cases h7 : 7 < xb.toNat
                  · exact .inl h7
                  · by_cases he : b.drop 488 = frontB ((xb.toNat : Nat) : Int)
                    · exact .inr (.inl ⟨by omega, he⟩)
                    · exact .inr (.inr ⟨by omega, he⟩)) with h7 | ⟨h7, heq⟩ | ⟨h7, heq⟩
                · have HG := Lib.hid (show (gAt b).2 = 2 from front_hi HL.out (by rw [hxb]; exact h7))
                  have hx7 : (7 : Int) < ((xb.toNat : Nat) : Int) := by omega
                  go_wp2_with fail
                  go_quiet (fail)
                  have kd := Lib.hid ((Keep.refl Nob wt).drewN nq)
                  have Vd := Lib.hid (Vt.out.nob kd.out)
                  have Rd := Lib.hid (Rt.out.nob kd.out)
                  have Kd := Lib.hid (Kt.out.nob kd.out)
                  have hvx := Vd.out.nob ((Keep.refl Nob (wt.drewN nq)).alloc (.cells #[.int .i64 5, .int .i64 0] 84))
                  have hr4 := reads_all (n := 2) (Blk.new (wt.drewN nq) 84 [.int .i64 5, .int .i64 0]) rfl
                  have hl3 := HPre3.out
                  go_upto_region 29 with (at_builtin; go_loud (refine wpList_ap rfl _ _ 49 rfl 84 2 16 _ Tryz.underlying49 infRec rfl (by decide) At (p3.length + 1) ct _ rfl hvx (some ⟨(wt.drewN nq).heap.size, 0, none⟩) 1 1 [.int .i64 5, .int .i64 0] rfl 2 rfl hr4 (fun u hu => by simp at hu; rcases hu with rfl | rfl <;> rfl) (by unfold maxLen; omega) (by omega) ?_); intro Au cu wu hv5 hk5 ho5)
                  have ka := (Keep.refl Nob (wt.drewN nq)).alloc (.cells #[.int .i64 5, .int .i64 0] 84)
                  have Vu := Lib.hid (show Vec wu 84 2 Au (p3.length + 1 + 1) cu (refs (p3 ++ [(4, 0)] ++ [(5, 0)])) by rw [refs_append]; exact hv5)
                  have Ou := Lib.hid (show ∀ x, Own Au x → w.heap.size ≤ x from fun x hx => by
                    rcases ho5 x hx with m | m
                    · exact Ot.out x m
                    · have := Kd.out.size
                      have h3 : ((wt.drewN nq).alloc (.cells #[.int .i64 5, .int .i64 0] 84)).heap.size = (wt.drewN nq).heap.size + 1 := by simp
                      omega)
                  have Ku := Lib.hid ((Kd.out.nob ka).from_ hk5 (fun x m => Ot.out x m))
                  have Ru := Lib.hid ((Rd.out.nob ka).row hvx (by decide) (by decide) (by decide) hk5)
                  clear hvx hr4 hv5 hk5 ho5 ka hl3
                  have HFin := Lib.hid (show p3 ++ [(4, 0)] ++ [(5, 0)] = bl from by rw [← HBl.out]; rw [bads_blk, bad4, bad5, HD.out, HG.out]; simp [HD4.out, ← HP3.out, ← HP2.out, ← HP1.out, HP0.out, ap])
                  have HLn := Lib.hid (show p3.length + 1 + 1 = bl.length from by rw [← HFin.out]; try simp)
                  have SA := Lib.hid (Ru.out.nob (Keep.nobdrew _))
                  have HKd := Lib.hid (Ku.out.nob (Keep.nobdrew _))
                  have HVd := Lib.hid ((Vu.out.nob (Keep.nobdrew _)))
                  refine wp_region_held_drew (S := (fun W => Blk W gp 85 (cP b 8) ∧ Blk W gf 86 (cF b 12) ∧ Blk W gr 87 (cR b 4))) (by kernel_rfl) ⟨SA.out.p, SA.out.f, SA.out.r⟩ (fun hHeld => ?_)
                  refine wpAnyH_take (i := 0) (v := ?_) rfl (by kernel_rfl) (by kernel_rfl) (by kernel_rfl) (fun _ _ _ h => h) (Or.inl ⟨by rfl, ?_⟩) (by assumption) ?_
                  rotate_left
                  · (intro w hSw; (try dsimp only at hSw); obtain ⟨sP, sF, sR⟩ := hSw; refine flatA8.exec_load (x := .tmp 6) ?_ ?_ (cellsP b 8) sP <;> rfl)
                  try simp only [Act.put, List.getElem_toArray, List.getElem_cons_zero, List.getElem_cons_succ, List.setIfInBounds_toArray, List.set_cons_zero, List.set_cons_succ]
                  refine wpAnyH_take (i := 1) (v := ?_) rfl (by kernel_rfl) (by kernel_rfl) (by kernel_rfl) (fun _ _ _ h => h) (Or.inl ⟨by rfl, ?_⟩) (by assumption) ?_
                  rotate_left
                  · (intro w hSw; (try dsimp only at hSw); obtain ⟨sP, sF, sR⟩ := hSw; refine flatA12.exec_load (x := .tmp 7) ?_ ?_ (cellsF b 12) sF <;> rfl)
                  try simp only [Act.put, List.getElem_toArray, List.getElem_cons_zero, List.getElem_cons_succ, List.setIfInBounds_toArray, List.set_cons_zero, List.set_cons_succ]
                  refine wpAnyH_take (i := 2) (v := ?_) rfl (by kernel_rfl) (by kernel_rfl) (by kernel_rfl) (fun _ _ _ h => h) (Or.inl ⟨by rfl, ?_⟩) (by assumption) ?_
                  rotate_left
                  · (intro w hSw; (try dsimp only at hSw); obtain ⟨sP, sF, sR⟩ := hSw; refine flatA4.exec_load (x := .tmp 8) ?_ ?_ (cellsRr b 4) sR <;> rfl)
                  try simp only [Act.put, List.getElem_toArray, List.getElem_cons_zero, List.getElem_cons_succ, List.setIfInBounds_toArray, List.set_cons_zero, List.set_cons_succ]
                  refine wpAnyH_take (i := 3) (v := ?_) rfl (by kernel_rfl) (by kernel_rfl) (by kernel_rfl) (fun _ _ _ h => h) (Or.inl ⟨by rfl, ?_⟩) (by assumption) ?_
                  rotate_left
                  · (intro w hSw; (try dsimp only at hSw); obtain ⟨sP, sF, sR⟩ := hSw; go_simp; try with_reducible rfl)
                  try simp only [Act.put, List.getElem_toArray, List.getElem_cons_zero, List.getElem_cons_succ, List.setIfInBounds_toArray, List.set_cons_zero, List.set_cons_succ]
                  refine wpAnyH_ready (rs := [4]) (by kernel_rfl) (by simp) ?_
                  refine AllReadyH.cons rfl (fun K hK => ?_) AllReadyH.nil
                  refine flatA8.wp_st rfl rfl rfl (cellsP b 8) (cellsP b 0) SA.out.z1 ?_; intro y1 hy1 ky1
                  have S1 := Lib.hid (show Blk y1 gp 85 (cP b 8) ∧ Blk y1 gf 86 (cF b 12) ∧ Blk y1 gr 87 (cR b 4) ∧ Blk y1 (r1 + 1) 86 (cF b 0) ∧ Blk y1 (r1 + 1 + 1) 87 (cR b 0) ∧ Blk y1 r1 85 (cP b 8) from ⟨SA.out.p.keep ky1 (Ne.symm SA.out.n1), SA.out.f.keep ky1 (SA.out.f.ne_ SA.out.z1 (by decide)), SA.out.r.keep ky1 (SA.out.r.ne_ SA.out.z1 (by decide)), SA.out.z2.keep ky1 (SA.out.z2.ne_ SA.out.z1 (by decide)), SA.out.z3.keep ky1 (SA.out.z3.ne_ SA.out.z1 (by decide)), hy1⟩)
                  refine hK.out _ _ ?_ (fun hHeld => ?_)
                  · exact ⟨S1.out.1, S1.out.2.1, S1.out.2.2.1⟩
                  clear hK K
                  try simp only [Act.put, List.getElem_toArray, List.getElem_cons_zero, List.getElem_cons_succ, List.setIfInBounds_toArray, List.set_cons_zero, List.set_cons_succ]
                  refine wpAnyH_ready (rs := [5]) (by kernel_rfl) (by simp) ?_
                  refine AllReadyH.cons rfl (fun K hK => ?_) AllReadyH.nil
                  refine flatA12.wp_st rfl rfl rfl (cellsF b 12) (cellsF b 0) S1.out.2.2.2.1 ?_; intro y2 hy2 ky2
                  have S2 := Lib.hid (show Blk y2 gp 85 (cP b 8) ∧ Blk y2 gf 86 (cF b 12) ∧ Blk y2 gr 87 (cR b 4) ∧ Blk y2 (r1 + 1 + 1) 87 (cR b 0) ∧ Blk y2 r1 85 (cP b 8) ∧ Blk y2 (r1 + 1) 86 (cF b 12) from ⟨S1.out.1.keep ky2 (S1.out.1.ne_ S1.out.2.2.2.1 (by decide)), S1.out.2.1.keep ky2 (Ne.symm SA.out.n2), S1.out.2.2.1.keep ky2 (S1.out.2.2.1.ne_ S1.out.2.2.2.1 (by decide)), S1.out.2.2.2.2.1.keep ky2 (S1.out.2.2.2.2.1.ne_ S1.out.2.2.2.1 (by decide)), S1.out.2.2.2.2.2.keep ky2 (S1.out.2.2.2.2.2.ne_ S1.out.2.2.2.1 (by decide)), hy2⟩)
                  refine hK.out _ _ ?_ (fun hHeld => ?_)
                  · exact ⟨S2.out.1, S2.out.2.1, S2.out.2.2.1⟩
                  clear hK K
                  try simp only [Act.put, List.getElem_toArray, List.getElem_cons_zero, List.getElem_cons_succ, List.setIfInBounds_toArray, List.set_cons_zero, List.set_cons_succ]
                  refine wpAnyH_ready (rs := [6]) (by kernel_rfl) (by simp) ?_
                  refine AllReadyH.cons rfl (fun K hK => ?_) AllReadyH.nil
                  refine flatA4.wp_st rfl rfl rfl (cellsRr b 4) (cellsRr b 0) S2.out.2.2.2.1 ?_; intro y3 hy3 ky3
                  have S3 := Lib.hid (show Blk y3 r1 85 (cP b 8) ∧ Blk y3 (r1 + 1) 86 (cF b 12) ∧ Blk y3 (r1 + 1 + 1) 87 (cR b 4) from ⟨S2.out.2.2.2.2.1.keep ky3 (S2.out.2.2.2.2.1.ne_ S2.out.2.2.2.1 (by decide)), S2.out.2.2.2.2.2.keep ky3 (S2.out.2.2.2.2.2.ne_ S2.out.2.2.2.1 (by decide)), hy3⟩)
                  refine hK.out _ _ ?_ (fun hHeld => ?_)
                  · exact ⟨S2.out.1.keep ky3 (S2.out.1.ne_ S2.out.2.2.2.1 (by decide)), S2.out.2.1.keep ky3 (S2.out.2.1.ne_ S2.out.2.2.2.1 (by decide)), S2.out.2.2.1.keep ky3 (Ne.symm SA.out.n3)⟩
                  clear hK K
                  try simp only [Act.put, List.getElem_toArray, List.getElem_cons_zero, List.getElem_cons_succ, List.setIfInBounds_toArray, List.set_cons_zero, List.set_cons_succ]
                  refine wpAnyH_take (i := 7) (v := ?_) rfl (by kernel_rfl) (by kernel_rfl) (by kernel_rfl) (fun _ _ _ h => h) (Or.inl ⟨by rfl, ?_⟩) (by assumption) ?_
                  rotate_left
                  · (intro w hSw; (try dsimp only at hSw); obtain ⟨sP, sF, sR⟩ := hSw; go_simp; try with_reducible rfl)
                  try simp only [Act.put, List.getElem_toArray, List.getElem_cons_zero, List.getElem_cons_succ, List.setIfInBounds_toArray, List.set_cons_zero, List.set_cons_succ]
                  refine wpAnyH_done (by kernel_rfl) ?_ _
                  have HFv := Lib.hid (show Vec y3 84 2 Au (p3.length + 1 + 1) cu (refs (p3 ++ [(4, 0)] ++ [(5, 0)])) from ((HVd.out.keep ky1 (fun x hx e => by
                    obtain ⟨cs, hc⟩ := HVd.out.blk hx
                    exact hc.ne_ SA.out.z1 (by decide) e)).keep ky2 (fun x hx e => by
                    obtain ⟨cs, hc⟩ := (HVd.out.keep ky1 (fun x hx e => by
                      obtain ⟨cs, hc⟩ := HVd.out.blk hx
                      exact hc.ne_ SA.out.z1 (by decide) e)).blk hx
                    exact hc.ne_ S1.out.2.2.2.1 (by decide) e)).keep ky3 (fun x hx e => by
                    obtain ⟨cs, hc⟩ := ((HVd.out.keep ky1 (fun x hx e => by
                      obtain ⟨cs, hc⟩ := HVd.out.blk hx
                      exact hc.ne_ SA.out.z1 (by decide) e)).keep ky2 (fun x hx e => by
                      obtain ⟨cs, hc⟩ := (HVd.out.keep ky1 (fun x hx e => by
                        obtain ⟨cs, hc⟩ := HVd.out.blk hx
                        exact hc.ne_ SA.out.z1 (by decide) e)).blk hx
                      exact hc.ne_ S1.out.2.2.2.1 (by decide) e)).blk hx
                    exact hc.ne_ S2.out.2.2.2.1 (by decide) e))
                  have HKf := Lib.hid (((HKd.out.at_ ky1 (Nat.le_of_eq hr1)).at_ ky2 HRl.out.2.1).at_ ky3 HRl.out.2.2)
                  clear hy1 ky1 hy2 ky2 hy3 ky3
                  go_wp2
                  refine bodyPost_ret (results_c3 rfl _ _ _ rfl rfl rfl (flatA8.load (cellsP b 8) S3.out.1) (flatA12.load (cellsF b 12) S3.out.2.1) (flatA4.load (cellsRr b 4) S3.out.2.2)) rfl ?_
                  refine ⟨Au, cu, ?_, ?_, Ou.out, HKf.out⟩
                  · rw [← HQ.out.1, ← HQ.out.2.1, ← HQ.out.2.2, ← HLn.out]
                    rfl
                  · rw [← HLn.out, ← HFin.out]
                    exact HFv.out
                · have HG := Lib.hid (show (gAt b).2 = 1 from front_ok HL.out (by rw [hxb]; exact h7) (by rw [hxb]; exact heq))
                  have hx7 : ((7 : Int) < ((xb.toNat : Nat) : Int)) = False := by simp; omega
                  have HWx := Lib.hid (show IntKind.i64.wrap ((xb.toNat : Nat) : Int) = ((xb.toNat : Nat) : Int) by simp [IntKind.wrap, IntKind.bits, IntKind.signed]; omega)
                  have HFb := Lib.hid (Pn.fbytes_is ((xb.toNat : Nat) : Int) (by omega) (by omega) wt.drew)
                  rw [heq] at hdr
                  generalize str (frontB ((xb.toNat : Nat) : Int)) = s1 at *
                  clear heq h7 hxb
                  go_wp2_with fail
                  go_region_held3 (fun _ => True)
                    (trivial)
                    (first | (go_at_call 89; rw [HWx.out]; with_reducible_and_instances apply Calls.mono HFb.out; rintro e wf ⟨rfl, kf⟩))
                  have kd := Lib.hid ((Keep.nobdrew wt).nobt kf)
                  have Vd := Lib.hid (Vt.out.nob kd.out)
                  have Rd := Lib.hid (Rt.out.nob kd.out)
                  have Kd := Lib.hid (Kt.out.nob kd.out)
                  go_upto_region 29 with fail
                  have HFin := Lib.hid (show p3 ++ [(4, 0)] = bl from by rw [← HBl.out]; rw [bads_blk, bad4, bad5, HD.out, HG.out]; simp [HD4.out, ← HP3.out, ← HP2.out, ← HP1.out, HP0.out, ap])
                  have HLn := Lib.hid (show p3.length + 1 = bl.length from by rw [← HFin.out]; try simp)
                  have SA := Lib.hid (Rd.out.nob (Keep.nobdrew _))
                  have HKd := Lib.hid (Kd.out.nob (Keep.nobdrew _))
                  have HVd := Lib.hid ((Vd.out.nob (Keep.nobdrew _)))
                  refine wp_region_held_drew (S := (fun W => Blk W gp 85 (cP b 8) ∧ Blk W gf 86 (cF b 12) ∧ Blk W gr 87 (cR b 4))) (by kernel_rfl) ⟨SA.out.p, SA.out.f, SA.out.r⟩ (fun hHeld => ?_)
                  refine wpAnyH_take (i := 0) (v := ?_) rfl (by kernel_rfl) (by kernel_rfl) (by kernel_rfl) (fun _ _ _ h => h) (Or.inl ⟨by rfl, ?_⟩) (by assumption) ?_
                  rotate_left
                  · (intro w hSw; (try dsimp only at hSw); obtain ⟨sP, sF, sR⟩ := hSw; refine flatA8.exec_load (x := .tmp 6) ?_ ?_ (cellsP b 8) sP <;> rfl)
                  try simp only [Act.put, List.getElem_toArray, List.getElem_cons_zero, List.getElem_cons_succ, List.setIfInBounds_toArray, List.set_cons_zero, List.set_cons_succ]
                  refine wpAnyH_take (i := 1) (v := ?_) rfl (by kernel_rfl) (by kernel_rfl) (by kernel_rfl) (fun _ _ _ h => h) (Or.inl ⟨by rfl, ?_⟩) (by assumption) ?_
                  rotate_left
                  · (intro w hSw; (try dsimp only at hSw); obtain ⟨sP, sF, sR⟩ := hSw; refine flatA12.exec_load (x := .tmp 7) ?_ ?_ (cellsF b 12) sF <;> rfl)
                  try simp only [Act.put, List.getElem_toArray, List.getElem_cons_zero, List.getElem_cons_succ, List.setIfInBounds_toArray, List.set_cons_zero, List.set_cons_succ]
                  refine wpAnyH_take (i := 2) (v := ?_) rfl (by kernel_rfl) (by kernel_rfl) (by kernel_rfl) (fun _ _ _ h => h) (Or.inl ⟨by rfl, ?_⟩) (by assumption) ?_
                  rotate_left
                  · (intro w hSw; (try dsimp only at hSw); obtain ⟨sP, sF, sR⟩ := hSw; refine flatA4.exec_load (x := .tmp 8) ?_ ?_ (cellsRr b 4) sR <;> rfl)
                  try simp only [Act.put, List.getElem_toArray, List.getElem_cons_zero, List.getElem_cons_succ, List.setIfInBounds_toArray, List.set_cons_zero, List.set_cons_succ]
                  refine wpAnyH_take (i := 3) (v := ?_) rfl (by kernel_rfl) (by kernel_rfl) (by kernel_rfl) (fun _ _ _ h => h) (Or.inl ⟨by rfl, ?_⟩) (by assumption) ?_
                  rotate_left
                  · (intro w hSw; (try dsimp only at hSw); obtain ⟨sP, sF, sR⟩ := hSw; go_simp; try with_reducible rfl)
                  try simp only [Act.put, List.getElem_toArray, List.getElem_cons_zero, List.getElem_cons_succ, List.setIfInBounds_toArray, List.set_cons_zero, List.set_cons_succ]
                  refine wpAnyH_ready (rs := [4]) (by kernel_rfl) (by simp) ?_
                  refine AllReadyH.cons rfl (fun K hK => ?_) AllReadyH.nil
                  refine flatA8.wp_st rfl rfl rfl (cellsP b 8) (cellsP b 0) SA.out.z1 ?_; intro y1 hy1 ky1
                  have S1 := Lib.hid (show Blk y1 gp 85 (cP b 8) ∧ Blk y1 gf 86 (cF b 12) ∧ Blk y1 gr 87 (cR b 4) ∧ Blk y1 (r1 + 1) 86 (cF b 0) ∧ Blk y1 (r1 + 1 + 1) 87 (cR b 0) ∧ Blk y1 r1 85 (cP b 8) from ⟨SA.out.p.keep ky1 (Ne.symm SA.out.n1), SA.out.f.keep ky1 (SA.out.f.ne_ SA.out.z1 (by decide)), SA.out.r.keep ky1 (SA.out.r.ne_ SA.out.z1 (by decide)), SA.out.z2.keep ky1 (SA.out.z2.ne_ SA.out.z1 (by decide)), SA.out.z3.keep ky1 (SA.out.z3.ne_ SA.out.z1 (by decide)), hy1⟩)
                  refine hK.out _ _ ?_ (fun hHeld => ?_)
                  · exact ⟨S1.out.1, S1.out.2.1, S1.out.2.2.1⟩
                  clear hK K
                  try simp only [Act.put, List.getElem_toArray, List.getElem_cons_zero, List.getElem_cons_succ, List.setIfInBounds_toArray, List.set_cons_zero, List.set_cons_succ]
                  refine wpAnyH_ready (rs := [5]) (by kernel_rfl) (by simp) ?_
                  refine AllReadyH.cons rfl (fun K hK => ?_) AllReadyH.nil
                  refine flatA12.wp_st rfl rfl rfl (cellsF b 12) (cellsF b 0) S1.out.2.2.2.1 ?_; intro y2 hy2 ky2
                  have S2 := Lib.hid (show Blk y2 gp 85 (cP b 8) ∧ Blk y2 gf 86 (cF b 12) ∧ Blk y2 gr 87 (cR b 4) ∧ Blk y2 (r1 + 1 + 1) 87 (cR b 0) ∧ Blk y2 r1 85 (cP b 8) ∧ Blk y2 (r1 + 1) 86 (cF b 12) from ⟨S1.out.1.keep ky2 (S1.out.1.ne_ S1.out.2.2.2.1 (by decide)), S1.out.2.1.keep ky2 (Ne.symm SA.out.n2), S1.out.2.2.1.keep ky2 (S1.out.2.2.1.ne_ S1.out.2.2.2.1 (by decide)), S1.out.2.2.2.2.1.keep ky2 (S1.out.2.2.2.2.1.ne_ S1.out.2.2.2.1 (by decide)), S1.out.2.2.2.2.2.keep ky2 (S1.out.2.2.2.2.2.ne_ S1.out.2.2.2.1 (by decide)), hy2⟩)
                  refine hK.out _ _ ?_ (fun hHeld => ?_)
                  · exact ⟨S2.out.1, S2.out.2.1, S2.out.2.2.1⟩
                  clear hK K
                  try simp only [Act.put, List.getElem_toArray, List.getElem_cons_zero, List.getElem_cons_succ, List.setIfInBounds_toArray, List.set_cons_zero, List.set_cons_succ]
                  refine wpAnyH_ready (rs := [6]) (by kernel_rfl) (by simp) ?_
                  refine AllReadyH.cons rfl (fun K hK => ?_) AllReadyH.nil
                  refine flatA4.wp_st rfl rfl rfl (cellsRr b 4) (cellsRr b 0) S2.out.2.2.2.1 ?_; intro y3 hy3 ky3
                  have S3 := Lib.hid (show Blk y3 r1 85 (cP b 8) ∧ Blk y3 (r1 + 1) 86 (cF b 12) ∧ Blk y3 (r1 + 1 + 1) 87 (cR b 4) from ⟨S2.out.2.2.2.2.1.keep ky3 (S2.out.2.2.2.2.1.ne_ S2.out.2.2.2.1 (by decide)), S2.out.2.2.2.2.2.keep ky3 (S2.out.2.2.2.2.2.ne_ S2.out.2.2.2.1 (by decide)), hy3⟩)
                  refine hK.out _ _ ?_ (fun hHeld => ?_)
                  · exact ⟨S2.out.1.keep ky3 (S2.out.1.ne_ S2.out.2.2.2.1 (by decide)), S2.out.2.1.keep ky3 (S2.out.2.1.ne_ S2.out.2.2.2.1 (by decide)), S2.out.2.2.1.keep ky3 (Ne.symm SA.out.n3)⟩
                  clear hK K
                  try simp only [Act.put, List.getElem_toArray, List.getElem_cons_zero, List.getElem_cons_succ, List.setIfInBounds_toArray, List.set_cons_zero, List.set_cons_succ]
                  refine wpAnyH_take (i := 7) (v := ?_) rfl (by kernel_rfl) (by kernel_rfl) (by kernel_rfl) (fun _ _ _ h => h) (Or.inl ⟨by rfl, ?_⟩) (by assumption) ?_
                  rotate_left
                  · (intro w hSw; (try dsimp only at hSw); obtain ⟨sP, sF, sR⟩ := hSw; go_simp; try with_reducible rfl)
                  try simp only [Act.put, List.getElem_toArray, List.getElem_cons_zero, List.getElem_cons_succ, List.setIfInBounds_toArray, List.set_cons_zero, List.set_cons_succ]
                  refine wpAnyH_done (by kernel_rfl) ?_ _
                  have HFv := Lib.hid (show Vec y3 84 2 At (p3.length + 1) ct (refs (p3 ++ [(4, 0)])) from ((HVd.out.keep ky1 (fun x hx e => by
                    obtain ⟨cs, hc⟩ := HVd.out.blk hx
                    exact hc.ne_ SA.out.z1 (by decide) e)).keep ky2 (fun x hx e => by
                    obtain ⟨cs, hc⟩ := (HVd.out.keep ky1 (fun x hx e => by
                      obtain ⟨cs, hc⟩ := HVd.out.blk hx
                      exact hc.ne_ SA.out.z1 (by decide) e)).blk hx
                    exact hc.ne_ S1.out.2.2.2.1 (by decide) e)).keep ky3 (fun x hx e => by
                    obtain ⟨cs, hc⟩ := ((HVd.out.keep ky1 (fun x hx e => by
                      obtain ⟨cs, hc⟩ := HVd.out.blk hx
                      exact hc.ne_ SA.out.z1 (by decide) e)).keep ky2 (fun x hx e => by
                      obtain ⟨cs, hc⟩ := (HVd.out.keep ky1 (fun x hx e => by
                        obtain ⟨cs, hc⟩ := HVd.out.blk hx
                        exact hc.ne_ SA.out.z1 (by decide) e)).blk hx
                      exact hc.ne_ S1.out.2.2.2.1 (by decide) e)).blk hx
                    exact hc.ne_ S2.out.2.2.2.1 (by decide) e))
                  have HKf := Lib.hid (((HKd.out.at_ ky1 (Nat.le_of_eq hr1)).at_ ky2 HRl.out.2.1).at_ ky3 HRl.out.2.2)
                  clear hy1 ky1 hy2 ky2 hy3 ky3
                  go_wp2
                  refine bodyPost_ret (results_c3 rfl _ _ _ rfl rfl rfl (flatA8.load (cellsP b 8) S3.out.1) (flatA12.load (cellsF b 12) S3.out.2.1) (flatA4.load (cellsRr b 4) S3.out.2.2)) rfl ?_
                  refine ⟨At, ct, ?_, ?_, Ot.out, HKf.out⟩
                  · rw [← HQ.out.1, ← HQ.out.2.1, ← HQ.out.2.2, ← HLn.out]
                    rfl
                  · rw [← HLn.out, ← HFin.out]
                    exact HFv.out
                · have HG := Lib.hid (show (gAt b).2 = 2 from front_no HL.out (by rw [hxb]; exact h7) (by rw [hxb]; exact heq))
                  have hx7 : ((7 : Int) < ((xb.toNat : Nat) : Int)) = False := by simp; omega
                  have HWx := Lib.hid (show IntKind.i64.wrap ((xb.toNat : Nat) : Int) = ((xb.toNat : Nat) : Int) by simp [IntKind.wrap, IntKind.bits, IntKind.signed]; omega)
                  have HFb := Lib.hid (Pn.fbytes_is ((xb.toNat : Nat) : Int) (by omega) (by omega) wt.drew)
                  have hn1 : ¬ ((str (b.drop 488)).toList = (str (frontB ((xb.toNat : Nat) : Int))).toList) := by rw [Ri.str_tl, Ri.str_tl]; exact heq
                  generalize str (frontB ((xb.toNat : Nat) : Int)) = s1 at *
                  generalize str (b.drop 488) = s2 at *
                  have hn2 : (!s2.toList == s1.toList) = true := by simp [hn1]
                  clear heq h7 hxb
                  go_wp2_with fail
                  go_region_held3 (fun _ => True)
                    (trivial)
                    (first | (go_at_call 89; rw [HWx.out]; with_reducible_and_instances apply Calls.mono HFb.out; rintro e wf ⟨rfl, kf⟩))
                  have kd := Lib.hid ((Keep.nobdrew wt).nobt kf)
                  have Vd := Lib.hid (Vt.out.nob kd.out)
                  have Rd := Lib.hid (Rt.out.nob kd.out)
                  have Kd := Lib.hid (Kt.out.nob kd.out)
                  have hvx := Vd.out.nob ((Keep.refl Nob wf).alloc (.cells #[.int .i64 5, .int .i64 0] 84))
                  have hr4 := reads_all (n := 2) (Blk.new wf 84 [.int .i64 5, .int .i64 0]) rfl
                  have hl3 := HPre3.out
                  go_upto_region 29 with (at_builtin; go_loud (refine wpList_ap rfl _ _ 49 rfl 84 2 16 _ Tryz.underlying49 infRec rfl (by decide) At (p3.length + 1) ct _ rfl hvx (some ⟨wf.heap.size, 0, none⟩) 1 1 [.int .i64 5, .int .i64 0] rfl 2 rfl hr4 (fun u hu => by simp at hu; rcases hu with rfl | rfl <;> rfl) (by unfold maxLen; omega) (by omega) ?_); intro Au cu wu hv5 hk5 ho5)
                  have ka := (Keep.refl Nob wf).alloc (.cells #[.int .i64 5, .int .i64 0] 84)
                  have Vu := Lib.hid (show Vec wu 84 2 Au (p3.length + 1 + 1) cu (refs (p3 ++ [(4, 0)] ++ [(5, 0)])) by rw [refs_append]; exact hv5)
                  have Ou := Lib.hid (show ∀ x, Own Au x → w.heap.size ≤ x from fun x hx => by
                    rcases ho5 x hx with m | m
                    · exact Ot.out x m
                    · have := Kd.out.size
                      have h3 : (wf.alloc (.cells #[.int .i64 5, .int .i64 0] 84)).heap.size = wf.heap.size + 1 := by simp
                      omega)
                  have Ku := Lib.hid ((Kd.out.nob ka).from_ hk5 (fun x m => Ot.out x m))
                  have Ru := Lib.hid ((Rd.out.nob ka).row hvx (by decide) (by decide) (by decide) hk5)
                  clear hvx hr4 hv5 hk5 ho5 ka hl3
                  have HFin := Lib.hid (show p3 ++ [(4, 0)] ++ [(5, 0)] = bl from by rw [← HBl.out]; rw [bads_blk, bad4, bad5, HD.out, HG.out]; simp [HD4.out, ← HP3.out, ← HP2.out, ← HP1.out, HP0.out, ap])
                  have HLn := Lib.hid (show p3.length + 1 + 1 = bl.length from by rw [← HFin.out]; try simp)
                  have SA := Lib.hid (Ru.out.nob (Keep.nobdrew _))
                  have HKd := Lib.hid (Ku.out.nob (Keep.nobdrew _))
                  have HVd := Lib.hid ((Vu.out.nob (Keep.nobdrew _)))
                  refine wp_region_held_drew (S := (fun W => Blk W gp 85 (cP b 8) ∧ Blk W gf 86 (cF b 12) ∧ Blk W gr 87 (cR b 4))) (by kernel_rfl) ⟨SA.out.p, SA.out.f, SA.out.r⟩ (fun hHeld => ?_)
                  refine wpAnyH_take (i := 0) (v := ?_) rfl (by kernel_rfl) (by kernel_rfl) (by kernel_rfl) (fun _ _ _ h => h) (Or.inl ⟨by rfl, ?_⟩) (by assumption) ?_
                  rotate_left
                  · (intro w hSw; (try dsimp only at hSw); obtain ⟨sP, sF, sR⟩ := hSw; refine flatA8.exec_load (x := .tmp 6) ?_ ?_ (cellsP b 8) sP <;> rfl)
                  try simp only [Act.put, List.getElem_toArray, List.getElem_cons_zero, List.getElem_cons_succ, List.setIfInBounds_toArray, List.set_cons_zero, List.set_cons_succ]
                  refine wpAnyH_take (i := 1) (v := ?_) rfl (by kernel_rfl) (by kernel_rfl) (by kernel_rfl) (fun _ _ _ h => h) (Or.inl ⟨by rfl, ?_⟩) (by assumption) ?_
                  rotate_left
                  · (intro w hSw; (try dsimp only at hSw); obtain ⟨sP, sF, sR⟩ := hSw; refine flatA12.exec_load (x := .tmp 7) ?_ ?_ (cellsF b 12) sF <;> rfl)
                  try simp only [Act.put, List.getElem_toArray, List.getElem_cons_zero, List.getElem_cons_succ, List.setIfInBounds_toArray, List.set_cons_zero, List.set_cons_succ]
                  refine wpAnyH_take (i := 2) (v := ?_) rfl (by kernel_rfl) (by kernel_rfl) (by kernel_rfl) (fun _ _ _ h => h) (Or.inl ⟨by rfl, ?_⟩) (by assumption) ?_
                  rotate_left
                  · (intro w hSw; (try dsimp only at hSw); obtain ⟨sP, sF, sR⟩ := hSw; refine flatA4.exec_load (x := .tmp 8) ?_ ?_ (cellsRr b 4) sR <;> rfl)
                  try simp only [Act.put, List.getElem_toArray, List.getElem_cons_zero, List.getElem_cons_succ, List.setIfInBounds_toArray, List.set_cons_zero, List.set_cons_succ]
                  refine wpAnyH_take (i := 3) (v := ?_) rfl (by kernel_rfl) (by kernel_rfl) (by kernel_rfl) (fun _ _ _ h => h) (Or.inl ⟨by rfl, ?_⟩) (by assumption) ?_
                  rotate_left
                  · (intro w hSw; (try dsimp only at hSw); obtain ⟨sP, sF, sR⟩ := hSw; go_simp; try with_reducible rfl)
                  try simp only [Act.put, List.getElem_toArray, List.getElem_cons_zero, List.getElem_cons_succ, List.setIfInBounds_toArray, List.set_cons_zero, List.set_cons_succ]
                  refine wpAnyH_ready (rs := [4]) (by kernel_rfl) (by simp) ?_
                  refine AllReadyH.cons rfl (fun K hK => ?_) AllReadyH.nil
                  refine flatA8.wp_st rfl rfl rfl (cellsP b 8) (cellsP b 0) SA.out.z1 ?_; intro y1 hy1 ky1
                  have S1 := Lib.hid (show Blk y1 gp 85 (cP b 8) ∧ Blk y1 gf 86 (cF b 12) ∧ Blk y1 gr 87 (cR b 4) ∧ Blk y1 (r1 + 1) 86 (cF b 0) ∧ Blk y1 (r1 + 1 + 1) 87 (cR b 0) ∧ Blk y1 r1 85 (cP b 8) from ⟨SA.out.p.keep ky1 (Ne.symm SA.out.n1), SA.out.f.keep ky1 (SA.out.f.ne_ SA.out.z1 (by decide)), SA.out.r.keep ky1 (SA.out.r.ne_ SA.out.z1 (by decide)), SA.out.z2.keep ky1 (SA.out.z2.ne_ SA.out.z1 (by decide)), SA.out.z3.keep ky1 (SA.out.z3.ne_ SA.out.z1 (by decide)), hy1⟩)
                  refine hK.out _ _ ?_ (fun hHeld => ?_)
                  · exact ⟨S1.out.1, S1.out.2.1, S1.out.2.2.1⟩
                  clear hK K
                  try simp only [Act.put, List.getElem_toArray, List.getElem_cons_zero, List.getElem_cons_succ, List.setIfInBounds_toArray, List.set_cons_zero, List.set_cons_succ]
                  refine wpAnyH_ready (rs := [5]) (by kernel_rfl) (by simp) ?_
                  refine AllReadyH.cons rfl (fun K hK => ?_) AllReadyH.nil
                  refine flatA12.wp_st rfl rfl rfl (cellsF b 12) (cellsF b 0) S1.out.2.2.2.1 ?_; intro y2 hy2 ky2
                  have S2 := Lib.hid (show Blk y2 gp 85 (cP b 8) ∧ Blk y2 gf 86 (cF b 12) ∧ Blk y2 gr 87 (cR b 4) ∧ Blk y2 (r1 + 1 + 1) 87 (cR b 0) ∧ Blk y2 r1 85 (cP b 8) ∧ Blk y2 (r1 + 1) 86 (cF b 12) from ⟨S1.out.1.keep ky2 (S1.out.1.ne_ S1.out.2.2.2.1 (by decide)), S1.out.2.1.keep ky2 (Ne.symm SA.out.n2), S1.out.2.2.1.keep ky2 (S1.out.2.2.1.ne_ S1.out.2.2.2.1 (by decide)), S1.out.2.2.2.2.1.keep ky2 (S1.out.2.2.2.2.1.ne_ S1.out.2.2.2.1 (by decide)), S1.out.2.2.2.2.2.keep ky2 (S1.out.2.2.2.2.2.ne_ S1.out.2.2.2.1 (by decide)), hy2⟩)
                  refine hK.out _ _ ?_ (fun hHeld => ?_)
                  · exact ⟨S2.out.1, S2.out.2.1, S2.out.2.2.1⟩
                  clear hK K
                  try simp only [Act.put, List.getElem_toArray, List.getElem_cons_zero, List.getElem_cons_succ, List.setIfInBounds_toArray, List.set_cons_zero, List.set_cons_succ]
                  refine wpAnyH_ready (rs := [6]) (by kernel_rfl) (by simp) ?_
                  refine AllReadyH.cons rfl (fun K hK => ?_) AllReadyH.nil
                  refine flatA4.wp_st rfl rfl rfl (cellsRr b 4) (cellsRr b 0) S2.out.2.2.2.1 ?_; intro y3 hy3 ky3
                  have S3 := Lib.hid (show Blk y3 r1 85 (cP b 8) ∧ Blk y3 (r1 + 1) 86 (cF b 12) ∧ Blk y3 (r1 + 1 + 1) 87 (cR b 4) from ⟨S2.out.2.2.2.2.1.keep ky3 (S2.out.2.2.2.2.1.ne_ S2.out.2.2.2.1 (by decide)), S2.out.2.2.2.2.2.keep ky3 (S2.out.2.2.2.2.2.ne_ S2.out.2.2.2.1 (by decide)), hy3⟩)
                  refine hK.out _ _ ?_ (fun hHeld => ?_)
                  · exact ⟨S2.out.1.keep ky3 (S2.out.1.ne_ S2.out.2.2.2.1 (by decide)), S2.out.2.1.keep ky3 (S2.out.2.1.ne_ S2.out.2.2.2.1 (by decide)), S2.out.2.2.1.keep ky3 (Ne.symm SA.out.n3)⟩
                  clear hK K
                  try simp only [Act.put, List.getElem_toArray, List.getElem_cons_zero, List.getElem_cons_succ, List.setIfInBounds_toArray, List.set_cons_zero, List.set_cons_succ]
                  refine wpAnyH_take (i := 7) (v := ?_) rfl (by kernel_rfl) (by kernel_rfl) (by kernel_rfl) (fun _ _ _ h => h) (Or.inl ⟨by rfl, ?_⟩) (by assumption) ?_
                  rotate_left
                  · (intro w hSw; (try dsimp only at hSw); obtain ⟨sP, sF, sR⟩ := hSw; go_simp; try with_reducible rfl)
                  try simp only [Act.put, List.getElem_toArray, List.getElem_cons_zero, List.getElem_cons_succ, List.setIfInBounds_toArray, List.set_cons_zero, List.set_cons_succ]
                  refine wpAnyH_done (by kernel_rfl) ?_ _
                  have HFv := Lib.hid (show Vec y3 84 2 Au (p3.length + 1 + 1) cu (refs (p3 ++ [(4, 0)] ++ [(5, 0)])) from ((HVd.out.keep ky1 (fun x hx e => by
                    obtain ⟨cs, hc⟩ := HVd.out.blk hx
                    exact hc.ne_ SA.out.z1 (by decide) e)).keep ky2 (fun x hx e => by
                    obtain ⟨cs, hc⟩ := (HVd.out.keep ky1 (fun x hx e => by
                      obtain ⟨cs, hc⟩ := HVd.out.blk hx
                      exact hc.ne_ SA.out.z1 (by decide) e)).blk hx
                    exact hc.ne_ S1.out.2.2.2.1 (by decide) e)).keep ky3 (fun x hx e => by
                    obtain ⟨cs, hc⟩ := ((HVd.out.keep ky1 (fun x hx e => by
                      obtain ⟨cs, hc⟩ := HVd.out.blk hx
                      exact hc.ne_ SA.out.z1 (by decide) e)).keep ky2 (fun x hx e => by
                      obtain ⟨cs, hc⟩ := (HVd.out.keep ky1 (fun x hx e => by
                        obtain ⟨cs, hc⟩ := HVd.out.blk hx
                        exact hc.ne_ SA.out.z1 (by decide) e)).blk hx
                      exact hc.ne_ S1.out.2.2.2.1 (by decide) e)).blk hx
                    exact hc.ne_ S2.out.2.2.2.1 (by decide) e))
                  have HKf := Lib.hid (((HKd.out.at_ ky1 (Nat.le_of_eq hr1)).at_ ky2 HRl.out.2.1).at_ ky3 HRl.out.2.2)
                  clear hy1 ky1 hy2 ky2 hy3 ky3
                  go_wp2
                  refine bodyPost_ret (results_c3 rfl _ _ _ rfl rfl rfl (flatA8.load (cellsP b 8) S3.out.1) (flatA12.load (cellsF b 12) S3.out.2.1) (flatA4.load (cellsRr b 4) S3.out.2.2)) rfl ?_
                  refine ⟨Au, cu, ?_, ?_, Ou.out, HKf.out⟩
                  · rw [← HQ.out.1, ← HQ.out.2.1, ← HQ.out.2.2, ← HLn.out]
                    rfl
                  · rw [← HLn.out, ← HFin.out]
                    exact HFv.out
              · have HD4 := Lib.hid hd2
                go_upto_region 27 with fail
                obtain ⟨xb, hxb⟩ : ∃ x, b.getD 488 0 = x := ⟨_, rfl⟩
                have hsz := str_size b
                have hix := fun W => Cd.index_str (str b) 488 488 rfl (by rw [hsz, HL.out]; decide) xb (by rw [Cd.str_at b 488 (by rw [hsz, HL.out]; decide)]; exact hxb) W
                have hdr := fun W => Cd.str_drop b 488 488 rfl (by rw [HL.out]; decide) W
                have hx8 : xb.toNat < 256 := UInt8.toNat_lt xb
                clear hsz
                rcases (show 7 < xb.toNat ∨ (xb.toNat ≤ 7 ∧ b.drop 488 = frontB ((xb.toNat : Nat) : Int)) ∨ (xb.toNat ≤ 7 ∧ b.drop 488 ≠ frontB ((xb.toNat : Nat) : Int)) by
                  by_cases h7 : 7 < xb.toNat
                  · exact .inl h7
                  · by_cases he : b.drop 488 = frontB ((xb.toNat : Nat) : Int)
                    · exact .inr (.inl ⟨by omega, he⟩)
                    · exact .inr (.inr ⟨by omega, he⟩)) with h7 | ⟨h7, heq⟩ | ⟨h7, heq⟩
                · have HG := Lib.hid (show (gAt b).2 = 2 from front_hi HL.out (by rw [hxb]; exact h7))
                  have hx7 : (7 : Int) < ((xb.toNat : Nat) : Int) := by omega
                  go_wp2_with fail
                  go_quiet (fail)
                  have kd := Lib.hid ((Keep.refl Nob w1).drewN nq)
                  have Vd := Lib.hid (HV1.out.nob kd.out)
                  have Rd := Lib.hid (HA1.out.nob kd.out)
                  have Kd := Lib.hid (HK1.out.nob kd.out)
                  have hvx := Vd.out.nob ((Keep.refl Nob (w1.drewN nq)).alloc (.cells #[.int .i64 5, .int .i64 0] 84))
                  have hr4 := reads_all (n := 2) (Blk.new (w1.drewN nq) 84 [.int .i64 5, .int .i64 0]) rfl
                  have hl3 := HPre3.out
                  go_upto_region 29 with (at_builtin; go_loud (refine wpList_ap rfl _ _ 49 rfl 84 2 16 _ Tryz.underlying49 infRec rfl (by decide) D (p3.length) cd _ rfl hvx (some ⟨(w1.drewN nq).heap.size, 0, none⟩) 1 1 [.int .i64 5, .int .i64 0] rfl 2 rfl hr4 (fun u hu => by simp at hu; rcases hu with rfl | rfl <;> rfl) (by unfold maxLen; omega) (by omega) ?_); intro Au cu wu hv5 hk5 ho5)
                  have ka := (Keep.refl Nob (w1.drewN nq)).alloc (.cells #[.int .i64 5, .int .i64 0] 84)
                  have Vu := Lib.hid (show Vec wu 84 2 Au (p3.length + 1) cu (refs (p3 ++ [(5, 0)])) by rw [refs_append]; exact hv5)
                  have Ou := Lib.hid (show ∀ x, Own Au x → w.heap.size ≤ x from fun x hx => by
                    rcases ho5 x hx with m | m
                    · exact HO1.out x m
                    · have := Kd.out.size
                      have h3 : ((w1.drewN nq).alloc (.cells #[.int .i64 5, .int .i64 0] 84)).heap.size = (w1.drewN nq).heap.size + 1 := by simp
                      omega)
                  have Ku := Lib.hid ((Kd.out.nob ka).from_ hk5 (fun x m => HO1.out x m))
                  have Ru := Lib.hid ((Rd.out.nob ka).row hvx (by decide) (by decide) (by decide) hk5)
                  clear hvx hr4 hv5 hk5 ho5 ka hl3
                  have HFin := Lib.hid (show p3 ++ [(5, 0)] = bl from by rw [← HBl.out]; rw [bads_blk, bad4, bad5, HD.out, HG.out]; simp [HD4.out, ← HP3.out, ← HP2.out, ← HP1.out, HP0.out, ap])
                  have HLn := Lib.hid (show p3.length + 1 = bl.length from by rw [← HFin.out]; try simp)
                  have SA := Lib.hid (Ru.out.nob (Keep.nobdrew _))
                  have HKd := Lib.hid (Ku.out.nob (Keep.nobdrew _))
                  have HVd := Lib.hid ((Vu.out.nob (Keep.nobdrew _)))
                  refine wp_region_held_drew (S := (fun W => Blk W gp 85 (cP b 8) ∧ Blk W gf 86 (cF b 12) ∧ Blk W gr 87 (cR b 4))) (by kernel_rfl) ⟨SA.out.p, SA.out.f, SA.out.r⟩ (fun hHeld => ?_)
                  refine wpAnyH_take (i := 0) (v := ?_) rfl (by kernel_rfl) (by kernel_rfl) (by kernel_rfl) (fun _ _ _ h => h) (Or.inl ⟨by rfl, ?_⟩) (by assumption) ?_
                  rotate_left
                  · (intro w hSw; (try dsimp only at hSw); obtain ⟨sP, sF, sR⟩ := hSw; refine flatA8.exec_load (x := .tmp 6) ?_ ?_ (cellsP b 8) sP <;> rfl)
                  try simp only [Act.put, List.getElem_toArray, List.getElem_cons_zero, List.getElem_cons_succ, List.setIfInBounds_toArray, List.set_cons_zero, List.set_cons_succ]
                  refine wpAnyH_take (i := 1) (v := ?_) rfl (by kernel_rfl) (by kernel_rfl) (by kernel_rfl) (fun _ _ _ h => h) (Or.inl ⟨by rfl, ?_⟩) (by assumption) ?_
                  rotate_left
                  · (intro w hSw; (try dsimp only at hSw); obtain ⟨sP, sF, sR⟩ := hSw; refine flatA12.exec_load (x := .tmp 7) ?_ ?_ (cellsF b 12) sF <;> rfl)
                  try simp only [Act.put, List.getElem_toArray, List.getElem_cons_zero, List.getElem_cons_succ, List.setIfInBounds_toArray, List.set_cons_zero, List.set_cons_succ]
                  refine wpAnyH_take (i := 2) (v := ?_) rfl (by kernel_rfl) (by kernel_rfl) (by kernel_rfl) (fun _ _ _ h => h) (Or.inl ⟨by rfl, ?_⟩) (by assumption) ?_
                  rotate_left
                  · (intro w hSw; (try dsimp only at hSw); obtain ⟨sP, sF, sR⟩ := hSw; refine flatA4.exec_load (x := .tmp 8) ?_ ?_ (cellsRr b 4) sR <;> rfl)
                  try simp only [Act.put, List.getElem_toArray, List.getElem_cons_zero, List.getElem_cons_succ, List.setIfInBounds_toArray, List.set_cons_zero, List.set_cons_succ]
                  refine wpAnyH_take (i := 3) (v := ?_) rfl (by kernel_rfl) (by kernel_rfl) (by kernel_rfl) (fun _ _ _ h => h) (Or.inl ⟨by rfl, ?_⟩) (by assumption) ?_
                  rotate_left
                  · (intro w hSw; (try dsimp only at hSw); obtain ⟨sP, sF, sR⟩ := hSw; go_simp; try with_reducible rfl)
                  try simp only [Act.put, List.getElem_toArray, List.getElem_cons_zero, List.getElem_cons_succ, List.setIfInBounds_toArray, List.set_cons_zero, List.set_cons_succ]
                  refine wpAnyH_ready (rs := [4]) (by kernel_rfl) (by simp) ?_
                  refine AllReadyH.cons rfl (fun K hK => ?_) AllReadyH.nil
                  refine flatA8.wp_st rfl rfl rfl (cellsP b 8) (cellsP b 0) SA.out.z1 ?_; intro y1 hy1 ky1
                  have S1 := Lib.hid (show Blk y1 gp 85 (cP b 8) ∧ Blk y1 gf 86 (cF b 12) ∧ Blk y1 gr 87 (cR b 4) ∧ Blk y1 (r1 + 1) 86 (cF b 0) ∧ Blk y1 (r1 + 1 + 1) 87 (cR b 0) ∧ Blk y1 r1 85 (cP b 8) from ⟨SA.out.p.keep ky1 (Ne.symm SA.out.n1), SA.out.f.keep ky1 (SA.out.f.ne_ SA.out.z1 (by decide)), SA.out.r.keep ky1 (SA.out.r.ne_ SA.out.z1 (by decide)), SA.out.z2.keep ky1 (SA.out.z2.ne_ SA.out.z1 (by decide)), SA.out.z3.keep ky1 (SA.out.z3.ne_ SA.out.z1 (by decide)), hy1⟩)
                  refine hK.out _ _ ?_ (fun hHeld => ?_)
                  · exact ⟨S1.out.1, S1.out.2.1, S1.out.2.2.1⟩
                  clear hK K
                  try simp only [Act.put, List.getElem_toArray, List.getElem_cons_zero, List.getElem_cons_succ, List.setIfInBounds_toArray, List.set_cons_zero, List.set_cons_succ]
                  refine wpAnyH_ready (rs := [5]) (by kernel_rfl) (by simp) ?_
                  refine AllReadyH.cons rfl (fun K hK => ?_) AllReadyH.nil
                  refine flatA12.wp_st rfl rfl rfl (cellsF b 12) (cellsF b 0) S1.out.2.2.2.1 ?_; intro y2 hy2 ky2
                  have S2 := Lib.hid (show Blk y2 gp 85 (cP b 8) ∧ Blk y2 gf 86 (cF b 12) ∧ Blk y2 gr 87 (cR b 4) ∧ Blk y2 (r1 + 1 + 1) 87 (cR b 0) ∧ Blk y2 r1 85 (cP b 8) ∧ Blk y2 (r1 + 1) 86 (cF b 12) from ⟨S1.out.1.keep ky2 (S1.out.1.ne_ S1.out.2.2.2.1 (by decide)), S1.out.2.1.keep ky2 (Ne.symm SA.out.n2), S1.out.2.2.1.keep ky2 (S1.out.2.2.1.ne_ S1.out.2.2.2.1 (by decide)), S1.out.2.2.2.2.1.keep ky2 (S1.out.2.2.2.2.1.ne_ S1.out.2.2.2.1 (by decide)), S1.out.2.2.2.2.2.keep ky2 (S1.out.2.2.2.2.2.ne_ S1.out.2.2.2.1 (by decide)), hy2⟩)
                  refine hK.out _ _ ?_ (fun hHeld => ?_)
                  · exact ⟨S2.out.1, S2.out.2.1, S2.out.2.2.1⟩
                  clear hK K
                  try simp only [Act.put, List.getElem_toArray, List.getElem_cons_zero, List.getElem_cons_succ, List.setIfInBounds_toArray, List.set_cons_zero, List.set_cons_succ]
                  refine wpAnyH_ready (rs := [6]) (by kernel_rfl) (by simp) ?_
                  refine AllReadyH.cons rfl (fun K hK => ?_) AllReadyH.nil
                  refine flatA4.wp_st rfl rfl rfl (cellsRr b 4) (cellsRr b 0) S2.out.2.2.2.1 ?_; intro y3 hy3 ky3
                  have S3 := Lib.hid (show Blk y3 r1 85 (cP b 8) ∧ Blk y3 (r1 + 1) 86 (cF b 12) ∧ Blk y3 (r1 + 1 + 1) 87 (cR b 4) from ⟨S2.out.2.2.2.2.1.keep ky3 (S2.out.2.2.2.2.1.ne_ S2.out.2.2.2.1 (by decide)), S2.out.2.2.2.2.2.keep ky3 (S2.out.2.2.2.2.2.ne_ S2.out.2.2.2.1 (by decide)), hy3⟩)
                  refine hK.out _ _ ?_ (fun hHeld => ?_)
                  · exact ⟨S2.out.1.keep ky3 (S2.out.1.ne_ S2.out.2.2.2.1 (by decide)), S2.out.2.1.keep ky3 (S2.out.2.1.ne_ S2.out.2.2.2.1 (by decide)), S2.out.2.2.1.keep ky3 (Ne.symm SA.out.n3)⟩
                  clear hK K
                  try simp only [Act.put, List.getElem_toArray, List.getElem_cons_zero, List.getElem_cons_succ, List.setIfInBounds_toArray, List.set_cons_zero, List.set_cons_succ]
                  refine wpAnyH_take (i := 7) (v := ?_) rfl (by kernel_rfl) (by kernel_rfl) (by kernel_rfl) (fun _ _ _ h => h) (Or.inl ⟨by rfl, ?_⟩) (by assumption) ?_
                  rotate_left
                  · (intro w hSw; (try dsimp only at hSw); obtain ⟨sP, sF, sR⟩ := hSw; go_simp; try with_reducible rfl)
                  try simp only [Act.put, List.getElem_toArray, List.getElem_cons_zero, List.getElem_cons_succ, List.setIfInBounds_toArray, List.set_cons_zero, List.set_cons_succ]
                  refine wpAnyH_done (by kernel_rfl) ?_ _
                  have HFv := Lib.hid (show Vec y3 84 2 Au (p3.length + 1) cu (refs (p3 ++ [(5, 0)])) from ((HVd.out.keep ky1 (fun x hx e => by
                    obtain ⟨cs, hc⟩ := HVd.out.blk hx
                    exact hc.ne_ SA.out.z1 (by decide) e)).keep ky2 (fun x hx e => by
                    obtain ⟨cs, hc⟩ := (HVd.out.keep ky1 (fun x hx e => by
                      obtain ⟨cs, hc⟩ := HVd.out.blk hx
                      exact hc.ne_ SA.out.z1 (by decide) e)).blk hx
                    exact hc.ne_ S1.out.2.2.2.1 (by decide) e)).keep ky3 (fun x hx e => by
                    obtain ⟨cs, hc⟩ := ((HVd.out.keep ky1 (fun x hx e => by
                      obtain ⟨cs, hc⟩ := HVd.out.blk hx
                      exact hc.ne_ SA.out.z1 (by decide) e)).keep ky2 (fun x hx e => by
                      obtain ⟨cs, hc⟩ := (HVd.out.keep ky1 (fun x hx e => by
                        obtain ⟨cs, hc⟩ := HVd.out.blk hx
                        exact hc.ne_ SA.out.z1 (by decide) e)).blk hx
                      exact hc.ne_ S1.out.2.2.2.1 (by decide) e)).blk hx
                    exact hc.ne_ S2.out.2.2.2.1 (by decide) e))
                  have HKf := Lib.hid (((HKd.out.at_ ky1 (Nat.le_of_eq hr1)).at_ ky2 HRl.out.2.1).at_ ky3 HRl.out.2.2)
                  clear hy1 ky1 hy2 ky2 hy3 ky3
                  go_wp2
                  refine bodyPost_ret (results_c3 rfl _ _ _ rfl rfl rfl (flatA8.load (cellsP b 8) S3.out.1) (flatA12.load (cellsF b 12) S3.out.2.1) (flatA4.load (cellsRr b 4) S3.out.2.2)) rfl ?_
                  refine ⟨Au, cu, ?_, ?_, Ou.out, HKf.out⟩
                  · rw [← HQ.out.1, ← HQ.out.2.1, ← HQ.out.2.2, ← HLn.out]
                    rfl
                  · rw [← HLn.out, ← HFin.out]
                    exact HFv.out
                · have HG := Lib.hid (show (gAt b).2 = 1 from front_ok HL.out (by rw [hxb]; exact h7) (by rw [hxb]; exact heq))
                  have hx7 : ((7 : Int) < ((xb.toNat : Nat) : Int)) = False := by simp; omega
                  have HWx := Lib.hid (show IntKind.i64.wrap ((xb.toNat : Nat) : Int) = ((xb.toNat : Nat) : Int) by simp [IntKind.wrap, IntKind.bits, IntKind.signed]; omega)
                  have HFb := Lib.hid (Pn.fbytes_is ((xb.toNat : Nat) : Int) (by omega) (by omega) w1.drew)
                  rw [heq] at hdr
                  generalize str (frontB ((xb.toNat : Nat) : Int)) = s1 at *
                  clear heq h7 hxb
                  go_wp2_with fail
                  go_region_held3 (fun _ => True)
                    (trivial)
                    (first | (go_at_call 89; rw [HWx.out]; with_reducible_and_instances apply Calls.mono HFb.out; rintro e wf ⟨rfl, kf⟩))
                  have kd := Lib.hid ((Keep.nobdrew w1).nobt kf)
                  have Vd := Lib.hid (HV1.out.nob kd.out)
                  have Rd := Lib.hid (HA1.out.nob kd.out)
                  have Kd := Lib.hid (HK1.out.nob kd.out)
                  go_upto_region 29 with fail
                  have HFin := Lib.hid (show p3 = bl from by rw [← HBl.out]; rw [bads_blk, bad4, bad5, HD.out, HG.out]; simp [HD4.out, ← HP3.out, ← HP2.out, ← HP1.out, HP0.out, ap])
                  have HLn := Lib.hid (show p3.length = bl.length from by rw [← HFin.out]; try simp)
                  have SA := Lib.hid (Rd.out.nob (Keep.nobdrew _))
                  have HKd := Lib.hid (Kd.out.nob (Keep.nobdrew _))
                  have HVd := Lib.hid ((Vd.out.nob (Keep.nobdrew _)))
                  refine wp_region_held_drew (S := (fun W => Blk W gp 85 (cP b 8) ∧ Blk W gf 86 (cF b 12) ∧ Blk W gr 87 (cR b 4))) (by kernel_rfl) ⟨SA.out.p, SA.out.f, SA.out.r⟩ (fun hHeld => ?_)
                  refine wpAnyH_take (i := 0) (v := ?_) rfl (by kernel_rfl) (by kernel_rfl) (by kernel_rfl) (fun _ _ _ h => h) (Or.inl ⟨by rfl, ?_⟩) (by assumption) ?_
                  rotate_left
                  · (intro w hSw; (try dsimp only at hSw); obtain ⟨sP, sF, sR⟩ := hSw; refine flatA8.exec_load (x := .tmp 6) ?_ ?_ (cellsP b 8) sP <;> rfl)
                  try simp only [Act.put, List.getElem_toArray, List.getElem_cons_zero, List.getElem_cons_succ, List.setIfInBounds_toArray, List.set_cons_zero, List.set_cons_succ]
                  refine wpAnyH_take (i := 1) (v := ?_) rfl (by kernel_rfl) (by kernel_rfl) (by kernel_rfl) (fun _ _ _ h => h) (Or.inl ⟨by rfl, ?_⟩) (by assumption) ?_
                  rotate_left
                  · (intro w hSw; (try dsimp only at hSw); obtain ⟨sP, sF, sR⟩ := hSw; refine flatA12.exec_load (x := .tmp 7) ?_ ?_ (cellsF b 12) sF <;> rfl)
                  try simp only [Act.put, List.getElem_toArray, List.getElem_cons_zero, List.getElem_cons_succ, List.setIfInBounds_toArray, List.set_cons_zero, List.set_cons_succ]
                  refine wpAnyH_take (i := 2) (v := ?_) rfl (by kernel_rfl) (by kernel_rfl) (by kernel_rfl) (fun _ _ _ h => h) (Or.inl ⟨by rfl, ?_⟩) (by assumption) ?_
                  rotate_left
                  · (intro w hSw; (try dsimp only at hSw); obtain ⟨sP, sF, sR⟩ := hSw; refine flatA4.exec_load (x := .tmp 8) ?_ ?_ (cellsRr b 4) sR <;> rfl)
                  try simp only [Act.put, List.getElem_toArray, List.getElem_cons_zero, List.getElem_cons_succ, List.setIfInBounds_toArray, List.set_cons_zero, List.set_cons_succ]
                  refine wpAnyH_take (i := 3) (v := ?_) rfl (by kernel_rfl) (by kernel_rfl) (by kernel_rfl) (fun _ _ _ h => h) (Or.inl ⟨by rfl, ?_⟩) (by assumption) ?_
                  rotate_left
                  · (intro w hSw; (try dsimp only at hSw); obtain ⟨sP, sF, sR⟩ := hSw; go_simp; try with_reducible rfl)
                  try simp only [Act.put, List.getElem_toArray, List.getElem_cons_zero, List.getElem_cons_succ, List.setIfInBounds_toArray, List.set_cons_zero, List.set_cons_succ]
                  refine wpAnyH_ready (rs := [4]) (by kernel_rfl) (by simp) ?_
                  refine AllReadyH.cons rfl (fun K hK => ?_) AllReadyH.nil
                  refine flatA8.wp_st rfl rfl rfl (cellsP b 8) (cellsP b 0) SA.out.z1 ?_; intro y1 hy1 ky1
                  have S1 := Lib.hid (show Blk y1 gp 85 (cP b 8) ∧ Blk y1 gf 86 (cF b 12) ∧ Blk y1 gr 87 (cR b 4) ∧ Blk y1 (r1 + 1) 86 (cF b 0) ∧ Blk y1 (r1 + 1 + 1) 87 (cR b 0) ∧ Blk y1 r1 85 (cP b 8) from ⟨SA.out.p.keep ky1 (Ne.symm SA.out.n1), SA.out.f.keep ky1 (SA.out.f.ne_ SA.out.z1 (by decide)), SA.out.r.keep ky1 (SA.out.r.ne_ SA.out.z1 (by decide)), SA.out.z2.keep ky1 (SA.out.z2.ne_ SA.out.z1 (by decide)), SA.out.z3.keep ky1 (SA.out.z3.ne_ SA.out.z1 (by decide)), hy1⟩)
                  refine hK.out _ _ ?_ (fun hHeld => ?_)
                  · exact ⟨S1.out.1, S1.out.2.1, S1.out.2.2.1⟩
                  clear hK K
                  try simp only [Act.put, List.getElem_toArray, List.getElem_cons_zero, List.getElem_cons_succ, List.setIfInBounds_toArray, List.set_cons_zero, List.set_cons_succ]
                  refine wpAnyH_ready (rs := [5]) (by kernel_rfl) (by simp) ?_
                  refine AllReadyH.cons rfl (fun K hK => ?_) AllReadyH.nil
                  refine flatA12.wp_st rfl rfl rfl (cellsF b 12) (cellsF b 0) S1.out.2.2.2.1 ?_; intro y2 hy2 ky2
                  have S2 := Lib.hid (show Blk y2 gp 85 (cP b 8) ∧ Blk y2 gf 86 (cF b 12) ∧ Blk y2 gr 87 (cR b 4) ∧ Blk y2 (r1 + 1 + 1) 87 (cR b 0) ∧ Blk y2 r1 85 (cP b 8) ∧ Blk y2 (r1 + 1) 86 (cF b 12) from ⟨S1.out.1.keep ky2 (S1.out.1.ne_ S1.out.2.2.2.1 (by decide)), S1.out.2.1.keep ky2 (Ne.symm SA.out.n2), S1.out.2.2.1.keep ky2 (S1.out.2.2.1.ne_ S1.out.2.2.2.1 (by decide)), S1.out.2.2.2.2.1.keep ky2 (S1.out.2.2.2.2.1.ne_ S1.out.2.2.2.1 (by decide)), S1.out.2.2.2.2.2.keep ky2 (S1.out.2.2.2.2.2.ne_ S1.out.2.2.2.1 (by decide)), hy2⟩)
                  refine hK.out _ _ ?_ (fun hHeld => ?_)
                  · exact ⟨S2.out.1, S2.out.2.1, S2.out.2.2.1⟩
                  clear hK K
                  try simp only [Act.put, List.getElem_toArray, List.getElem_cons_zero, List.getElem_cons_succ, List.setIfInBounds_toArray, List.set_cons_zero, List.set_cons_succ]
                  refine wpAnyH_ready (rs := [6]) (by kernel_rfl) (by simp) ?_
                  refine AllReadyH.cons rfl (fun K hK => ?_) AllReadyH.nil
                  refine flatA4.wp_st rfl rfl rfl (cellsRr b 4) (cellsRr b 0) S2.out.2.2.2.1 ?_; intro y3 hy3 ky3
                  have S3 := Lib.hid (show Blk y3 r1 85 (cP b 8) ∧ Blk y3 (r1 + 1) 86 (cF b 12) ∧ Blk y3 (r1 + 1 + 1) 87 (cR b 4) from ⟨S2.out.2.2.2.2.1.keep ky3 (S2.out.2.2.2.2.1.ne_ S2.out.2.2.2.1 (by decide)), S2.out.2.2.2.2.2.keep ky3 (S2.out.2.2.2.2.2.ne_ S2.out.2.2.2.1 (by decide)), hy3⟩)
                  refine hK.out _ _ ?_ (fun hHeld => ?_)
                  · exact ⟨S2.out.1.keep ky3 (S2.out.1.ne_ S2.out.2.2.2.1 (by decide)), S2.out.2.1.keep ky3 (S2.out.2.1.ne_ S2.out.2.2.2.1 (by decide)), S2.out.2.2.1.keep ky3 (Ne.symm SA.out.n3)⟩
                  clear hK K
                  try simp only [Act.put, List.getElem_toArray, List.getElem_cons_zero, List.getElem_cons_succ, List.setIfInBounds_toArray, List.set_cons_zero, List.set_cons_succ]
                  refine wpAnyH_take (i := 7) (v := ?_) rfl (by kernel_rfl) (by kernel_rfl) (by kernel_rfl) (fun _ _ _ h => h) (Or.inl ⟨by rfl, ?_⟩) (by assumption) ?_
                  rotate_left
                  · (intro w hSw; (try dsimp only at hSw); obtain ⟨sP, sF, sR⟩ := hSw; go_simp; try with_reducible rfl)
                  try simp only [Act.put, List.getElem_toArray, List.getElem_cons_zero, List.getElem_cons_succ, List.setIfInBounds_toArray, List.set_cons_zero, List.set_cons_succ]
                  refine wpAnyH_done (by kernel_rfl) ?_ _
                  have HFv := Lib.hid (show Vec y3 84 2 D (p3.length) cd (refs (p3)) from ((HVd.out.keep ky1 (fun x hx e => by
                    obtain ⟨cs, hc⟩ := HVd.out.blk hx
                    exact hc.ne_ SA.out.z1 (by decide) e)).keep ky2 (fun x hx e => by
                    obtain ⟨cs, hc⟩ := (HVd.out.keep ky1 (fun x hx e => by
                      obtain ⟨cs, hc⟩ := HVd.out.blk hx
                      exact hc.ne_ SA.out.z1 (by decide) e)).blk hx
                    exact hc.ne_ S1.out.2.2.2.1 (by decide) e)).keep ky3 (fun x hx e => by
                    obtain ⟨cs, hc⟩ := ((HVd.out.keep ky1 (fun x hx e => by
                      obtain ⟨cs, hc⟩ := HVd.out.blk hx
                      exact hc.ne_ SA.out.z1 (by decide) e)).keep ky2 (fun x hx e => by
                      obtain ⟨cs, hc⟩ := (HVd.out.keep ky1 (fun x hx e => by
                        obtain ⟨cs, hc⟩ := HVd.out.blk hx
                        exact hc.ne_ SA.out.z1 (by decide) e)).blk hx
                      exact hc.ne_ S1.out.2.2.2.1 (by decide) e)).blk hx
                    exact hc.ne_ S2.out.2.2.2.1 (by decide) e))
                  have HKf := Lib.hid (((HKd.out.at_ ky1 (Nat.le_of_eq hr1)).at_ ky2 HRl.out.2.1).at_ ky3 HRl.out.2.2)
                  clear hy1 ky1 hy2 ky2 hy3 ky3
                  go_wp2
                  refine bodyPost_ret (results_c3 rfl _ _ _ rfl rfl rfl (flatA8.load (cellsP b 8) S3.out.1) (flatA12.load (cellsF b 12) S3.out.2.1) (flatA4.load (cellsRr b 4) S3.out.2.2)) rfl ?_
                  refine ⟨D, cd, ?_, ?_, HO1.out, HKf.out⟩
                  · rw [← HQ.out.1, ← HQ.out.2.1, ← HQ.out.2.2, ← HLn.out]
                    rfl
                  · rw [← HLn.out, ← HFin.out]
                    exact HFv.out
                · have HG := Lib.hid (show (gAt b).2 = 2 from front_no HL.out (by rw [hxb]; exact h7) (by rw [hxb]; exact heq))
                  have hx7 : ((7 : Int) < ((xb.toNat : Nat) : Int)) = False := by simp; omega
                  have HWx := Lib.hid (show IntKind.i64.wrap ((xb.toNat : Nat) : Int) = ((xb.toNat : Nat) : Int) by simp [IntKind.wrap, IntKind.bits, IntKind.signed]; omega)
                  have HFb := Lib.hid (Pn.fbytes_is ((xb.toNat : Nat) : Int) (by omega) (by omega) w1.drew)
                  have hn1 : ¬ ((str (b.drop 488)).toList = (str (frontB ((xb.toNat : Nat) : Int))).toList) := by rw [Ri.str_tl, Ri.str_tl]; exact heq
                  generalize str (frontB ((xb.toNat : Nat) : Int)) = s1 at *
                  generalize str (b.drop 488) = s2 at *
                  have hn2 : (!s2.toList == s1.toList) = true := by simp [hn1]
                  clear heq h7 hxb
                  go_wp2_with fail
                  go_region_held3 (fun _ => True)
                    (trivial)
                    (first | (go_at_call 89; rw [HWx.out]; with_reducible_and_instances apply Calls.mono HFb.out; rintro e wf ⟨rfl, kf⟩))
                  have kd := Lib.hid ((Keep.nobdrew w1).nobt kf)
                  have Vd := Lib.hid (HV1.out.nob kd.out)
                  have Rd := Lib.hid (HA1.out.nob kd.out)
                  have Kd := Lib.hid (HK1.out.nob kd.out)
                  have hvx := Vd.out.nob ((Keep.refl Nob wf).alloc (.cells #[.int .i64 5, .int .i64 0] 84))
                  have hr4 := reads_all (n := 2) (Blk.new wf 84 [.int .i64 5, .int .i64 0]) rfl
                  have hl3 := HPre3.out
                  go_upto_region 29 with (at_builtin; go_loud (refine wpList_ap rfl _ _ 49 rfl 84 2 16 _ Tryz.underlying49 infRec rfl (by decide) D (p3.length) cd _ rfl hvx (some ⟨wf.heap.size, 0, none⟩) 1 1 [.int .i64 5, .int .i64 0] rfl 2 rfl hr4 (fun u hu => by simp at hu; rcases hu with rfl | rfl <;> rfl) (by unfold maxLen; omega) (by omega) ?_); intro Au cu wu hv5 hk5 ho5)
                  have ka := (Keep.refl Nob wf).alloc (.cells #[.int .i64 5, .int .i64 0] 84)
                  have Vu := Lib.hid (show Vec wu 84 2 Au (p3.length + 1) cu (refs (p3 ++ [(5, 0)])) by rw [refs_append]; exact hv5)
                  have Ou := Lib.hid (show ∀ x, Own Au x → w.heap.size ≤ x from fun x hx => by
                    rcases ho5 x hx with m | m
                    · exact HO1.out x m
                    · have := Kd.out.size
                      have h3 : (wf.alloc (.cells #[.int .i64 5, .int .i64 0] 84)).heap.size = wf.heap.size + 1 := by simp
                      omega)
                  have Ku := Lib.hid ((Kd.out.nob ka).from_ hk5 (fun x m => HO1.out x m))
                  have Ru := Lib.hid ((Rd.out.nob ka).row hvx (by decide) (by decide) (by decide) hk5)
                  clear hvx hr4 hv5 hk5 ho5 ka hl3
                  have HFin := Lib.hid (show p3 ++ [(5, 0)] = bl from by rw [← HBl.out]; rw [bads_blk, bad4, bad5, HD.out, HG.out]; simp [HD4.out, ← HP3.out, ← HP2.out, ← HP1.out, HP0.out, ap])
                  have HLn := Lib.hid (show p3.length + 1 = bl.length from by rw [← HFin.out]; try simp)
                  have SA := Lib.hid (Ru.out.nob (Keep.nobdrew _))
                  have HKd := Lib.hid (Ku.out.nob (Keep.nobdrew _))
                  have HVd := Lib.hid ((Vu.out.nob (Keep.nobdrew _)))
                  refine wp_region_held_drew (S := (fun W => Blk W gp 85 (cP b 8) ∧ Blk W gf 86 (cF b 12) ∧ Blk W gr 87 (cR b 4))) (by kernel_rfl) ⟨SA.out.p, SA.out.f, SA.out.r⟩ (fun hHeld => ?_)
                  refine wpAnyH_take (i := 0) (v := ?_) rfl (by kernel_rfl) (by kernel_rfl) (by kernel_rfl) (fun _ _ _ h => h) (Or.inl ⟨by rfl, ?_⟩) (by assumption) ?_
                  rotate_left
                  · (intro w hSw; (try dsimp only at hSw); obtain ⟨sP, sF, sR⟩ := hSw; refine flatA8.exec_load (x := .tmp 6) ?_ ?_ (cellsP b 8) sP <;> rfl)
                  try simp only [Act.put, List.getElem_toArray, List.getElem_cons_zero, List.getElem_cons_succ, List.setIfInBounds_toArray, List.set_cons_zero, List.set_cons_succ]
                  refine wpAnyH_take (i := 1) (v := ?_) rfl (by kernel_rfl) (by kernel_rfl) (by kernel_rfl) (fun _ _ _ h => h) (Or.inl ⟨by rfl, ?_⟩) (by assumption) ?_
                  rotate_left
                  · (intro w hSw; (try dsimp only at hSw); obtain ⟨sP, sF, sR⟩ := hSw; refine flatA12.exec_load (x := .tmp 7) ?_ ?_ (cellsF b 12) sF <;> rfl)
                  try simp only [Act.put, List.getElem_toArray, List.getElem_cons_zero, List.getElem_cons_succ, List.setIfInBounds_toArray, List.set_cons_zero, List.set_cons_succ]
                  refine wpAnyH_take (i := 2) (v := ?_) rfl (by kernel_rfl) (by kernel_rfl) (by kernel_rfl) (fun _ _ _ h => h) (Or.inl ⟨by rfl, ?_⟩) (by assumption) ?_
                  rotate_left
                  · (intro w hSw; (try dsimp only at hSw); obtain ⟨sP, sF, sR⟩ := hSw; refine flatA4.exec_load (x := .tmp 8) ?_ ?_ (cellsRr b 4) sR <;> rfl)
                  try simp only [Act.put, List.getElem_toArray, List.getElem_cons_zero, List.getElem_cons_succ, List.setIfInBounds_toArray, List.set_cons_zero, List.set_cons_succ]
                  refine wpAnyH_take (i := 3) (v := ?_) rfl (by kernel_rfl) (by kernel_rfl) (by kernel_rfl) (fun _ _ _ h => h) (Or.inl ⟨by rfl, ?_⟩) (by assumption) ?_
                  rotate_left
                  · (intro w hSw; (try dsimp only at hSw); obtain ⟨sP, sF, sR⟩ := hSw; go_simp; try with_reducible rfl)
                  try simp only [Act.put, List.getElem_toArray, List.getElem_cons_zero, List.getElem_cons_succ, List.setIfInBounds_toArray, List.set_cons_zero, List.set_cons_succ]
                  refine wpAnyH_ready (rs := [4]) (by kernel_rfl) (by simp) ?_
                  refine AllReadyH.cons rfl (fun K hK => ?_) AllReadyH.nil
                  refine flatA8.wp_st rfl rfl rfl (cellsP b 8) (cellsP b 0) SA.out.z1 ?_; intro y1 hy1 ky1
                  have S1 := Lib.hid (show Blk y1 gp 85 (cP b 8) ∧ Blk y1 gf 86 (cF b 12) ∧ Blk y1 gr 87 (cR b 4) ∧ Blk y1 (r1 + 1) 86 (cF b 0) ∧ Blk y1 (r1 + 1 + 1) 87 (cR b 0) ∧ Blk y1 r1 85 (cP b 8) from ⟨SA.out.p.keep ky1 (Ne.symm SA.out.n1), SA.out.f.keep ky1 (SA.out.f.ne_ SA.out.z1 (by decide)), SA.out.r.keep ky1 (SA.out.r.ne_ SA.out.z1 (by decide)), SA.out.z2.keep ky1 (SA.out.z2.ne_ SA.out.z1 (by decide)), SA.out.z3.keep ky1 (SA.out.z3.ne_ SA.out.z1 (by decide)), hy1⟩)
                  refine hK.out _ _ ?_ (fun hHeld => ?_)
                  · exact ⟨S1.out.1, S1.out.2.1, S1.out.2.2.1⟩
                  clear hK K
                  try simp only [Act.put, List.getElem_toArray, List.getElem_cons_zero, List.getElem_cons_succ, List.setIfInBounds_toArray, List.set_cons_zero, List.set_cons_succ]
                  refine wpAnyH_ready (rs := [5]) (by kernel_rfl) (by simp) ?_
                  refine AllReadyH.cons rfl (fun K hK => ?_) AllReadyH.nil
                  refine flatA12.wp_st rfl rfl rfl (cellsF b 12) (cellsF b 0) S1.out.2.2.2.1 ?_; intro y2 hy2 ky2
                  have S2 := Lib.hid (show Blk y2 gp 85 (cP b 8) ∧ Blk y2 gf 86 (cF b 12) ∧ Blk y2 gr 87 (cR b 4) ∧ Blk y2 (r1 + 1 + 1) 87 (cR b 0) ∧ Blk y2 r1 85 (cP b 8) ∧ Blk y2 (r1 + 1) 86 (cF b 12) from ⟨S1.out.1.keep ky2 (S1.out.1.ne_ S1.out.2.2.2.1 (by decide)), S1.out.2.1.keep ky2 (Ne.symm SA.out.n2), S1.out.2.2.1.keep ky2 (S1.out.2.2.1.ne_ S1.out.2.2.2.1 (by decide)), S1.out.2.2.2.2.1.keep ky2 (S1.out.2.2.2.2.1.ne_ S1.out.2.2.2.1 (by decide)), S1.out.2.2.2.2.2.keep ky2 (S1.out.2.2.2.2.2.ne_ S1.out.2.2.2.1 (by decide)), hy2⟩)
                  refine hK.out _ _ ?_ (fun hHeld => ?_)
                  · exact ⟨S2.out.1, S2.out.2.1, S2.out.2.2.1⟩
                  clear hK K
                  try simp only [Act.put, List.getElem_toArray, List.getElem_cons_zero, List.getElem_cons_succ, List.setIfInBounds_toArray, List.set_cons_zero, List.set_cons_succ]
                  refine wpAnyH_ready (rs := [6]) (by kernel_rfl) (by simp) ?_
                  refine AllReadyH.cons rfl (fun K hK => ?_) AllReadyH.nil
                  refine flatA4.wp_st rfl rfl rfl (cellsRr b 4) (cellsRr b 0) S2.out.2.2.2.1 ?_; intro y3 hy3 ky3
                  have S3 := Lib.hid (show Blk y3 r1 85 (cP b 8) ∧ Blk y3 (r1 + 1) 86 (cF b 12) ∧ Blk y3 (r1 + 1 + 1) 87 (cR b 4) from ⟨S2.out.2.2.2.2.1.keep ky3 (S2.out.2.2.2.2.1.ne_ S2.out.2.2.2.1 (by decide)), S2.out.2.2.2.2.2.keep ky3 (S2.out.2.2.2.2.2.ne_ S2.out.2.2.2.1 (by decide)), hy3⟩)
                  refine hK.out _ _ ?_ (fun hHeld => ?_)
                  · exact ⟨S2.out.1.keep ky3 (S2.out.1.ne_ S2.out.2.2.2.1 (by decide)), S2.out.2.1.keep ky3 (S2.out.2.1.ne_ S2.out.2.2.2.1 (by decide)), S2.out.2.2.1.keep ky3 (Ne.symm SA.out.n3)⟩
                  clear hK K
                  try simp only [Act.put, List.getElem_toArray, List.getElem_cons_zero, List.getElem_cons_succ, List.setIfInBounds_toArray, List.set_cons_zero, List.set_cons_succ]
                  refine wpAnyH_take (i := 7) (v := ?_) rfl (by kernel_rfl) (by kernel_rfl) (by kernel_rfl) (fun _ _ _ h => h) (Or.inl ⟨by rfl, ?_⟩) (by assumption) ?_
                  rotate_left
                  · (intro w hSw; (try dsimp only at hSw); obtain ⟨sP, sF, sR⟩ := hSw; go_simp; try with_reducible rfl)
                  try simp only [Act.put, List.getElem_toArray, List.getElem_cons_zero, List.getElem_cons_succ, List.setIfInBounds_toArray, List.set_cons_zero, List.set_cons_succ]
                  refine wpAnyH_done (by kernel_rfl) ?_ _
                  have HFv := Lib.hid (show Vec y3 84 2 Au (p3.length + 1) cu (refs (p3 ++ [(5, 0)])) from ((HVd.out.keep ky1 (fun x hx e => by
                    obtain ⟨cs, hc⟩ := HVd.out.blk hx
                    exact hc.ne_ SA.out.z1 (by decide) e)).keep ky2 (fun x hx e => by
                    obtain ⟨cs, hc⟩ := (HVd.out.keep ky1 (fun x hx e => by
                      obtain ⟨cs, hc⟩ := HVd.out.blk hx
                      exact hc.ne_ SA.out.z1 (by decide) e)).blk hx
                    exact hc.ne_ S1.out.2.2.2.1 (by decide) e)).keep ky3 (fun x hx e => by
                    obtain ⟨cs, hc⟩ := ((HVd.out.keep ky1 (fun x hx e => by
                      obtain ⟨cs, hc⟩ := HVd.out.blk hx
                      exact hc.ne_ SA.out.z1 (by decide) e)).keep ky2 (fun x hx e => by
                      obtain ⟨cs, hc⟩ := (HVd.out.keep ky1 (fun x hx e => by
                        obtain ⟨cs, hc⟩ := HVd.out.blk hx
                        exact hc.ne_ SA.out.z1 (by decide) e)).blk hx
                      exact hc.ne_ S1.out.2.2.2.1 (by decide) e)).blk hx
                    exact hc.ne_ S2.out.2.2.2.1 (by decide) e))
                  have HKf := Lib.hid (((HKd.out.at_ ky1 (Nat.le_of_eq hr1)).at_ ky2 HRl.out.2.1).at_ ky3 HRl.out.2.2)
                  clear hy1 ky1 hy2 ky2 hy3 ky3
                  go_wp2
                  refine bodyPost_ret (results_c3 rfl _ _ _ rfl rfl rfl (flatA8.load (cellsP b 8) S3.out.1) (flatA12.load (cellsF b 12) S3.out.2.1) (flatA4.load (cellsRr b 4) S3.out.2.2)) rfl ?_
                  refine ⟨Au, cu, ?_, ?_, Ou.out, HKf.out⟩
                  · rw [← HQ.out.1, ← HQ.out.2.1, ← HQ.out.2.2, ← HLn.out]
                    rfl
                  · rw [← HLn.out, ← HFin.out]
                    exact HFv.out
end Go.Proofs.YtngchjejmnfanaaGreat.Au
namespace Go.Proofs.YtngchjejmnfanaaGreat.Au
open Go.RowKit Co
set_option linter.unusedVariables false
set_option linter.unusedSimpArgs false
theorem rec_ne_same (x : Rf) (W : World) : (binOp .neq 84 (.agg #[.int .i64 x.1, .int .i64 x.2]) (.agg #[.int .i64 x.1, .int .i64 x.2])).run Tryz.prog W = .ok (.bool false) W := by
  obtain ⟨a, b⟩ := x
  have h9 := Dk.rec_in 9998 a b a b W
  have e : (a == a && b == b) = true := by simp
  rw [e] at h9
  clear e
  have hu := Tryz.underlying84
  dsimp only
  go_simp
set_option maxRecDepth 100000 in
set_option maxHeartbeats 4000000 in
theorem samerecs_is {w : World} (l : List Rf) (hn : l.length ≤ 57) (A B : Option Addr) (cA cB : Nat) (hA : Reads w A (l.length * 2) (refs l)) (hB : Reads w B (l.length * 2) (refs l)) :
    Calls Tryz.prog 11 #[.slice A l.length cA, .slice B l.length cB] w fun e w' => e = .returned (.bool true) ∧ Keep Nob w w' := by
  have HA := Lib.hid hA
  have HB := Lib.hid hB
  have HN := Lib.hid hn
  clear hA hB hn
  go_enter Tryz.func11, Tryz.ntmps11
  go_wp2_with fail
  go_loopw [5] (fun s5 wx => ∃ k : Nat, k ≤ l.length ∧ s5 = .int .i64 k ∧ Keep Nob w wx) (fun t _ => l.length - (intOf t).toNat)
  case atStart => exact ⟨0, Nat.zero_le _, rfl, Keep.refl _ _⟩
  case round =>
    obtain ⟨k, hk, rfl, hK⟩ := hrel
    have hk57 : k ≤ 57 := by have := HN.out; omega
    by_cases hlt : k < l.length
    · obtain ⟨x, hx⟩ : ∃ x, l[k]? = some x := ⟨_, List.getElem?_eq_getElem hlt⟩
      obtain ⟨ga, oa, hA, ca⟩ := (HA.out.nob hK).lit (by omega)
      obtain ⟨gb, ob, hB, cb⟩ := (HB.out.nob hK).lit (by omega)
      have a0 : wr.cell? ⟨ga, oa + k * 2, none⟩ = some (.int .i64 x.1) := ca (k * 2) _ ((refs_get (j := 0) hx (by decide)).trans rfl)
      have a1 : wr.cell? ⟨ga, oa + k * 2 + 1, none⟩ = some (.int .i64 x.2) := ca (k * 2 + 1) _ ((refs_get (j := 1) hx (by decide)).trans rfl)
      have b0 : wr.cell? ⟨gb, ob + k * 2, none⟩ = some (.int .i64 x.1) := cb (k * 2) _ ((refs_get (j := 0) hx (by decide)).trans rfl)
      have b1 : wr.cell? ⟨gb, ob + k * 2 + 1, none⟩ = some (.int .i64 x.2) := cb (k * 2 + 1) _ ((refs_get (j := 1) hx (by decide)).trans rfl)
      have hne := fun W => rec_ne_same x W
      have HK := Lib.hid hK
      clear ca cb hx hK
      subst hA
      subst hB
      go_wp2_with fail
      go_quiet (fail)
      go_wp2_with fail
      go_roundw
      case rel => exact ⟨k + 1, by omega, by go_num, HK.out.drewN _⟩
      case measure => simp [intOf]; omega
    · go_wp2
      go_ret
      exact ⟨rfl, hK⟩
set_option maxRecDepth 100000 in
set_option maxHeartbeats 8000000 in
theorem sfaults_is {w : World} (b : List UInt8) (hb6 : b.length ≤ 600) :
    Calls Tryz.prog 25 #[.string (str b)] w fun e w' => ∃ B cap, e = .returned (.slice B (faultsOf b).length cap) ∧ Reads w' B (faultsOf b).length (strs (faultsOf b)) ∧ Keep (From w.heap.size) w w' := by
  by_cases h : b.length = 492
  · by_cases hg : bads b = []
    · have e : faultsOf b = told (asked b) := if_pos ⟨h, hg⟩
      rw [e]
      exact sfaults_good h hg (records_is h)
    · have e : faultsOf b = [sBad] := if_neg (fun h => hg h.2)
      rw [e]
      have hrec := records_is (w := w) h
      have hpos : (0 : Int) < ((bads b).length : Int) := by
        have : (bads b).length ≠ 0 := fun e => hg (List.eq_nil_of_length_eq_zero e)
        omega
      have hsz : (str b).size = 492 := by rw [str_size, h]
      have hc1 := cellsP b 8
      have hc2 := cellsF b 12
      have hc3 := cellsRr b 4
      have HC := Lib.hid (And.intro hc1 (And.intro hc2 hc3))
      have HZ := Lib.hid (And.intro (cellsP b 0) (And.intro (cellsF b 0) (cellsRr b 0)))
      have HE := Lib.hid (And.intro (cP_zero b) (And.intro (cF_zero b) (cR_zero b)))
      generalize cP b 8 = q1 at *
      generalize cF b 12 = q2 at *
      generalize cR b 4 = q3 at *
      generalize cP b 0 = z1 at *
      generalize cF b 0 = z2 at *
      generalize cR b 0 = z3 at *
      generalize bads b = bl at *
      generalize str b = sb at *
      clear h hb6 e hg hc1 hc2 hc3
      go_enter Tryz.func25, Tryz.ntmps25
      go_wp2_with fail
      refine hrec.mono ?_; rintro e w1 ⟨D, cd, rfl, hV, hO, k1⟩
      clear hV hO hrec
      go_upto_region 3 with (first
        | (refine flatA8.wpList_al rfl rfl ?_; intro x3 hx3 kx3 sx3; clear sx3; rw [← HE.out.1] at hx3)
        | (refine flatA12.wpList_al rfl rfl ?_; intro x4 hx4 kx4 sx4; clear sx4; rw [← HE.out.2.1] at hx4; replace hx3 := hx3.nob kx4)
        | (refine flatA4.wpList_al rfl rfl ?_; intro x5 hx5 kx5 sx5; clear sx5; rw [← HE.out.2.2] at hx5; replace hx3 := hx3.nob kx5; replace hx4 := hx4.nob kx5)
        | (refine flatA8.wpList_st rfl rfl rfl rfl HC.out.1 HZ.out.1 hx3 ?_; intro y3 hy3 ky3 ty3; clear ty3; replace hx4 := hx4.keep ky3 (hx4.ne_ hx3 (by decide)); replace hx5 := hx5.keep ky3 (hx5.ne_ hx3 (by decide)))
        | (refine flatA12.wpList_st rfl rfl rfl rfl HC.out.2.1 HZ.out.2.1 hx4 ?_; intro y4 hy4 ky4 ty4; clear ty4; replace hx5 := hx5.keep ky4 (hx5.ne_ hx4 (by decide)))
        | (refine flatA4.wpList_st rfl rfl rfl rfl HC.out.2.2 HZ.out.2.2 hx5 ?_; intro y5 hy5 ky5 ty5; clear ty5))
      have HK := Lib.hid (show Keep (From w.heap.size) w y5 from (((((((k1.nob kx3).nob kx4).nob kx5).at_ ky3 k1.size).at_ ky4 (Nat.le_trans k1.size kx3.size)).at_ ky5 (Nat.le_trans k1.size (Nat.le_trans kx3.size kx4.size)))))
      clear hx3 hx4 hx5 kx3 kx4 kx5 ky3 ky4 ky5 hy3 hy4 hy5 k1
      have bb := Blk.new y5 9 [.string sBad]
      have F := Lib.hid (show Reads (y5.alloc (.cells #[.string sBad] 9)) (some ⟨y5.heap.size, 0, none⟩) 1 (strs [sBad]) ∧ Keep (From w.heap.size) w (y5.alloc (.cells #[.string sBad] 9)) from ⟨reads_all bb rfl, HK.out.nob ((Keep.refl Nob y5).alloc _)⟩)
      clear bb
      go_wp2
      go_ret
      exact ⟨_, 1, rfl, F.out⟩
  · have e : faultsOf b = [sBad] := if_neg (fun h2 => h h2.1)
    rw [e]
    obtain ⟨n, hn⟩ : ∃ n, b.length = n := ⟨_, rfl⟩
    have hsz : (str b).size = n := by rw [str_size, hn]
    rw [hn] at h hb6
    have h1 : ((n : Int) != 492) = true := by rw [bne_iff_ne]; omega
    have bb := Blk.new w 9 [.string sBad]
    have F := Lib.hid (show Reads (w.alloc (.cells #[.string sBad] 9)) (some ⟨w.heap.size, 0, none⟩) 1 (strs [sBad]) ∧ Keep (From w.heap.size) w (w.alloc (.cells #[.string sBad] 9)) from ⟨reads_all bb rfl, (Keep.refl (From w.heap.size) w).alloc _⟩)
    generalize str b = sb at *
    clear bb e hn h
    go_enter Tryz.func25, Tryz.ntmps25
    go_wp2
    go_ret
    exact ⟨_, 1, rfl, F.out⟩
end Go.Proofs.YtngchjejmnfanaaGreat.Au
