/- The walk of ProcFamily. Written by c17/genh.py. -/
import Derived.BigRegion
import Derived.Test.YtgcikpgcoemfnaaGreatRows
import Derived.Shelf.SlSortCmp.WholeK
import Derived.Deep.RegionHeld3
import Derived.Deep.QuietTactic
import Derived.BigQuiet
import Derived.StillTailTactics
import Derived.Lib.TrailingZeros
import Derived.Laws.ResultCell
import Derived.Shelf.Spec.TrailingZeros
import Derived.Test.YtgcikpgcoemfnaaGreatPu0
import Derived.Test.YtgcikpgcoemfnaaGreatPyx0
import Derived.Test.YtgcikpgcoemfnaaGreatPyx1
import Derived.Test.YtgcikpgcoemfnaaGreatPu4
import Derived.Test.YtgcikpgcoemfnaaGreatPu18
import Derived.Test.YtgcikpgcoemfnaaGreatPu19
import Derived.Test.YtgcikpgcoemfnaaGreatPu1
import Derived.Test.YtgcikpgcoemfnaaGreatPu7
import Derived.Test.YtgcikpgcoemfnaaGreatPu11
import Derived.Test.YtgcikpgcoemfnaaGreatPu21
import Derived.Test.YtgcikpgcoemfnaaGreatPu22
import Derived.Test.YtgcikpgcoemfnaaGreatPu12
import Derived.Test.YtgcikpgcoemfnaaGreatPyx2
import Derived.Test.YtgcikpgcoemfnaaGreatPu14
import Derived.Test.YtgcikpgcoemfnaaGreatPu13
import Derived.Test.YtgcikpgcoemfnaaGreatPu15
import Derived.Test.YtgcikpgcoemfnaaGreatPu16
import Derived.Test.YtgcikpgcoemfnaaGreatPu24
import Derived.Test.YtgcikpgcoemfnaaGreatPu23
import Derived.Test.YtgcikpgcoemfnaaGreatPu5
import Derived.Test.YtgcikpgcoemfnaaGreatPu8
import Derived.Test.YtgcikpgcoemfnaaGreatPu20
import Derived.Test.YtgcikpgcoemfnaaGreatPu2
import Derived.Test.YtgcikpgcoemfnaaGreatPu9
import Derived.Test.YtgcikpgcoemfnaaGreatPu25
import Derived.Test.YtgcikpgcoemfnaaGreatPu10
import Derived.Test.YtgcikpgcoemfnaaGreatPu26
import Derived.Test.YtgcikpgcoemfnaaGreatPu27
import Derived.Test.YtgcikpgcoemfnaaGreatPu6
import Derived.Test.YtgcikpgcoemfnaaGreatPu28
import Derived.Test.YtgcikpgcoemfnaaGreatPu17
import Derived.Test.YtgcikpgcoemfnaaGreatPu29
import Derived.Test.YtgcikpgcoemfnaaGreatPu31
import Derived.Test.YtgcikpgcoemfnaaGreatPu30
import Derived.Test.YtgcikpgcoemfnaaGreatPu3
import Derived.Test.YtgcikpgcoemfnaaGreatPu32
import Derived.Test.YtgcikpgcoemfnaaGreatPu33
import Derived.Test.YtgcikpgcoemfnaaGreatPyx4
import Derived.Test.YtgcikpgcoemfnaaGreatPyx3
set_option linter.unusedVariables false
set_option linter.unusedSimpArgs false
namespace Go.Proofs.YtgcikpgcoemfnaaGreat.Pr
open Go.RowKit Co Pn
theorem ints_at' {l : List Int} {k : Nat} {x : Int} (h : l[k]? = some x) : (ints l)[k]? = some (.int .i64 x) := by rw [ints_get, h]; rfl
set_option maxRecDepth 100000 in
set_option maxHeartbeats 8000000 in
theorem family_in (w : World) (a0 : Int) (A1 : Option Addr) (n1 c1 : Nat) (x1 : List Int) (hr1 : Reads w A1 n1 (ints x1)) (A2 : Option Addr) (n2 c2' : Nat) (x2 : List Int) (hr2 : Reads w A2 n2 (ints x2)) (fk : Bool) :
  Calls Tryz.prog 6 #[.int .i64 a0, .slice A1 n1 c1, .slice A2 n2 c2', .bool fk] w fun e w' => e = .returned (.bool true) ∧ Below w.heap.size w w' := by
 have HV0 := Lib.hid (cellsV 0 0 false)
 have HZ2 := Lib.hid (cellsI (n := 16) (l := Cd.noP) rfl)
 have hf0 := fieldR0
 have hf1 := fieldR1
 have hx1l : x1.length = n1 := by simpa using hr1.1
 have hx2l : x2.length = n2 := by simpa using hr2.1
 have HL1 := Lib.hid hx1l
 have HL2 := Lib.hid hx2l
 obtain ⟨m, hm⟩ : ∃ m : Nat, a0 % 256 % 6 = (m : Int) := ⟨(a0 % 256 % 6).toNat, by omega⟩
 have hm5 : m ≤ 5 := by omega
 have HKid := Lib.hid (cellsI (n := 16) (l := kid 0) rfl)
 clear hx1l hx2l
 go_enter Tryz.func6, Tryz.ntmps6
 go_wp2_with fail
 refine (first_is w).mono ?_; rintro e w1 ⟨g0, c0, rfl, hc0, hg0, k1⟩
 go_wp2_with fail
 refine (fill_is _ c0 firstB first_len hc0.reads).mono ?_; rintro e W0 ⟨w2, N1, K, C, bt, k2, pq, R, Ag, ng, cg, g2, B, c2, rfl, kk2, hF⟩
 have HBr := Lib.hid (show C.brs.length = 2 by rw [hF.brs]; rfl)
 have H := Lib.hid hF.ks
 have HT := Lib.hid (hF.ks.still (Keep.refl Nob W0))
 have HFin := Lib.hid (fun W S (t : Kt (fun _ => True) 2560 W0 K C (src2 0) S W) => from_join2 k1 (from_join kk2 (hF.fin t)))
 have hsz0 := Nat.le_refl W0.heap.size
 have HX1 := Lib.hid (fun W S (t : Kt (fun _ => True) 2560 W0 K C (src2 0) S W) => (Reads.from_ hr1 (from_join2 k1 (from_join kk2 (hF.fin t))) : Reads W A1 n1 (ints x1)))
 have HX2 := Lib.hid (fun W S (t : Kt (fun _ => True) 2560 W0 K C (src2 0) S W) => (Reads.from_ hr2 (from_join2 k1 (from_join kk2 (hF.fin t))) : Reads W A2 n2 (ints x2)))
 clear hF hc0 k1 kk2 hg0 hr1 hr2
 have HT := Lib.hid (show Kt (fun _ => True) 2560 W0 K C (src2 0) (stOf (FullT (List.replicate 0 1))) W0 by
  show Kt _ _ _ _ _ _ (stOf (FullT [])) _
  rw [full0]; exact HT.out)
 go_upto_region 5 with fail
 obtain ⟨nn, hnn⟩ : ∃ nn : Nat, (m : Int) + 1 = (nn : Int) := ⟨m + 1, by omega⟩
 rw [hnn]
 have h1n : 1 ≤ nn ∧ nn ≤ 6 := by omega
 clear hm hm5 hnn hsz0
 go_wp2_with fail
 go_loopw [13] (fun s13 wx => ∃ (i : Nat), i ≤ nn ∧ s13 = .int .i64 i ∧ Hid (Kt (fun _ => True) 2560 W0 K C (src2 0) (stOf (FullT (List.replicate i 1))) wx)) (fun s13 _ => nn - (intOf s13).toNat)
 case atStart => exact ⟨0, by omega, rfl, HT⟩
 case round =>
  clear HT
  obtain ⟨i, hin, rfl, HT⟩ := hrel
  by_cases hlt : i < nn
  ·have HFk := Lib.hid (show forkT (FullT (List.replicate i 1)) 0 = (FullT (List.replicate (i + 1) 1), (i : Int) + 1, 0) by
    have := full_step (List.replicate i 1) (by rw [List.length_replicate]; omega) 0 (by omega)
    rw [List.length_replicate] at this
    rw [List.replicate_succ']
    exact this)
   have HVr := Lib.hid (cellsV ((i : Int) + 1) 0 false)
   go_wp2_with fail
   have hc := tfork_is HT.out HBr.out 0 (by decide) ((i : Int) + 1) 0 HFk.out
   unfold rv at hc
   refine hc.mono ?_; rintro e w101 ⟨rfl, t101, kp101⟩
   clear hc
   have HT101 := Lib.hid t101
   have hsz101 := t101.kp.size
   clear t101 kp101
   go_upto_region 9 with (first
    | (refine flatV.wpList_al rfl rfl ?_; intro wa102 ha102 ka102 sa102; clear sa102)
    | (refine flatV.wpList_st rfl rfl rfl rfl HVr.out HV0.out ha102 ?_; intro wb102 hb102 kb102 sb102; clear sb102))
   have HT102 := Lib.hid ((HT101.out.nob ka102).st H.out ha102 (by decide) hsz101 kb102)
   have HB102 := Lib.hid hb102
   have hge102 := hsz101
   generalize w101.heap.size = g102 at *
   clear ha102 ka102 hb102 kb102  HT101
   have c103 : wb102.cell? ⟨g102, 1, none⟩ = some (.int .i64 0) := HB102.out.cell 1
   have c104 : wb102.cell? ⟨g102, 0, none⟩ = some (.int .i64 ((i : Int) + 1)) := HB102.out.cell 0
   go_wp2_with fail
   go_roundw
   case rel => exact ⟨i + 1, by omega, by go_num, HT102⟩
   case measure => simp [intOf]; omega
  ·obtain rfl : i = nn := by omega
   have HFam := Lib.hid (fam_full h1n.1 h1n.2)
   have hn7 : (i : Int) < 7 := by omega
   go_upto_region 12 with fail
   go_cut [69] from 65 to 69 (fun s69 wx => s69 = .bool fk ∧ wx = wr)
   case first =>
    cases fk with
    | true => go_wp2_with fail; go_meet; exact ⟨rfl, rfl⟩
    | false => go_wp2_with fail; go_meet; exact ⟨rfl, rfl⟩
   case rest =>
   obtain ⟨rfl, hw⟩ := hcut
   have hw := hw.symm
   subst hw
   go_upto_if 69 with fail
   go_cut [15, 16] from 70 to 81 (fun s15 _ wx => ∃ xt : Int, s15 = .int .i64 xt ∧ Hid (xt = if fk then 1 else 0) ∧ Hid (Kt (fun _ => True) 2560 W0 K C (src2 0) (stOf (FamT (List.replicate i true) fk)) wx))
   case first =>
    cases fk with
    | true =>
     have HFk := Lib.hid (show forkT (FullT (List.replicate i 1)) 1 = (FullT (List.replicate i 1 ++ [2]), (i : Int) + 1, 0) by
      have := full_step (List.replicate i 1) (by rw [List.length_replicate]; omega) 1 (by rw [List.length_replicate]; omega)
      rw [List.length_replicate] at this
      exact this)
     have HVr := Lib.hid (cellsV ((i : Int) + 1) 0 false)
     go_wp2_with fail
     have hc := tfork_is HT.out HBr.out 1 (by decide) ((i : Int) + 1) 0 HFk.out
     unfold rv at hc
     refine hc.mono ?_; rintro e w141 ⟨rfl, t141, kp141⟩
     clear hc
     have HT141 := Lib.hid t141
     have hsz141 := t141.kp.size
     clear t141 kp141
     go_upto_region 14 with (first
      | (refine flatV.wpList_al rfl rfl ?_; intro wa142 ha142 ka142 sa142; clear sa142)
      | (refine flatV.wpList_st rfl rfl rfl rfl HVr.out HV0.out ha142 ?_; intro wb142 hb142 kb142 sb142; clear sb142))
     have HT142 := Lib.hid ((HT141.out.nob ka142).st H.out ha142 (by decide) hsz141 kb142)
     have HB142 := Lib.hid hb142
     have hge142 := hsz141
     generalize w141.heap.size = g142 at *
     clear ha142 ka142 hb142 kb142  HT141
     have c143 : wb142.cell? ⟨g142, 1, none⟩ = some (.int .i64 0) := HB142.out.cell 1
     have c144 : wb142.cell? ⟨g142, 0, none⟩ = some (.int .i64 ((i : Int) + 1)) := HB142.out.cell 0
     go_wp2_with fail
     go_meet
     exact ⟨_, rfl, Lib.hid rfl, Lib.hid (show Kt (fun _ => True) 2560 W0 K C (src2 0) (stOf (FamT (List.replicate i true) true)) _ from HFam.out.2 ▸ HT142.out)⟩
    | false =>
     go_wp2_with fail
     go_meet
     exact ⟨_, rfl, Lib.hid rfl, Lib.hid (show Kt (fun _ => True) 2560 W0 K C (src2 0) (stOf (FamT (List.replicate i true) false)) _ from HFam.out.1 ▸ HT.out)⟩
   case rest =>
   obtain ⟨xt, rfl, HXt, HT⟩ := hcut
   have HT := Lib.hid (show Kt (fun _ => True) 2560 W0 K C (src2 0) (stOf (FamT (alO i (runL i)) fk)) _ by rw [alO_full]; exact HT.out)
   clear HFam
   go_wp2_with fail
   go_loopw [17, 18] (fun s17 s18 wx => ∃ (q : Nat) (A : Option Addr) (cap : Nat), q ≤ i ∧ s18 = .int .i64 ((q : Int) + 1) ∧ s17 = .slice A q cap ∧ Hid (Vec wx 3 1 A q cap (ints (runL q)) ∧ ∀ x, Own A x → W0.heap.size ≤ x) ∧ Hid (Kt (fun _ => True) 2560 W0 K C (src2 0) (stOf (FamT (alO i (runL i)) fk)) wx)) (fun _ s18 _ => i + 1 - (intOf s18).toNat)
   case atStart => exact ⟨0, none, 0, by omega, rfl, rfl, Lib.hid ⟨Vec.nil _ _ _, fun x ⟨a, e, _⟩ => (by cases e)⟩, HT⟩
   case round =>
    clear HT
    obtain ⟨q, A, cap, hqi, rfl, rfl, HV, HT⟩ := hrel
    by_cases hlt : q < i
    ·have e1 : (q : Int) + 1 ≤ i := by omega
     go_wp2_with (at_builtin; go_loud (refine wpList_ap rfl _ _ 42 rfl 3 1 8 (.int .i64 0) Tryz.underlying42 infoint rfl (by decide) A q cap _ rfl (HV.out.1.nob ((Keep.refl Nob wr).alloc _)) (some ⟨wr.heap.size, 0, none⟩) 1 1 [.int .i64 ((q : Int) + 1)] rfl _ (Nat.mul_one _) (reads_all (Blk.new wr 3 [.int .i64 ((q : Int) + 1)]) rfl) (by simp [Value.oneCell']) (by unfold maxLen; omega) (by omega) ?_); intro A2 c2 w8 hv2 hk2 ho2)
     have HT8 := Lib.hid ((HT.out.nob ((Keep.refl Nob wr).alloc _)).loc H.out hk2 (fun b hb => by
      obtain ⟨cs, hc⟩ := (HV.out.1.nob ((Keep.refl Nob wr).alloc (.cells #[.int .i64 ((q : Int) + 1)] 3))).blk hb
      exact ⟨HV.out.2 b hb, _, _, hc, by decide⟩))
     have HV8 := Lib.hid (show Vec w8 3 1 A2 (q + 1) c2 (ints (runL (q + 1))) ∧ ∀ x, Own A2 x → W0.heap.size ≤ x from ⟨by
      rw [runL_snoc, show ints (runL q ++ [(q : Int) + 1]) = ints (runL q) ++ [.int .i64 ((q : Int) + 1)] by simp [ints]]
      exact hv2, fun x hx => by
      rcases ho2 x hx with h | h
      ·exact HV.out.2 x h
      ·rw [h]
       have := HT.out.kp.size
       simp only [World.size_alloc] at *
       omega⟩)
     clear hv2 hk2 ho2
     go_roundw
     case rel => exact ⟨q + 1, A2, c2, by omega, by go_num, rfl, HV8, HT8⟩
     case measure => simp [intOf]; omega
    ·obtain rfl : q = i := by omega
     have hnl : ¬ (q : Int) + 1 ≤ q := by omega
     have HLv0 := Lib.hid (And.intro (runL_len q) (Lv.run q))
     clear hnl hqi
     have hnl : ¬ (q : Int) + 1 ≤ q := by omega
     go_wp2_with fail
     clear hnl
     go_loopw [17, 19] (fun s17 s19 wx => ∃ (t ln : Nat) (L : List Int) (A : Option Addr) (cap : Nat), t + ln = q ∧ s19 = .int .i64 t ∧ s17 = .slice A ln cap ∧ Hid (L.length = ln ∧ Lv q L) ∧ Hid (Vec wx 3 1 A ln cap (ints L) ∧ ∀ x, Own A x → W0.heap.size ≤ x) ∧ Hid (Kt (fun _ => True) 2560 W0 K C (src2 0) (stOf (FamT (alO q L) fk)) wx)) (fun _ s19 _ => q - (intOf s19).toNat)
     case atStart => exact ⟨0, q, runL q, A, cap, by omega, rfl, rfl, HLv0, HV, HT⟩
     case round =>
      clear HT HV HLv0
      obtain ⟨t, ln, L, A, cap, htl, rfl, rfl, HL, HV, HT⟩ := hrel
      by_cases hlt : t < q
      ·have hln : 1 ≤ ln ∧ ln ≤ 6 := by omega
       go_upto_if 99 with fail
       go_cut [20] from 99 to 107 (fun s20 wx => ∃ k : Nat, k < ln ∧ s20 = .int .i64 k ∧ wx = wr)
       case first =>
        by_cases h1 : t < n1
        ·have e1 : (t : Int) < n1 := by omega
         obtain ⟨x, hx⟩ : ∃ x, x1[t]? = some x := ⟨_, List.getElem?_eq_getElem (by rw [HL1.out]; exact h1)⟩
         obtain ⟨b, off, hA, hcl⟩ := (HX1.out _ _ HT.out).lit (show 0 < n1 by omega)
         have cx : wr.cell? ⟨b, off + t, none⟩ = some (.int .i64 x) := hcl t _ (ints_at' hx)
         subst hA
         have hl0 : ¬ ((ln : Int) = 0) := by omega
         have hx0 : 0 ≤ x % 256 := by omega
         have hkb : 0 ≤ x % 256 % (ln : Int) ∧ x % 256 % (ln : Int) < ln := ⟨Int.emod_nonneg _ (by omega), Int.emod_lt_of_pos _ (by omega)⟩
         obtain ⟨k, hk⟩ : ∃ k : Nat, x % 256 % (ln : Int) = (k : Int) := ⟨(x % 256 % (ln : Int)).toNat, by omega⟩
         have hk2 : (x % 256).tmod (ln : Int) = (k : Int) := by rw [Int.tmod_eq_emod_of_nonneg hx0]; exact hk
         have HK := Lib.hid (show k < ln by omega)
         clear hkb hcl hx
         go_wp2_with fail
         go_meet
         exact ⟨k, HK.out, rfl, rfl⟩
        ·have h1 : ¬ (t : Int) < n1 := by omega
         have HK := Lib.hid (show 0 < ln by omega)
         go_wp2_with fail
         go_meet
         exact ⟨0, HK.out, rfl, rfl⟩
       case rest =>
       obtain ⟨k, hkl, rfl, hw⟩ := hcut
       have hw := hw.symm
       subst hw
       go_upto_if 111 with fail
       go_cut [21] from 111 to 115 (fun s21 wx => ∃ code : Int, s21 = .int .i64 code ∧ wx = wr)
       case first =>
        by_cases h1 : t < n2
        ·have e1 : (t : Int) < n2 := by omega
         obtain ⟨x, hx⟩ : ∃ x, x2[t]? = some x := ⟨_, List.getElem?_eq_getElem (by rw [HL2.out]; exact h1)⟩
         obtain ⟨b, off, hA, hcl⟩ := (HX2.out _ _ HT.out).lit (show 0 < n2 by omega)
         have cx : wr.cell? ⟨b, off + t, none⟩ = some (.int .i64 x) := hcl t _ (ints_at' hx)
         subst hA
         clear hcl hx
         go_wp2_with fail
         go_meet
         exact ⟨x, rfl, rfl⟩
        ·have h1 : ¬ (t : Int) < n2 := by omega
         go_wp2_with fail
         go_meet
         exact ⟨0, rfl, rfl⟩
       case rest =>
       obtain ⟨code, rfl, hw⟩ := hcut
       have hw := hw.symm
       subst hw
       obtain ⟨xv, hxv⟩ : ∃ xv, L[k]? = some xv := ⟨_, List.getElem?_eq_getElem (by rw [HL.out.1]; exact hkl)⟩
       have hxb := HL.out.2.inn xv (List.mem_of_getElem? hxv)
       obtain ⟨j, rfl⟩ : ∃ j : Nat, xv = (j : Int) + 1 := ⟨(xv - 1).toNat, by omega⟩
       have hjq : j < q := by omega
       obtain ⟨g, cur, hA, _, _, hcap, _⟩ := HV.out.1.at_ (show 0 < ln by omega)
       obtain ⟨b', off', hA', hcl⟩ := HV.out.1.reads.lit (show 0 < ln * 1 by omega)
       rw [hA] at hA'
       cases hA'
       have cx : wr.cell? ⟨g, 0 + k, none⟩ = some (.int .i64 ((j : Int) + 1)) := hcl k _ (ints_at' hxv)
       rw [Nat.zero_add] at cx
       subst hA
       go_upto_region 31 with fail
       clear cx hcl
       have KD := Keep.nobdrew wr
       have HVd := Lib.hid (HV.out.1.nob KD)
       have HTd := Lib.hid (HT.out.nob KD)
       have HOw := Lib.hid HV.out.2
       have HLl := Lib.hid HL.out.1
       have hk1 : k + 1 ≤ ln := by omega
       have hw1 : IntKind.i64.wrap ((k : Int) + 1) = ((k + 1 : Nat) : Int) := by rw [IntKind.wrap_i64]; omega
       have hkc : k ≤ cap := by omega
       refine wp_region_held_drew (S := fun _ => True) (by kernel_rfl) trivial (fun hHeld => ?_)
       generalize wr.drew = wd at *
       refine wpAnyH_take (i := 1) (v := ?_) rfl (by kernel_rfl) (by kernel_rfl) (by kernel_rfl) (fun _ _ _ h => h) (Or.inl ⟨by rfl, ?_⟩) (by assumption) ?_
       rotate_left
       ·(intro w hSw; (try dsimp only at hSw); go_simp; try with_reducible rfl)
       try simp only [Act.put, List.getElem_toArray, List.getElem_cons_zero, List.getElem_cons_succ, List.setIfInBounds_toArray, List.set_cons_zero, List.set_cons_succ]
       refine wpAnyH_take (i := 2) (v := ?_) rfl (by kernel_rfl) (by kernel_rfl) (by kernel_rfl) (fun _ _ _ h => h) (Or.inl ⟨by rfl, ?_⟩) (by assumption) ?_
       rotate_left
       ·(intro w hSw; (try dsimp only at hSw); go_simp; try with_reducible rfl)
       try simp only [Act.put, List.getElem_toArray, List.getElem_cons_zero, List.getElem_cons_succ, List.setIfInBounds_toArray, List.set_cons_zero, List.set_cons_succ]
       refine wpAnyH_take (i := 3) (v := ?_) rfl (by kernel_rfl) (by kernel_rfl) (by kernel_rfl) (fun _ _ _ h => h) (Or.inl ⟨by rfl, ?_⟩) (by assumption) ?_
       rotate_left
       ·(intro w hSw; (try dsimp only at hSw); refine exec_hi (x := .tmp 121) (hi := .tmp 122) ?_ (some ⟨g, 0, none⟩) ln cap k ?_ ?_ hkc <;> rfl)
       try simp only [Act.put, List.getElem_toArray, List.getElem_cons_zero, List.getElem_cons_succ, List.setIfInBounds_toArray, List.set_cons_zero, List.set_cons_succ]
       refine wpAnyH_take (i := 5) (v := ?_) rfl (by kernel_rfl) (by kernel_rfl) (by kernel_rfl) (fun _ _ _ h => h) (Or.inl ⟨by rfl, ?_⟩) (by assumption) ?_
       rotate_left
       ·(intro w hSw; (try dsimp only at hSw); go_simp; try with_reducible rfl)
       try simp only [Act.put, List.getElem_toArray, List.getElem_cons_zero, List.getElem_cons_succ, List.setIfInBounds_toArray, List.set_cons_zero, List.set_cons_succ]
       refine wpAnyH_take (i := 6) (v := ?_) rfl (by kernel_rfl) (by kernel_rfl) (by kernel_rfl) (fun _ _ _ h => h) (Or.inl ⟨by rfl, ?_⟩) (by assumption) ?_
       rotate_left
       ·(intro w hSw; (try dsimp only at hSw); go_simp; try with_reducible rfl)
       try simp only [Act.put, List.getElem_toArray, List.getElem_cons_zero, List.getElem_cons_succ, List.setIfInBounds_toArray, List.set_cons_zero, List.set_cons_succ]
       refine wpAnyH_take (i := 7) (v := ?_) rfl (by kernel_rfl) (by kernel_rfl) (by kernel_rfl) (fun _ _ _ h => h) (Or.inl ⟨by rfl, ?_⟩) (by assumption) ?_
       rotate_left
       ·(intro w hSw; (try dsimp only at hSw); go_simp; try with_reducible rfl)
       try simp only [Act.put, List.getElem_toArray, List.getElem_cons_zero, List.getElem_cons_succ, List.setIfInBounds_toArray, List.set_cons_zero, List.set_cons_succ]
       refine wpAnyH_take (i := 8) (v := ?_) rfl (by kernel_rfl) (by kernel_rfl) (by kernel_rfl) (fun _ _ _ h => h) (Or.inl ⟨by rfl, ?_⟩) (by assumption) ?_
       rotate_left
       ·(intro w hSw; (try dsimp only at hSw); refine exec_lo (x := .tmp 125) (lo := .tmp 127) ?_ (some ⟨g, 0, none⟩) ln cap (k + 1) ?_ ?_ hk1 <;> rfl)
       try simp only [Act.put, List.getElem_toArray, List.getElem_cons_zero, List.getElem_cons_succ, List.setIfInBounds_toArray, List.set_cons_zero, List.set_cons_succ]
       refine wpAnyH_ready (rs := [0]) (by kernel_rfl) (by simp) ?_
       refine AllReadyH.cons rfl (fun K hK => ?_) AllReadyH.nil
       have ka := (Keep.refl Nob wd).alloc (.cells #[] 3)
       have nb : Blk (wd.alloc (.cells #[] 3)) wd.heap.size 3 [] := Blk.new wd 3 _
       have hsd := HTd.out.kp.size
       have hgd : g < wd.heap.size := HVd.out.lt g ⟨_, rfl, rfl⟩
       go_simp
       refine hK.out _ _ ?_ (fun hHeld => ?_)
       ·exact trivial
       clear hK K
       try simp only [Act.put, List.getElem_toArray, List.getElem_cons_zero, List.getElem_cons_succ, List.setIfInBounds_toArray, List.set_cons_zero, List.set_cons_succ]
       have HV51 := Lib.hid (HVd.out.nob ka)
       have HT51 := Lib.hid (HTd.out.nob ka)
       generalize wd.alloc (.cells #[] 3) = w51 at *
       generalize wd.heap.size = g51 at *
       have HE51 := Lib.hid (show Vec w51 3 1 (some ⟨g51, 0, none⟩) 0 0 [] from Vec.of_blk nb rfl (by decide))
       have HB51 := Lib.hid nb
       clear nb ka HVd HTd
       refine wpAnyH_ready (rs := [4]) (by kernel_rfl) (by simp) ?_
       refine AllReadyH.cons rfl (fun K hK => ?_) AllReadyH.nil
       refine Qu.step_ap (by rfl) _ _ 42 (by rfl) 3 1 8 (.int .i64 0) Tryz.underlying42 infoint (by rfl) (by decide) (some ⟨g51, 0, none⟩) 0 0 [] (by rfl) HE51.out (hdI (some ⟨g, 0, none⟩) cap 0) k cap (ints (L.take k)) (by rfl) k (Nat.mul_one _) (reads_hi HV51.out HLl.out (by omega)) (ints_one _) (by unfold maxLen; omega) (by omega) ?_; intro A5 c5 w52 hv5 hk5 ho5
       have HT52 := Lib.hid (HT51.out.loc H.out hk5 (fun b hb => by obtain ⟨a, e, h⟩ := hb; cases e; cases h; exact ⟨hsd, _, _, HB51.out, by decide⟩))
       have HV52 := Lib.hid (HV51.out.keep hk5 (fun y hy e => by obtain ⟨a, e1, h1⟩ := e; cases e1; obtain ⟨a2, e2, h2⟩ := hy; cases e2; dsimp only at h1 h2; omega))
       have HE52 := Lib.hid (show Vec w52 3 1 A5 k c5 (ints (L.take k)) from by have hv := hv5; rw [Nat.zero_add, List.nil_append] at hv; exact hv)
       have HO52 := Lib.hid (show ∀ x, Own A5 x → W0.heap.size ≤ x from fun x hx => (ho5 x hx).elim (fun ⟨a, e, h⟩ => by cases e; cases h; exact hsd) (fun e => by have := HT51.out.kp.size; omega))
       clear hv5 hk5 ho5
       try simp only [Nat.zero_add]
       refine hK.out _ _ ?_ (fun hHeld => ?_)
       ·exact trivial
       clear hK K
       try simp only [Act.put, List.getElem_toArray, List.getElem_cons_zero, List.getElem_cons_succ, List.setIfInBounds_toArray, List.set_cons_zero, List.set_cons_succ]
       refine wpAnyH_ready (rs := [9]) (by kernel_rfl) (by simp) ?_
       refine AllReadyH.cons rfl (fun K hK => ?_) AllReadyH.nil
       refine Qu.step_ap (by rfl) _ _ 42 (by rfl) 3 1 8 (.int .i64 0) Tryz.underlying42 infoint (by rfl) (by decide) A5 k c5 (ints (L.take k)) (by rfl) HE52.out (hdI (some ⟨g, 0, none⟩) cap (k + 1)) (ln - (k + 1)) (cap - (k + 1)) (ints (L.drop (k + 1))) (by rfl) (ln - (k + 1)) (Nat.mul_one _) (reads_lo HV52.out HLl.out (by omega)) (ints_one _) (by unfold maxLen; omega) (by omega) ?_; intro A6 c6 w60 hv6 hk6 ho6
       have HT60 := Lib.hid (HT52.out.loc H.out hk6 (fun b hb => by obtain ⟨cs, hc⟩ := HE52.out.blk hb; exact ⟨HO52.out b hb, _, _, hc, by decide⟩))
       have HO60 := Lib.hid (show ∀ x, Own A6 x → W0.heap.size ≤ x from fun x hx => (ho6 x hx).elim (HO52.out x) (fun e => by have := HT52.out.kp.size; omega))
       obtain ⟨l2, hl2⟩ : ∃ l2, k + (ln - (k + 1)) = l2 := ⟨_, rfl⟩
       rw [hl2] at hv6 ⊢
       have HV60 := Lib.hid (show Vec w60 3 1 A6 l2 c6 (ints (L.take k ++ L.drop (k + 1))) from by rw [show ints (L.take k ++ L.drop (k + 1)) = ints (L.take k) ++ ints (L.drop (k + 1)) by unfold ints; exact List.map_append]; exact hv6)
       have hl2n : l2 + 1 = ln := by omega
       clear hv6 hk6 ho6 hl2
       refine hK.out _ _ ?_ (fun hHeld => ?_)
       ·exact trivial
       clear hK K
       try simp only [Act.put, List.getElem_toArray, List.getElem_cons_zero, List.getElem_cons_succ, List.setIfInBounds_toArray, List.set_cons_zero, List.set_cons_succ]
       refine wpAnyH_take (i := 10) (v := ?_) rfl (by kernel_rfl) (by kernel_rfl) (by kernel_rfl) (fun _ _ _ h => h) (Or.inl ⟨by rfl, ?_⟩) (by assumption) ?_
       rotate_left
       ·(intro w hSw; (try dsimp only at hSw); go_simp; try with_reducible rfl)
       try simp only [Act.put, List.getElem_toArray, List.getElem_cons_zero, List.getElem_cons_succ, List.setIfInBounds_toArray, List.set_cons_zero, List.set_cons_succ]
       refine wpAnyH_done (by kernel_rfl) ?_ _
       have hlp : Lv q L := HL.out.2
       have hxm : ((j : Int) + 1) ∈ L := List.mem_of_getElem? hxv
       have hal := alO_len q L
       have hcm : (alO q L, fk, j) ∈ combos := mem_combos (by rw [hal]; exact h1n.1) (by rw [hal]; exact h1n.2) (by rw [hal]; exact hjq) (by rw [List.getD_eq_getElem?_getD, alO_get L hjq]; exact decide_eq_true hxm)
       have hset := alO_set (n := q) hlp.nd hxv
       have hLe := hlp.erase k
       have hLn : (L.take k ++ L.drop (k + 1)).length = l2 := by
        have := HLl.out
        rw [List.length_append, List.length_take, List.length_drop]
        omega
       have HL2n := Lib.hid (show Hid ((L.take k ++ L.drop (k + 1)).length = l2 ∧ Lv q (L.take k ++ L.drop (k + 1))) from Lib.hid ⟨hLn, hLe⟩)
       obtain ⟨c8, hc8⟩ : ∃ c8, code8 code = c8 := ⟨_, rfl⟩
       have hcin := code8_in code
       have HEx := Lib.hid (show exitT (FamT (alO q L) fk) ((j : Int) + 1) code = (setpT (FamU (alO q L) fk j) (j + 1) (zom 1 c8), 0) by rw [← hc8]; exact fam_exit hcm (by omega) code)
       have HWt := Lib.hid (show waitT (setpT (FamU (alO q L) fk j) (j + 1) (zom 1 c8)) 0 = (FamT (alO q (L.take k ++ L.drop (k + 1))) fk, 256 * ((j : Int) + 1) + c8, 0, false) by rw [fam_wait1 hcm c8, hset])
       have hno := fam_wait2 (al := alO q (L.take k ++ L.drop (k + 1))) fk (by rw [alO_len]; exact h1n.1) (by rw [alO_len]; exact h1n.2)
       rw [alO_any hLe.inn, hLn] at hno
       have HVw := Lib.hid (cellsV (256 * ((j : Int) + 1) + c8) 0 false)
       have HJ := Lib.hid (show -9223372036854775808 ≤ (j : Int) + 1 ∧ (j : Int) + 1 + 1 ≤ 9223372036854775807 by omega)
       rw [hc8] at hcin
       unfold code8 at hc8
       obtain ⟨m1, hm1⟩ : ∃ m1, code.tmod 256 = m1 := ⟨_, rfl⟩
       rw [hm1] at hcin hc8
       have hwa : wrap64 (m1 + 256) = m1 + 256 := by rw [← IntWalk.i64_left, IntKind.wrap_i64]; omega
       have hwb : wrap64 (256 * ((j : Int) + 1)) = 256 * ((j : Int) + 1) := by rw [← IntWalk.i64_left, IntKind.wrap_i64]; omega
       have hwc : wrap64 (256 * ((j : Int) + 1) + c8) = 256 * ((j : Int) + 1) + c8 := by rw [← IntWalk.i64_left, IntKind.wrap_i64]; omega
       have hc8 : Int.tmod (m1 + 256) 256 = c8 := hc8
       have HLt := Lib.hid (And.intro hlt (And.intro hjq hcin))
       have HLn2 := Lib.hid (And.intro hl2n htl)
       clear hl2n htl hlp hxm hal hcm hset hLe hLn hcin hxb hk1 hw1 hkc hjq hsd hgd hcap hxv
       by_cases h2 : 0 < l2
       ·rw [decide_eq_true h2, if_pos rfl] at hno
        have HNo := Lib.hid hno
        have hl2p : (0 : Int) < l2 := by omega
        clear hno h2
        go_wp2_with fail
        have hc := texit_is HT60.out HBr.out ((j : Int) + 1) HJ.out code 0 HEx.out
        unfold rv at hc
        refine hc.mono ?_; rintro e w201 ⟨rfl, t201, kp201⟩
        clear hc
        have HV202 := Lib.hid (kp201.vec H.out HV60.out HO60.out)
        have HT201 := Lib.hid t201
        have hsz201 := t201.kp.size
        clear t201 kp201 HV60 HT60
        go_upto_region 33 with (first
         | (refine flatV.wpList_al rfl rfl ?_; intro wa203 ha203 ka203 sa203; clear sa203)
         | (refine flatV.wpList_st rfl rfl rfl rfl (cellsV 0 0 false) HV0.out ha203 ?_; intro wb203 hb203 kb203 sb203; clear sb203))
        have HV204 := Lib.hid ((HV202.out.nob ka203).keep kb203 (fun y hy e => by have := HV202.out.lt y hy; omega))
        have HT203 := Lib.hid ((HT201.out.nob ka203).st H.out ha203 (by decide) hsz201 kb203)
        have HB203 := Lib.hid hb203
        have hge203 := hsz201
        generalize w201.heap.size = g203 at *
        clear ha203 ka203 hb203 kb203 HV202 HT201
        have c205 : wb203.cell? ⟨g203, 1, none⟩ = some (.int .i64 0) := HB203.out.cell 1
        go_wp2_with fail
        have hc := twait_is HT203.out HBr.out 0 (by decide) (256 * ((j : Int) + 1) + c8) 0 false HWt.out
        unfold rv at hc
        refine hc.mono ?_; rintro e w206 ⟨rfl, t206, kp206⟩
        clear hc
        have HB207 := Lib.hid (kp206.lb H.out HB203.out hge203)
        have HV208 := Lib.hid (kp206.vec H.out HV204.out HO60.out)
        have HT206 := Lib.hid t206
        have hsz206 := t206.kp.size
        clear t206 kp206 HB203 HV204 HT203
        go_upto_region 36 with (first
         | (refine flatV.wpList_al rfl rfl ?_; intro wa209 ha209 ka209 sa209; clear sa209)
         | (refine flatV.wpList_st rfl rfl rfl rfl HVw.out HV0.out ha209 ?_; intro wb209 hb209 kb209 sb209; clear sb209))
        have HB210 := Lib.hid ((HB207.out.nob ka209).keep kb209 (by have := HB207.out.lt; omega))
        have HV211 := Lib.hid ((HV208.out.nob ka209).keep kb209 (fun y hy e => by have := HV208.out.lt y hy; omega))
        have HT209 := Lib.hid ((HT206.out.nob ka209).st H.out ha209 (by decide) hsz206 kb209)
        have HB209 := Lib.hid hb209
        have hge209 := hsz206
        generalize w206.heap.size = g209 at *
        clear ha209 ka209 hb209 kb209 HB207 HV208 HT206
        have c212 : wb209.cell? ⟨g209, 1, none⟩ = some (.int .i64 0) := HB209.out.cell 1
        have c213 : wb209.cell? ⟨g209, 3, none⟩ = some (.bool false) := HB209.out.cell 3
        have c214 : wb209.cell? ⟨g209, 0, none⟩ = some (.int .i64 (256 * ((j : Int) + 1) + c8)) := HB209.out.cell 0
        go_wp2_with fail
        have hc := twait_is HT209.out HBr.out 0 (by decide) 0 0 true HNo.out
        unfold rv at hc
        refine hc.mono ?_; rintro e w215 ⟨rfl, t215, kp215⟩
        clear hc
        have HB216 := Lib.hid (kp215.lb H.out HB210.out hge203)
        have HB217 := Lib.hid (kp215.lb H.out HB209.out hge209)
        have HV218 := Lib.hid (kp215.vec H.out HV211.out HO60.out)
        have HT215 := Lib.hid t215
        have hsz215 := t215.kp.size
        clear t215 kp215 HB210 HB209 HV211 HT209
        go_upto_region 39 with (first
         | (refine flatV.wpList_al rfl rfl ?_; intro wa219 ha219 ka219 sa219; clear sa219)
         | (refine flatV.wpList_st rfl rfl rfl rfl (cellsV 0 0 true) HV0.out ha219 ?_; intro wb219 hb219 kb219 sb219; clear sb219))
        have HB220 := Lib.hid ((HB216.out.nob ka219).keep kb219 (by have := HB216.out.lt; omega))
        have HB221 := Lib.hid ((HB217.out.nob ka219).keep kb219 (by have := HB217.out.lt; omega))
        have HV222 := Lib.hid ((HV218.out.nob ka219).keep kb219 (fun y hy e => by have := HV218.out.lt y hy; omega))
        have HT219 := Lib.hid ((HT215.out.nob ka219).st H.out ha219 (by decide) hsz215 kb219)
        have HB219 := Lib.hid hb219
        have hge219 := hsz215
        generalize w215.heap.size = g219 at *
        clear ha219 ka219 hb219 kb219 HB216 HB217 HV218 HT215
        have c223 : wb219.cell? ⟨g219, 3, none⟩ = some (.bool true) := HB219.out.cell 3
        have c224 : wb219.cell? ⟨g219, 1, none⟩ = some (.int .i64 0) := HB219.out.cell 1
        go_wp2_with fail
        go_roundw
        case rel => exact ⟨t + 1, l2, L.take k ++ L.drop (k + 1), A6, c6, by have := HLn2.out; omega, by go_num, rfl, HL2n.out, Lib.hid ⟨HV222.out, HO60.out⟩, HT219⟩
        case measure => simp [intOf]; omega
       ·rw [decide_eq_false h2, if_neg (by decide)] at hno
        have HNo := Lib.hid hno
        obtain rfl : l2 = 0 := by omega
        clear hno h2
        go_wp2_with fail
        have hc := texit_is HT60.out HBr.out ((j : Int) + 1) HJ.out code 0 HEx.out
        unfold rv at hc
        refine hc.mono ?_; rintro e w261 ⟨rfl, t261, kp261⟩
        clear hc
        have HV262 := Lib.hid (kp261.vec H.out HV60.out HO60.out)
        have HT261 := Lib.hid t261
        have hsz261 := t261.kp.size
        clear t261 kp261 HV60 HT60
        go_upto_region 33 with (first
         | (refine flatV.wpList_al rfl rfl ?_; intro wa263 ha263 ka263 sa263; clear sa263)
         | (refine flatV.wpList_st rfl rfl rfl rfl (cellsV 0 0 false) HV0.out ha263 ?_; intro wb263 hb263 kb263 sb263; clear sb263))
        have HV264 := Lib.hid ((HV262.out.nob ka263).keep kb263 (fun y hy e => by have := HV262.out.lt y hy; omega))
        have HT263 := Lib.hid ((HT261.out.nob ka263).st H.out ha263 (by decide) hsz261 kb263)
        have HB263 := Lib.hid hb263
        have hge263 := hsz261
        generalize w261.heap.size = g263 at *
        clear ha263 ka263 hb263 kb263 HV262 HT261
        have c265 : wb263.cell? ⟨g263, 1, none⟩ = some (.int .i64 0) := HB263.out.cell 1
        go_wp2_with fail
        have hc := twait_is HT263.out HBr.out 0 (by decide) (256 * ((j : Int) + 1) + c8) 0 false HWt.out
        unfold rv at hc
        refine hc.mono ?_; rintro e w266 ⟨rfl, t266, kp266⟩
        clear hc
        have HB267 := Lib.hid (kp266.lb H.out HB263.out hge263)
        have HV268 := Lib.hid (kp266.vec H.out HV264.out HO60.out)
        have HT266 := Lib.hid t266
        have hsz266 := t266.kp.size
        clear t266 kp266 HB263 HV264 HT263
        go_upto_region 36 with (first
         | (refine flatV.wpList_al rfl rfl ?_; intro wa269 ha269 ka269 sa269; clear sa269)
         | (refine flatV.wpList_st rfl rfl rfl rfl HVw.out HV0.out ha269 ?_; intro wb269 hb269 kb269 sb269; clear sb269))
        have HB270 := Lib.hid ((HB267.out.nob ka269).keep kb269 (by have := HB267.out.lt; omega))
        have HV271 := Lib.hid ((HV268.out.nob ka269).keep kb269 (fun y hy e => by have := HV268.out.lt y hy; omega))
        have HT269 := Lib.hid ((HT266.out.nob ka269).st H.out ha269 (by decide) hsz266 kb269)
        have HB269 := Lib.hid hb269
        have hge269 := hsz266
        generalize w266.heap.size = g269 at *
        clear ha269 ka269 hb269 kb269 HB267 HV268 HT266
        have c272 : wb269.cell? ⟨g269, 1, none⟩ = some (.int .i64 0) := HB269.out.cell 1
        have c273 : wb269.cell? ⟨g269, 3, none⟩ = some (.bool false) := HB269.out.cell 3
        have c274 : wb269.cell? ⟨g269, 0, none⟩ = some (.int .i64 (256 * ((j : Int) + 1) + c8)) := HB269.out.cell 0
        go_wp2_with fail
        have hc := twait_is HT269.out HBr.out 0 (by decide) 0 110 false HNo.out
        unfold rv at hc
        refine hc.mono ?_; rintro e w275 ⟨rfl, t275, kp275⟩
        clear hc
        have HB276 := Lib.hid (kp275.lb H.out HB270.out hge263)
        have HB277 := Lib.hid (kp275.lb H.out HB269.out hge269)
        have HV278 := Lib.hid (kp275.vec H.out HV271.out HO60.out)
        have HT275 := Lib.hid t275
        have hsz275 := t275.kp.size
        clear t275 kp275 HB270 HB269 HV271 HT269
        go_upto_region 39 with (first
         | (refine flatV.wpList_al rfl rfl ?_; intro wa279 ha279 ka279 sa279; clear sa279)
         | (refine flatV.wpList_st rfl rfl rfl rfl (cellsV 0 110 false) HV0.out ha279 ?_; intro wb279 hb279 kb279 sb279; clear sb279))
        have HB280 := Lib.hid ((HB276.out.nob ka279).keep kb279 (by have := HB276.out.lt; omega))
        have HB281 := Lib.hid ((HB277.out.nob ka279).keep kb279 (by have := HB277.out.lt; omega))
        have HV282 := Lib.hid ((HV278.out.nob ka279).keep kb279 (fun y hy e => by have := HV278.out.lt y hy; omega))
        have HT279 := Lib.hid ((HT275.out.nob ka279).st H.out ha279 (by decide) hsz275 kb279)
        have HB279 := Lib.hid hb279
        have hge279 := hsz275
        generalize w275.heap.size = g279 at *
        clear ha279 ka279 hb279 kb279 HB276 HB277 HV278 HT275
        have c283 : wb279.cell? ⟨g279, 3, none⟩ = some (.bool false) := HB279.out.cell 3
        have c284 : wb279.cell? ⟨g279, 1, none⟩ = some (.int .i64 110) := HB279.out.cell 1
        go_wp2_with fail
        go_roundw
        case rel => exact ⟨t + 1, 0, L.take k ++ L.drop (k + 1), A6, c6, by have := HLn2.out; omega, by go_num, rfl, HL2n.out, Lib.hid ⟨HV282.out, HO60.out⟩, HT279⟩
        case measure => simp [intOf]; omega
      ·obtain rfl : t = q := by omega
       obtain rfl : ln = 0 := by omega
       have hL0 : L = [] := List.eq_nil_of_length_eq_zero HL.out.1
       have HT := Lib.hid (show Kt (fun _ => True) 2560 W0 K C (src2 0) (stOf (FamT (List.replicate t false) fk)) wr by
        have := HT.out
        rw [hL0, alO_nil] at this
        exact this)
       have HEnd := Lib.hid (fam_end h1n.1 h1n.2)
       clear hL0 HV HL
       go_upto_if 177 with fail
       go_cut [26, 27, 28, 29] from 177 to 208 (fun _ _ _ _ wx => Hid (Kt (fun _ => True) 2560 W0 K C (src2 0) (stOf (T0)) wx))
       case first =>
        cases fk with
        | true =>
         obtain rfl : xt = 1 := by simpa using HXt.out
         have HSf := Lib.hid HEnd.out.2.1
         have HEe := Lib.hid HEnd.out.2.2
         have HFr := Lib.hid (show (stOf T0).p ((t : Int) + 1) = (Cd.noP, 0) from T0_free (k := t + 1) (by omega) (by omega))
         go_wp2_with fail
         have hc := tself_is HT.out ((t : Int) + 1) (by unfold Cd.Wf; omega) (kid 0) 0 HSf.out
         refine hc.mono ?_; rintro e w321 ⟨rfl, t321, kp321⟩
         clear hc
         have HT321 := Lib.hid t321
         have hsz321 := t321.kp.size
         clear t321 kp321
         go_upto_region 43 with (first
          | (refine flatP.wpList_al rfl rfl ?_; intro wa322 ha322 ka322 sa322; clear sa322)
          | (refine flatP.wpList_st rfl rfl rfl rfl HKid.out HZ2.out ha322 ?_; intro wb322 hb322 kb322 sb322; clear sb322))
         have HT322 := Lib.hid ((HT321.out.nob ka322).st H.out ha322 (by decide) hsz321 kb322)
         have HB322 := Lib.hid hb322
         have hge322 := hsz321
         generalize w321.heap.size = g322 at *
         clear ha322 ka322 hb322 kb322  HT321
         have c323 : wb322.cell? ⟨g322, 1, none⟩ = some (.int .i64 0) := HB322.out.cell 1
         go_wp2_with fail
         have hc := texit_is HT322.out HBr.out ((t : Int) + 1) (by omega) 0 0 HEe.out
         unfold rv at hc
         refine hc.mono ?_; rintro e w324 ⟨rfl, t324, kp324⟩
         clear hc
         have HB325 := Lib.hid (kp324.lb H.out HB322.out hge322)
         have HT324 := Lib.hid t324
         have hsz324 := t324.kp.size
         clear t324 kp324 HB322 HT322
         go_wp2_with fail
         have hc := tproc_is HT324.out ((t : Int) + 1) (by unfold Cd.Wf; omega) Cd.noP 0 HFr.out
         refine hc.mono ?_; rintro e w326 ⟨rfl, t326, kp326⟩
         clear hc
         have HB327 := Lib.hid (kp326.lb H.out HB325.out hge322)
         have HT326 := Lib.hid t326
         have hsz326 := t326.kp.size
         clear t326 kp326 HB325 HT324
         go_wp2_with (first
          | (refine flatP.wpList_al rfl rfl ?_; intro wa328 ha328 ka328 sa328; clear sa328)
          | (refine flatP.wpList_st rfl rfl rfl rfl HZ2.out HZ2.out ha328 ?_; intro wb328 hb328 kb328 sb328; clear sb328))
         have HB329 := Lib.hid ((HB327.out.nob ka328).keep kb328 (by have := HB327.out.lt; omega))
         have HT328 := Lib.hid ((HT326.out.nob ka328).st H.out ha328 (by decide) hsz326 kb328)
         have HB328 := Lib.hid hb328
         have hge328 := hsz326
         generalize w326.heap.size = g328 at *
         clear ha328 ka328 hb328 kb328 HB327 HT326
         go_wp2_with fail
         go_meet
         exact HT328
        | false =>
         obtain rfl : xt = 0 := by simpa using HXt.out
         go_wp2_with fail
         go_meet
         exact Lib.hid (HEnd.out.1 ▸ HT.out)
       case rest =>
       have HT := hcut
       clear hcut
       go_wp2_with fail
       go_loopw [30] (fun s30 wx => ∃ (i : Nat), i ≤ 7 ∧ s30 = .int .i64 ((i : Int) + 1) ∧ Hid (Kt (fun _ => True) 2560 W0 K C (src2 0) (stOf (T0)) wx)) (fun s30 _ => 8 - (intOf s30).toNat)
       case atStart => exact ⟨0, by omega, rfl, HT⟩
       case round =>
        clear HT
        obtain ⟨i, hi7, rfl, HT⟩ := hrel
        by_cases hlt : i < 7
        ·have e1 : (i : Int) + 1 < 8 := by omega
         have HFr := Lib.hid (show (stOf T0).p ((i : Int) + 1) = (Cd.noP, 0) from T0_free (k := i + 1) (by omega) (by omega))
         go_wp2_with fail
         have hc := tproc_is HT.out ((i : Int) + 1) (by unfold Cd.Wf; omega) Cd.noP 0 HFr.out
         refine hc.mono ?_; rintro e w401 ⟨rfl, t401, kp401⟩
         clear hc
         have HT401 := Lib.hid t401
         have hsz401 := t401.kp.size
         clear t401 kp401
         go_wp2_with (first
          | (refine flatP.wpList_al rfl rfl ?_; intro wa402 ha402 ka402 sa402; clear sa402)
          | (refine flatP.wpList_st rfl rfl rfl rfl HZ2.out HZ2.out ha402 ?_; intro wb402 hb402 kb402 sb402; clear sb402))
         have HT402 := Lib.hid ((HT401.out.nob ka402).st H.out ha402 (by decide) hsz401 kb402)
         have HB402 := Lib.hid hb402
         have hge402 := hsz401
         generalize w401.heap.size = g402 at *
         clear ha402 ka402 hb402 kb402  HT401
         go_wp2_with fail
         go_roundw
         case rel => exact ⟨i + 1, by omega, by go_num, HT402⟩
         case measure => simp [intOf]; omega
        ·obtain rfl : i = 7 := by omega
         have e1 : ¬ ((7 : Nat) : Int) + 1 < 8 := by decide
         have HFile := Lib.hid (show (stOf T0).f 0 = ([3, 0, 1, 0], 1) from rfl)
         have HCf := Lib.hid (cellsI (n := 4) (l := [3, 0, 1, 0]) rfl)
         have HZF := Lib.hid (cellsI (n := 4) (l := Fi.noP) rfl)
         go_wp2_with fail
         have hc := tfile_is HT.out 0 (by unfold Cd.Wf; decide) [3, 0, 1, 0] 1 HFile.out
         refine hc.mono ?_; rintro e w441 ⟨rfl, t441, kp441⟩
         clear hc
         have HT441 := Lib.hid t441
         have hsz441 := t441.kp.size
         clear t441 kp441
         go_upto_region 55 with (first
          | (refine flatF.wpList_al rfl rfl ?_; intro wa442 ha442 ka442 sa442; clear sa442)
          | (refine flatF.wpList_st rfl rfl rfl rfl HCf.out HZF.out ha442 ?_; intro wb442 hb442 kb442 sb442; clear sb442))
         have HT442 := Lib.hid ((HT441.out.nob ka442).st H.out ha442 (by decide) hsz441 kb442)
         have HB442 := Lib.hid hb442
         have hge442 := hsz441
         generalize w441.heap.size = g442 at *
         clear ha442 ka442 hb442 kb442  HT441
         have c443 : wb442.cell? ⟨g442, 2, none⟩ = some (.int .i64 1) := HB442.out.cell 2
         go_wp2_with fail
         have KW := Lib.hid (HFin.out _ _ HT442.out)
         refine (awake_is _).mono ?_; rintro e wz ⟨rfl, kz⟩
         go_wp2
         go_ret
         exact ⟨rfl, (from_join2 KW.out kz).done⟩
end Go.Proofs.YtgcikpgcoemfnaaGreat.Pr
namespace Go.Proofs.YtgcikpgcoemfnaaGreat
open Go.RowKit
theorem ProcFamily_walk (w : World) (a0 : Int) (_ : (Lit.int .i64 a0).wf = true) (A1 : Option Addr) (n1 c1 : Nat) (x1 : Ty.den (.sl 8 (.int .i64))) (w1 : Holds w (.sl 8 (.int .i64)) x1 [.slice A1 n1 c1]) (A2 : Option Addr) (n2 c2 : Nat) (x2 : Ty.den (.sl 8 (.int .i64))) (w2 : Holds w (.sl 8 (.int .i64)) x2 [.slice A2 n2 c2]) (a3 : Bool) :
  Calls Tryz.prog 6 #[.int .i64 a0, .slice A1 n1 c1, .slice A2 n2 c2, .bool a3] w fun e w' => e = .returned (.bool true) ∧ Below w.heap.size w w' := Pr.family_in w a0 A1 n1 c1 x1 (Qu.holds_ints w1) A2 n2 c2 x2 (Qu.holds_ints w2) a3
end Go.Proofs.YtgcikpgcoemfnaaGreat
