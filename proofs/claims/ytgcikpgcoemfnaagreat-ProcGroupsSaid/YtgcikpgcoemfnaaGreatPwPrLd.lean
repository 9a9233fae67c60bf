/- The walk of ProcGroups. Written by c17/geng.py. -/
import Derived.BigQuiet
import Derived.BigRegion
import Derived.Test.YtgcikpgcoemfnaaGreatRows
import Derived.Shelf.SlSortCmp.WholeK
import Derived.Deep.RegionHeld3
import Derived.Deep.QuietTactic
import Derived.StillTailTactics
import Derived.Test.YtgcikpgcoemfnaaGreatPu0
import Derived.Test.YtgcikpgcoemfnaaGreatPwx0
import Derived.Test.YtgcikpgcoemfnaaGreatPwx1
import Derived.Test.YtgcikpgcoemfnaaGreatPu4
import Derived.Test.YtgcikpgcoemfnaaGreatPu18
import Derived.Test.YtgcikpgcoemfnaaGreatPu19
import Derived.Test.YtgcikpgcoemfnaaGreatPu1
import Derived.Test.YtgcikpgcoemfnaaGreatPu7
import Derived.Test.YtgcikpgcoemfnaaGreatPu11
import Derived.Test.YtgcikpgcoemfnaaGreatPu21
import Derived.Test.YtgcikpgcoemfnaaGreatPu22
import Derived.Test.YtgcikpgcoemfnaaGreatPu12
import Derived.Test.YtgcikpgcoemfnaaGreatPwx5
import Derived.Test.YtgcikpgcoemfnaaGreatPu14
import Derived.Test.YtgcikpgcoemfnaaGreatPu13
import Derived.Test.YtgcikpgcoemfnaaGreatPu15
import Derived.Test.YtgcikpgcoemfnaaGreatPu16
import Derived.Test.YtgcikpgcoemfnaaGreatPu24
import Derived.Test.YtgcikpgcoemfnaaGreatPu23
import Derived.Test.YtgcikpgcoemfnaaGreatPu5
import Derived.Test.YtgcikpgcoemfnaaGreatPu8
import Derived.Test.YtgcikpgcoemfnaaGreatPu20
import Derived.Test.YtgcikpgcoemfnaaGreatPu2
import Derived.Test.YtgcikpgcoemfnaaGreatPu9
import Derived.Test.YtgcikpgcoemfnaaGreatPu25
import Derived.Test.YtgcikpgcoemfnaaGreatPu10
import Derived.Test.YtgcikpgcoemfnaaGreatPu26
import Derived.Test.YtgcikpgcoemfnaaGreatPu27
import Derived.Test.YtgcikpgcoemfnaaGreatPu6
import Derived.Test.YtgcikpgcoemfnaaGreatPu28
import Derived.Test.YtgcikpgcoemfnaaGreatPu17
import Derived.Test.YtgcikpgcoemfnaaGreatPu29
import Derived.Test.YtgcikpgcoemfnaaGreatPu31
import Derived.Test.YtgcikpgcoemfnaaGreatPu30
import Derived.Test.YtgcikpgcoemfnaaGreatPwx6
import Derived.Test.YtgcikpgcoemfnaaGreatPu3
import Derived.Test.YtgcikpgcoemfnaaGreatPwx2
import Derived.Test.YtgcikpgcoemfnaaGreatPwx3
import Derived.Test.YtgcikpgcoemfnaaGreatPwx4
import Derived.Test.YtgcikpgcoemfnaaGreatPwx7
import Derived.Test.YtgcikpgcoemfnaaGreatPu32
import Derived.Test.YtgcikpgcoemfnaaGreatPu33
import Derived.Test.YtgcikpgcoemfnaaGreatPwx8
namespace Go.Proofs.YtgcikpgcoemfnaaGreat.Pr
open Go.RowKit Co Pn
set_option linter.unusedVariables false
set_option linter.unusedSimpArgs false
theorem flatA6 : Flat 69 6 (ints (List.replicate 6 0)) := ⟨⟨_, Tryz.underlying69, rfl⟩, by kernel_rfl, fun W => by go_simp; rfl, rfl⟩
/-- The groups as they lie. -/
def arr (gs : List Int) : List Int := (0 :: gs) ++ List.replicate (5 - gs.length) 0
theorem arr_set {gs : List Int} (h : gs.length < 5) (g : Int) : (arr gs).set (gs.length + 1) g = arr (gs ++ [g]) := by
 unfold arr
 obtain ⟨m, hm⟩ : ∃ m, 5 - gs.length = m + 1 := ⟨4 - gs.length, by omega⟩
 have h2 : 5 - (gs ++ [g]).length = m := by rw [List.length_append]; simp only [List.length_cons, List.length_nil]; omega
 rw [hm, h2, List.replicate_succ, List.set_append_right _ _ (by simp)]
 simp
theorem arr_at {gs : List Int} {j : Nat} (hj : j ≤ gs.length) : (arr gs).getD j 0 = (0 :: gs).getD j 0 := by
 unfold arr
 rw [List.getD_eq_getElem?_getD, List.getD_eq_getElem?_getD, List.getElem?_append_left (by simp; omega)]
theorem arr_len {gs : List Int} (h : gs.length ≤ 5) : (arr gs).length = 6 := by unfold arr; simp; omega
/-- Whether one of the first m was hit. -/
def SomeH (gs : List Int) (t : Int) (m : Nat) (sm : Bool) : Prop := sm = true ↔ ∃ j : Nat, j < m ∧ hitB t j ((0 :: gs).getD j 0) = true
theorem ints_at {l : List Int} {k : Nat} (h : k < l.length) : (ints l)[k]? = some (.int .i64 (l.getD k 0)) := by
 rw [ints_get, List.getElem?_eq_getElem h, List.getD_eq_getElem?_getD, List.getElem?_eq_getElem h]; rfl
set_option maxRecDepth 100000 in
set_option maxHeartbeats 8000000 in
theorem groups_in (w : World) (A0 : Option Addr) (n0 c0' : Nat) (x0 : List Int) (hr0 : Reads w A0 n0 (ints x0)) (tg sn : Int) :
  Calls Tryz.prog 8 #[.slice A0 n0 c0', .int .i64 tg, .int .i64 sn] w fun e w' => e = .returned (.bool true) ∧ Below w.heap.size w w' := by
 have HV0 := Lib.hid (cellsV 0 0 false)
 have HZ2 := Lib.hid (cellsI (n := 16) (l := Cd.noP) rfl)
 have hf0 := fieldR0
 have hf1 := fieldR1
 have hxl : x0.length = n0 := by simpa using hr0.1
 have HXl := Lib.hid hxl
 clear hxl
 go_enter Tryz.func8, Tryz.ntmps8
 go_wp2_with fail
 refine (first_is w).mono ?_; rintro e w1 ⟨g0, c0, rfl, hc0, hg0, k1⟩
 go_wp2_with fail
 refine (fill_is _ c0 firstB first_len hc0.reads).mono ?_; rintro e W0 ⟨w2, N1, K, C, bt, k2, pq, R, Ag, ng, cg, g2, B, c2, rfl, kk2, hF⟩
 have HBr := Lib.hid (show C.brs.length = 2 by rw [hF.brs]; rfl)
 have H := Lib.hid hF.ks
 have HT := Lib.hid (hF.ks.still (Keep.refl Nob W0))
 have HFin := Lib.hid (fun W S (t : Kt (fun _ => True) 2560 W0 K C (src2 0) S W) => from_join2 k1 (from_join kk2 (hF.fin t)))
 have hsz0 := Nat.le_refl W0.heap.size
 have HX := Lib.hid (fun W S (t : Kt (fun _ => True) 2560 W0 K C (src2 0) S W) => (Reads.from_ hr0 (from_join2 k1 (from_join kk2 (hF.fin t))) : Reads W A0 n0 (ints x0)))
 clear hF hc0 k1 kk2 hg0 hr0
 go_upto_region 5 with (refine flatA6.wpList_al rfl rfl ?_; intro w3 hb3 hk3 hs3; clear hs3)
 have HT3 := Lib.hid (show Kt (fun _ => True) 2560 W0 K C (src2 0) (stOf (GT [])) w3 by rw [GT0]; exact HT.out.nob hk3)
 have HB3 := Lib.hid (show Blk w3 W0.heap.size 69 (ints (arr [])) from hb3)
 obtain ⟨ga, hgaq⟩ : ∃ ga, W0.heap.size = ga := ⟨_, rfl⟩
 rw [hgaq] at HB3 ⊢
 have HGa := Lib.hid hgaq
 clear hb3 hk3 HT hsz0 hgaq
 go_wp2_with fail
 go_loopw [12] (fun s12 wx => ∃ (k : Nat) (gs : List Int), k ≤ 5 ∧ s12 = .int .i64 ((k : Int) + 1) ∧ Hid (gs.length = k ∧ ∀ g ∈ gs, 0 ≤ g ∧ g ≤ 5) ∧ Hid (Kt (fun _ => True) 2560 W0 K C (src2 0) (stOf (GT gs)) wx) ∧ Hid (Blk wx ga 69 (ints (arr gs)))) (fun s12 _ => 6 - (intOf s12).toNat)
 case atStart => exact ⟨0, [], by omega, rfl, Lib.hid ⟨rfl, by simp⟩, HT3, HB3⟩
 case round =>
  clear HT3 HB3
  obtain ⟨k, gs, hk5, rfl, HN, HT, HB⟩ := hrel
  have hga : W0.heap.size ≤ ga := Nat.le_of_eq HGa.out
  by_cases hlt : k < 5
  ·have hlt2 : (k : Int) + 1 < 6 := by omega
   have hgl := HN.out.1
   have HFk := Lib.hid (g_fork gs (by omega))
   have HZk := Lib.hid (show ∃ y, (ints (arr gs))[k + 1]? = some (.int .i64 y) from ⟨_, ints_at (by rw [arr_len (by omega)]; omega)⟩)
   obtain ⟨y, hy⟩ := HZk.out
   have HZk := Lib.hid hy
   have hwk : wrap64 (k : Int) = k := by rw [← IntWalk.i64_left, IntKind.wrap_i64]; omega
   by_cases hn : (k : Int) + 1 ≤ n0
   ·obtain ⟨x, hx⟩ : ∃ x, x0[k]? = some x := ⟨_, List.getElem?_eq_getElem (by rw [HXl.out]; omega)⟩
    obtain ⟨b, off, hA, hcl⟩ := (HX.out _ _ HT.out).lit (show 0 < n0 by omega)
    subst hA
    have HCl := Lib.hid (fun W S (t : Kt (fun _ => True) 2560 W0 K C (src2 0) S W) => show W.cell? ⟨b, off + k, none⟩ = some (.int .i64 x) from by
     obtain ⟨b', off', hA', hcl'⟩ := (HX.out _ _ t).lit (show 0 < n0 by omega)
     cases hA'
     exact hcl' k _ (by rw [ints_get, hx]; rfl))
    clear hcl hx
    by_cases ho : x % 2 = 1
    ·have hox : (x % 2 == 1) = true := by simp [ho]
     clear ho
     obtain ⟨j, hj⟩ : ∃ j : Nat, x / 2 % 256 % ((k : Int) + 1) = (j : Int) := ⟨(x / 2 % 256 % ((k : Int) + 1)).toNat, by rw [Int.toNat_of_nonneg (Int.emod_nonneg _ (by omega))]⟩
     have hjk : j ≤ k := by
      have := Int.emod_lt_of_pos (x / 2 % 256) (show 0 < (k : Int) + 1 by omega)
      omega
     have hj6 : j < 6 := by omega
     obtain ⟨gg, hgg⟩ : ∃ gg, (0 :: gs).getD j 0 = gg := ⟨_, rfl⟩
     have hgb : 0 ≤ gg ∧ gg ≤ 5 := by
      have hl2 : j < (0 :: gs).length := by rw [List.length_cons]; omega
      rw [← hgg, List.getD_eq_getElem?_getD, List.getElem?_eq_getElem hl2]
      show 0 ≤ (0 :: gs)[j] ∧ (0 :: gs)[j] ≤ 5
      rcases List.mem_cons.1 (List.getElem_mem (l := 0 :: gs) (n := j) hl2) with e | e
      ·rw [e]; decide
      ·exact HN.out.2 _ e
     have HGj := Lib.hid (show (ints (arr gs))[j]? = some (.int .i64 gg) by rw [ints_at (by rw [arr_len (by omega)]; omega), arr_at (by omega), hgg])
     have HGp := Lib.hid (show groupT (GT (gs ++ [0])) 0 ((k : Int) + 1) gg = (GT (gs ++ [gg]), 0) by
      have := g_group gs (by omega) gg (by omega) (by omega) (.inr ⟨j, by omega, hgg⟩)
      rwa [hgl] at this)
     have HAr := Lib.hid (show (arr gs).set (k + 1) gg = arr (gs ++ [gg]) by rw [← hgl]; exact arr_set (by omega) _)
     have HN2 := Lib.hid (show Hid ((gs ++ [gg]).length = k + 1 ∧ ∀ g ∈ gs ++ [gg], 0 ≤ g ∧ g ≤ 5) from Lib.hid ⟨by rw [List.length_append, hgl]; rfl, fun g hm => by
      rcases List.mem_append.1 hm with hm | hm
      ·exact HN.out.2 g hm
      ·rw [List.mem_singleton.1 hm]; omega⟩)
     clear hgg hgb
     go_wp2_with fail
     have hc := tfork_is HT.out HBr.out 0 (by decide) ((gs.length : Int) + 1) 0 HFk.out
     unfold rv at hc
     refine hc.mono ?_; rintro e w141 ⟨rfl, t141, kp141⟩
     clear hc
     have HB142 := Lib.hid (kp141.lb H.out HB.out hga)
     have HT141 := Lib.hid t141
     have hsz141 := t141.kp.size
     clear t141 kp141 HB
     have cx := HCl.out _ _ HT141.out
     have cg : w141.cell? ⟨ga, j, none⟩ = some (.int .i64 gg) := (HB142.out.cell j).trans HGj.out
     go_wp2_with fail
     clear cx
     clear cg
     have hc := tgroup_is HT141.out HBr.out 0 (by decide) ((k : Int) + 1) gg 0 HGp.out
     unfold rv at hc
     refine hc.mono ?_; rintro e w143 ⟨rfl, t143, kp143⟩
     clear hc
     have HB144 := Lib.hid (kp143.lb H.out HB142.out hga)
     have HT143 := Lib.hid t143
     have hsz143 := t143.kp.size
     clear t143 kp143 HB142 HT141
     have cs := (HB144.out.cell (k + 1)).trans HZk.out
     have fs := HB144.out.frozen (k + 1)
     go_wp2_with fail
     have ks : Keep (fun x => x = ga) w143 (w143.setCell ⟨ga, k + 1, none⟩ (.int .i64 gg)) := (Keep.refl (fun x => x = ga) w143).setCell ⟨ga, k + 1, none⟩ (.int .i64 gg) (fun _ => rfl)
     have HTs := Lib.hid (HT143.out.st H.out HB144.out (by decide) hga ks)
     have HBs := Lib.hid (show Blk (w143.setCell ⟨ga, k + 1, none⟩ (.int .i64 gg)) ga 69 (ints (arr (gs ++ [gg]))) by
      rw [← HAr.out, ints_set]
      exact HB144.out.setCell (k + 1) _)
     clear cs fs ks
     go_roundw
     case rel => exact ⟨k + 1, gs ++ [gg], by omega, by go_num, HN2.out, HTs, HBs⟩
     case measure => simp [intOf]; omega
    ·have hox : (x % 2 == 1) = false := by simp; omega
     clear ho
     have HGp := Lib.hid (show groupT (GT (gs ++ [0])) 0 ((k : Int) + 1) ((k : Int) + 1) = (GT (gs ++ [((k : Int) + 1)]), 0) by
      have := g_group gs (by omega) ((k : Int) + 1) (by omega) (by omega) (.inl (by omega))
      rwa [hgl] at this)
     have HAr := Lib.hid (show (arr gs).set (k + 1) ((k : Int) + 1) = arr (gs ++ [((k : Int) + 1)]) by rw [← hgl]; exact arr_set (by omega) _)
     have HN2 := Lib.hid (show Hid ((gs ++ [((k : Int) + 1)]).length = k + 1 ∧ ∀ g ∈ gs ++ [((k : Int) + 1)], 0 ≤ g ∧ g ≤ 5) from Lib.hid ⟨by rw [List.length_append, hgl]; rfl, fun g hm => by
      rcases List.mem_append.1 hm with hm | hm
      ·exact HN.out.2 g hm
      ·rw [List.mem_singleton.1 hm]; omega⟩)
     go_wp2_with fail
     have hc := tfork_is HT.out HBr.out 0 (by decide) ((gs.length : Int) + 1) 0 HFk.out
     unfold rv at hc
     refine hc.mono ?_; rintro e w121 ⟨rfl, t121, kp121⟩
     clear hc
     have HB122 := Lib.hid (kp121.lb H.out HB.out hga)
     have HT121 := Lib.hid t121
     have hsz121 := t121.kp.size
     clear t121 kp121 HB
     have cx := HCl.out _ _ HT121.out
     go_wp2_with fail
     clear cx
     have hc := tgroup_is HT121.out HBr.out 0 (by decide) ((k : Int) + 1) ((k : Int) + 1) 0 HGp.out
     unfold rv at hc
     refine hc.mono ?_; rintro e w123 ⟨rfl, t123, kp123⟩
     clear hc
     have HB124 := Lib.hid (kp123.lb H.out HB122.out hga)
     have HT123 := Lib.hid t123
     have hsz123 := t123.kp.size
     clear t123 kp123 HB122 HT121
     have cs := (HB124.out.cell (k + 1)).trans HZk.out
     have fs := HB124.out.frozen (k + 1)
     go_wp2_with fail
     have ks : Keep (fun x => x = ga) w123 (w123.setCell ⟨ga, k + 1, none⟩ (.int .i64 ((k : Int) + 1))) := (Keep.refl (fun x => x = ga) w123).setCell ⟨ga, k + 1, none⟩ (.int .i64 ((k : Int) + 1)) (fun _ => rfl)
     have HTs := Lib.hid (HT123.out.st H.out HB124.out (by decide) hga ks)
     have HBs := Lib.hid (show Blk (w123.setCell ⟨ga, k + 1, none⟩ (.int .i64 ((k : Int) + 1))) ga 69 (ints (arr (gs ++ [((k : Int) + 1)]))) by
      rw [← HAr.out, ints_set]
      exact HB124.out.setCell (k + 1) _)
     clear cs fs ks
     go_roundw
     case rel => exact ⟨k + 1, gs ++ [((k : Int) + 1)], by omega, by go_num, HN2.out, HTs, HBs⟩
     case measure => simp [intOf]; omega
   ·have hn2 : ¬ (k : Int) + 1 ≤ n0 := hn
    clear hn
    have HGp := Lib.hid (show groupT (GT (gs ++ [0])) 0 ((k : Int) + 1) ((k : Int) + 1) = (GT (gs ++ [((k : Int) + 1)]), 0) by
     have := g_group gs (by omega) ((k : Int) + 1) (by omega) (by omega) (.inl (by omega))
     rwa [hgl] at this)
    have HAr := Lib.hid (show (arr gs).set (k + 1) ((k : Int) + 1) = arr (gs ++ [((k : Int) + 1)]) by rw [← hgl]; exact arr_set (by omega) _)
    have HN2 := Lib.hid (show Hid ((gs ++ [((k : Int) + 1)]).length = k + 1 ∧ ∀ g ∈ gs ++ [((k : Int) + 1)], 0 ≤ g ∧ g ≤ 5) from Lib.hid ⟨by rw [List.length_append, hgl]; rfl, fun g hm => by
     rcases List.mem_append.1 hm with hm | hm
     ·exact HN.out.2 g hm
     ·rw [List.mem_singleton.1 hm]; omega⟩)
    go_wp2_with fail
    have hc := tfork_is HT.out HBr.out 0 (by decide) ((gs.length : Int) + 1) 0 HFk.out
    unfold rv at hc
    refine hc.mono ?_; rintro e w101 ⟨rfl, t101, kp101⟩
    clear hc
    have HB102 := Lib.hid (kp101.lb H.out HB.out hga)
    have HT101 := Lib.hid t101
    have hsz101 := t101.kp.size
    clear t101 kp101 HB
    go_wp2_with fail
    have hc := tgroup_is HT101.out HBr.out 0 (by decide) ((k : Int) + 1) ((k : Int) + 1) 0 HGp.out
    unfold rv at hc
    refine hc.mono ?_; rintro e w103 ⟨rfl, t103, kp103⟩
    clear hc
    have HB104 := Lib.hid (kp103.lb H.out HB102.out hga)
    have HT103 := Lib.hid t103
    have hsz103 := t103.kp.size
    clear t103 kp103 HB102 HT101
    have cs := (HB104.out.cell (k + 1)).trans HZk.out
    have fs := HB104.out.frozen (k + 1)
    go_wp2_with fail
    have ks : Keep (fun x => x = ga) w103 (w103.setCell ⟨ga, k + 1, none⟩ (.int .i64 ((k : Int) + 1))) := (Keep.refl (fun x => x = ga) w103).setCell ⟨ga, k + 1, none⟩ (.int .i64 ((k : Int) + 1)) (fun _ => rfl)
    have HTs := Lib.hid (HT103.out.st H.out HB104.out (by decide) hga ks)
    have HBs := Lib.hid (show Blk (w103.setCell ⟨ga, k + 1, none⟩ (.int .i64 ((k : Int) + 1))) ga 69 (ints (arr (gs ++ [((k : Int) + 1)]))) by
     rw [← HAr.out, ints_set]
     exact HB104.out.setCell (k + 1) _)
    clear cs fs ks
    go_roundw
    case rel => exact ⟨k + 1, gs ++ [((k : Int) + 1)], by omega, by go_num, HN2.out, HTs, HBs⟩
    case measure => simp [intOf]; omega
  ·obtain rfl : k = 5 := by omega
   obtain ⟨tt, htt⟩ : ∃ tt, tg % 16 = tt := ⟨_, rfl⟩
   obtain ⟨s8, hs8⟩ : ∃ s8, sn % 8 = s8 := ⟨_, rfl⟩
   have ht16 : 0 ≤ tt ∧ tt ≤ 15 := by omega
   have hs16 : 0 ≤ s8 ∧ s8 ≤ 7 := by omega
   have hlt : ¬ ((5 : Int) + 1 < 6) := by decide
   go_wp2_with fail
   obtain ⟨nn, hnn⟩ : ∃ nn, s8 + 1 = nn := ⟨_, rfl⟩
   rw [hnn]
   obtain ⟨S', E, hk, hp, hE⟩ := kill_res gs HN.out.1 HN.out.2 tt nn (by omega) (by omega) (by omega) (by omega)
   have HK := Lib.hid (fun W K' (hK : Ks (fun _ => True) 2560 W K' C (src2 0) (stOf (GT gs))) => kill_is hK 2 (by decide) tt nn S' E hk)
   have HP := Lib.hid hp
   have HE := Lib.hid hE
   have HNn := Lib.hid (show 1 ≤ nn ∧ nn ≤ 8 by omega)
   have HVe := Lib.hid (cellsV 0 E false)
   clear hk hp hE hnn
   have hc := HT.out.go (HK.out _)
   refine hc.mono ?_; rintro e w4 ⟨rfl, t4, kp4⟩
   have HT4 := Lib.hid t4
   have hsz4 := t4.kp.size
   have HB4 := Lib.hid (kp4.lb H.out HB.out hga)
   clear hc t4 kp4 hs8 htt hlt
   go_wp2_with (first
    | (refine flatV.wpList_al rfl rfl ?_; intro w5 hb5 hk5 hs5; clear hs5)
    | (refine flatV.wpList_st rfl rfl rfl rfl HVe.out HV0.out hb5 ?_; intro w6 hb6 hk6 hs6; clear hs6))
   have HT6 := Lib.hid ((HT4.out.nob hk5).st H.out hb5 (by decide) hsz4 hk6)
   have HB6 := Lib.hid ((HB4.out.nob hk5).keep hk6 (by have := HB4.out.lt; omega))
   have HR6 := Lib.hid hb6
   have hgr := hsz4
   generalize w4.heap.size = gr at *
   clear hb5 hk5 hb6 hk6
   go_loopw [15, 16] (fun s15 s16 wx => ∃ (m : Nat) (sm : Bool), m ≤ 6 ∧ s16 = .int .i64 m ∧ s15 = .bool sm ∧ Hid (SomeH gs tt m sm) ∧ Hid (Kt (fun _ => True) 2560 W0 K C (src2 0) S' wx) ∧ Hid (Blk wx ga 69 (ints (arr gs))) ∧ Hid (Blk wx gr 32 (rv 0 E false))) (fun _ s16 _ => 6 - (intOf s16).toNat)
   case atStart => exact ⟨0, false, by omega, rfl, rfl, Lib.hid (show SomeH gs tt 0 false from ⟨fun h => (by cases h), fun ⟨j, h, _⟩ => (by omega)⟩), HT6, HB6, HR6⟩
   case round =>
    clear HT6 HB6 HR6
    obtain ⟨m, sm, hm6, rfl, rfl, HSm, HT, HB, HBr2⟩ := hrel
    by_cases hlt : (m : Int) < 6
    ·obtain ⟨gm, hgm⟩ : ∃ gm, (0 :: gs).getD m 0 = gm := ⟨_, rfl⟩
     have HGm := Lib.hid (show (ints (arr gs))[m]? = some (.int .i64 gm) by rw [ints_at (by rw [arr_len (by rw [HN.out.1]; decide)]; omega), arr_at (by rw [HN.out.1]; omega), hgm])
     obtain ⟨hv, hhv⟩ : ∃ hv, hitB tt m gm = hv := ⟨_, rfl⟩
     have hpm := HP.out m (by omega)
     rw [hgm, hhv] at hpm
     have HS2 := Lib.hid (show Hid (SomeH gs tt (m + 1) (sm || hv)) from Lib.hid (by
      have hsm : sm = true ↔ ∃ j : Nat, j < m ∧ hitB tt j ((0 :: gs).getD j 0) = true := HSm.out
      show (sm || hv) = true ↔ _
      rw [Bool.or_eq_true, hsm]
      constructor
      ·rintro (⟨j, h1, h2⟩ | h)
       ·exact ⟨j, by omega, h2⟩
       ·exact ⟨m, by omega, by rw [hgm, hhv]; exact h⟩
      ·rintro ⟨j, h1, h2⟩
       by_cases e : j = m
       ·subst e; rw [hgm, hhv] at h2; exact .inr h2
       ·exact .inl ⟨j, by omega, h2⟩))
     obtain ⟨pp, hpp⟩ : ∃ pp : Int, (if m = 0 then 0 else 1) = pp := ⟨_, rfl⟩
     rw [hpp] at hpm
     have hw8 : wrap64 (tt - 8) = tt - 8 := by rw [← IntWalk.i64_left, IntKind.wrap_i64]; omega
     clear hpp hgm
     unfold hitB at hhv
     cases hv with
     | true =>
      rw [if_pos rfl] at hpm
      rw [Bool.or_true] at HS2
      obtain ⟨q, hq⟩ : ∃ q, Sg.pw nn = q := ⟨_, rfl⟩
      have hsh : wrap64 (2 ^ nn.toNat) = q := by rw [← hq]; exact Sg.wrap_pw (by have := HNn.out; omega) (by have := HNn.out; omega)
      have hq0 : (q != 0) = true := by
       have h1 : (0 : Int) < q := by rw [← hq]; exact Int.pow_pos (by decide)
       simp; omega
      have hn64 : 0 ≤ nn ∧ nn < 64 := by have := HNn.out; omega
      rw [hq] at hpm
      have HPr := Lib.hid (fun W K' (hK : Ks (fun _ => True) 2560 W K' C (src2 0) S') => sproc_is hK (m : Int) (by unfold Cd.Wf; omega) (gpq pp gm q) 1 hpm)
      have HCq := Lib.hid (cellsI (n := 16) (l := gpq pp gm q) rfl)
      clear hpm hq
      by_cases e1 : tt = (m : Int)
      ·have ht1 : (tt == (m : Int)) = true := by simp [e1]
       clear e1 hhv
       cases sm with
       | true =>
        go_wp2_with fail
        refine (HT.out.go (HPr.out _)).mono ?_; rintro e wp ⟨rfl, tp, kpp⟩
        have HTp := Lib.hid tp
        have hszp := tp.kp.size
        have HBp := Lib.hid (kpp.lb H.out HB.out hga)
        have HRp := Lib.hid (kpp.lb H.out HBr2.out hgr)
        clear tp kpp
        go_upto_region 22 with (first
         | (refine flatP.wpList_al rfl rfl ?_; intro wa201 ha201 ka201 sa201; clear sa201)
         | (refine flatP.wpList_st rfl rfl rfl rfl HCq.out HZ2.out ha201 ?_; intro wb201 hb201 kb201 sb201; clear sb201))
        have HB202 := Lib.hid ((HBp.out.nob ka201).keep kb201 (by have := HBp.out.lt; omega))
        have HB203 := Lib.hid ((HRp.out.nob ka201).keep kb201 (by have := HRp.out.lt; omega))
        have HT201 := Lib.hid ((HTp.out.nob ka201).st H.out ha201 (by decide) hszp kb201)
        have HB201 := Lib.hid hb201
        have hge201 := hszp
        generalize wp.heap.size = g201 at *
        clear ha201 ka201 hb201 kb201 HBp HRp HTp
        have ca : wb201.cell? ⟨ga, m, none⟩ = some (.int .i64 gm) := (HB202.out.cell m).trans HGm.out
        have c2 : wb201.cell? ⟨g201, 2, none⟩ = some (.int .i64 gm) := HB201.out.cell 2
        have c4 : wb201.cell? ⟨g201, 4, none⟩ = some (.int .i64 q) := HB201.out.cell 4
        go_upto_region 23 with fail
        go_quiet (fail)
        go_wp2_with fail
        go_roundw
        case rel => exact ⟨m + 1, _, by omega, by go_num, rfl, HS2.out, Lib.hid (HT201.out.nob ((Keep.refl Nob _).drewN _)), Lib.hid (HB202.out.nob ((Keep.refl Nob _).drewN _)), Lib.hid (HB203.out.nob ((Keep.refl Nob _).drewN _))⟩
        case measure => simp [intOf]; omega
       | false =>
        go_wp2_with fail
        refine (HT.out.go (HPr.out _)).mono ?_; rintro e wp ⟨rfl, tp, kpp⟩
        have HTp := Lib.hid tp
        have hszp := tp.kp.size
        have HBp := Lib.hid (kpp.lb H.out HB.out hga)
        have HRp := Lib.hid (kpp.lb H.out HBr2.out hgr)
        clear tp kpp
        go_upto_region 22 with (first
         | (refine flatP.wpList_al rfl rfl ?_; intro wa201 ha201 ka201 sa201; clear sa201)
         | (refine flatP.wpList_st rfl rfl rfl rfl HCq.out HZ2.out ha201 ?_; intro wb201 hb201 kb201 sb201; clear sb201))
        have HB202 := Lib.hid ((HBp.out.nob ka201).keep kb201 (by have := HBp.out.lt; omega))
        have HB203 := Lib.hid ((HRp.out.nob ka201).keep kb201 (by have := HRp.out.lt; omega))
        have HT201 := Lib.hid ((HTp.out.nob ka201).st H.out ha201 (by decide) hszp kb201)
        have HB201 := Lib.hid hb201
        have hge201 := hszp
        generalize wp.heap.size = g201 at *
        clear ha201 ka201 hb201 kb201 HBp HRp HTp
        have ca : wb201.cell? ⟨ga, m, none⟩ = some (.int .i64 gm) := (HB202.out.cell m).trans HGm.out
        have c2 : wb201.cell? ⟨g201, 2, none⟩ = some (.int .i64 gm) := HB201.out.cell 2
        have c4 : wb201.cell? ⟨g201, 4, none⟩ = some (.int .i64 q) := HB201.out.cell 4
        go_upto_region 23 with fail
        go_quiet (fail)
        go_wp2_with fail
        go_roundw
        case rel => exact ⟨m + 1, _, by omega, by go_num, rfl, HS2.out, Lib.hid (HT201.out.nob ((Keep.refl Nob _).drewN _)), Lib.hid (HB202.out.nob ((Keep.refl Nob _).drewN _)), Lib.hid (HB203.out.nob ((Keep.refl Nob _).drewN _))⟩
        case measure => simp [intOf]; omega
      ·have ht1 : (tt == (m : Int)) = false := by simpa using e1
       rw [ht1, Bool.false_or, Bool.and_eq_true] at hhv
       have ht8 : 8 ≤ tt := of_decide_eq_true hhv.1
       have ht9 : (gm == tt - 8) = true := hhv.2
       clear e1 hhv
       cases sm with
       | true =>
        go_wp2_with fail
        refine (HT.out.go (HPr.out _)).mono ?_; rintro e wp ⟨rfl, tp, kpp⟩
        have HTp := Lib.hid tp
        have hszp := tp.kp.size
        have HBp := Lib.hid (kpp.lb H.out HB.out hga)
        have HRp := Lib.hid (kpp.lb H.out HBr2.out hgr)
        clear tp kpp
        go_upto_region 22 with (first
         | (refine flatP.wpList_al rfl rfl ?_; intro wa221 ha221 ka221 sa221; clear sa221)
         | (refine flatP.wpList_st rfl rfl rfl rfl HCq.out HZ2.out ha221 ?_; intro wb221 hb221 kb221 sb221; clear sb221))
        have HB222 := Lib.hid ((HBp.out.nob ka221).keep kb221 (by have := HBp.out.lt; omega))
        have HB223 := Lib.hid ((HRp.out.nob ka221).keep kb221 (by have := HRp.out.lt; omega))
        have HT221 := Lib.hid ((HTp.out.nob ka221).st H.out ha221 (by decide) hszp kb221)
        have HB221 := Lib.hid hb221
        have hge221 := hszp
        generalize wp.heap.size = g221 at *
        clear ha221 ka221 hb221 kb221 HBp HRp HTp
        have ca : wb221.cell? ⟨ga, m, none⟩ = some (.int .i64 gm) := (HB222.out.cell m).trans HGm.out
        have c2 : wb221.cell? ⟨g221, 2, none⟩ = some (.int .i64 gm) := HB221.out.cell 2
        have c4 : wb221.cell? ⟨g221, 4, none⟩ = some (.int .i64 q) := HB221.out.cell 4
        go_upto_region 23 with fail
        go_quiet (fail)
        go_wp2_with fail
        go_roundw
        case rel => exact ⟨m + 1, _, by omega, by go_num, rfl, HS2.out, Lib.hid (HT221.out.nob ((Keep.refl Nob _).drewN _)), Lib.hid (HB222.out.nob ((Keep.refl Nob _).drewN _)), Lib.hid (HB223.out.nob ((Keep.refl Nob _).drewN _))⟩
        case measure => simp [intOf]; omega
       | false =>
        go_wp2_with fail
        refine (HT.out.go (HPr.out _)).mono ?_; rintro e wp ⟨rfl, tp, kpp⟩
        have HTp := Lib.hid tp
        have hszp := tp.kp.size
        have HBp := Lib.hid (kpp.lb H.out HB.out hga)
        have HRp := Lib.hid (kpp.lb H.out HBr2.out hgr)
        clear tp kpp
        go_upto_region 22 with (first
         | (refine flatP.wpList_al rfl rfl ?_; intro wa221 ha221 ka221 sa221; clear sa221)
         | (refine flatP.wpList_st rfl rfl rfl rfl HCq.out HZ2.out ha221 ?_; intro wb221 hb221 kb221 sb221; clear sb221))
        have HB222 := Lib.hid ((HBp.out.nob ka221).keep kb221 (by have := HBp.out.lt; omega))
        have HB223 := Lib.hid ((HRp.out.nob ka221).keep kb221 (by have := HRp.out.lt; omega))
        have HT221 := Lib.hid ((HTp.out.nob ka221).st H.out ha221 (by decide) hszp kb221)
        have HB221 := Lib.hid hb221
        have hge221 := hszp
        generalize wp.heap.size = g221 at *
        clear ha221 ka221 hb221 kb221 HBp HRp HTp
        have ca : wb221.cell? ⟨ga, m, none⟩ = some (.int .i64 gm) := (HB222.out.cell m).trans HGm.out
        have c2 : wb221.cell? ⟨g221, 2, none⟩ = some (.int .i64 gm) := HB221.out.cell 2
        have c4 : wb221.cell? ⟨g221, 4, none⟩ = some (.int .i64 q) := HB221.out.cell 4
        go_upto_region 23 with fail
        go_quiet (fail)
        go_wp2_with fail
        go_roundw
        case rel => exact ⟨m + 1, _, by omega, by go_num, rfl, HS2.out, Lib.hid (HT221.out.nob ((Keep.refl Nob _).drewN _)), Lib.hid (HB222.out.nob ((Keep.refl Nob _).drewN _)), Lib.hid (HB223.out.nob ((Keep.refl Nob _).drewN _))⟩
        case measure => simp [intOf]; omega
     | false =>
      rw [if_neg (by decide)] at hpm
      rw [Bool.or_false] at HS2
      have HPr := Lib.hid (fun W K' (hK : Ks (fun _ => True) 2560 W K' C (src2 0) S') => sproc_is hK (m : Int) (by unfold Cd.Wf; omega) (gpq pp gm 0) 1 hpm)
      have HCq := Lib.hid (cellsI (n := 16) (l := gpq pp gm 0) rfl)
      rw [Bool.or_eq_false_iff] at hhv
      have ht1 : (tt == (m : Int)) = false := hhv.1
      have hh2 := hhv.2
      clear hpm hhv
      by_cases e8 : 8 ≤ tt
      ·rw [decide_eq_true e8, Bool.true_and] at hh2
       have ht9 : (gm == tt - 8) = false := hh2
       clear hh2
       cases sm with
       | true =>
        go_wp2_with fail
        refine (HT.out.go (HPr.out _)).mono ?_; rintro e wp ⟨rfl, tp, kpp⟩
        have HTp := Lib.hid tp
        have hszp := tp.kp.size
        have HBp := Lib.hid (kpp.lb H.out HB.out hga)
        have HRp := Lib.hid (kpp.lb H.out HBr2.out hgr)
        clear tp kpp
        go_upto_region 22 with (first
         | (refine flatP.wpList_al rfl rfl ?_; intro wa241 ha241 ka241 sa241; clear sa241)
         | (refine flatP.wpList_st rfl rfl rfl rfl HCq.out HZ2.out ha241 ?_; intro wb241 hb241 kb241 sb241; clear sb241))
        have HB242 := Lib.hid ((HBp.out.nob ka241).keep kb241 (by have := HBp.out.lt; omega))
        have HB243 := Lib.hid ((HRp.out.nob ka241).keep kb241 (by have := HRp.out.lt; omega))
        have HT241 := Lib.hid ((HTp.out.nob ka241).st H.out ha241 (by decide) hszp kb241)
        have HB241 := Lib.hid hb241
        have hge241 := hszp
        generalize wp.heap.size = g241 at *
        clear ha241 ka241 hb241 kb241 HBp HRp HTp
        have ca : wb241.cell? ⟨ga, m, none⟩ = some (.int .i64 gm) := (HB242.out.cell m).trans HGm.out
        have c2 : wb241.cell? ⟨g241, 2, none⟩ = some (.int .i64 gm) := HB241.out.cell 2
        have c4 : wb241.cell? ⟨g241, 4, none⟩ = some (.int .i64 0) := HB241.out.cell 4
        go_upto_region 23 with fail
        go_quiet (fail)
        go_wp2_with fail
        go_roundw
        case rel => exact ⟨m + 1, _, by omega, by go_num, rfl, HS2.out, Lib.hid (HT241.out.nob ((Keep.refl Nob _).drewN _)), Lib.hid (HB242.out.nob ((Keep.refl Nob _).drewN _)), Lib.hid (HB243.out.nob ((Keep.refl Nob _).drewN _))⟩
        case measure => simp [intOf]; omega
       | false =>
        go_wp2_with fail
        refine (HT.out.go (HPr.out _)).mono ?_; rintro e wp ⟨rfl, tp, kpp⟩
        have HTp := Lib.hid tp
        have hszp := tp.kp.size
        have HBp := Lib.hid (kpp.lb H.out HB.out hga)
        have HRp := Lib.hid (kpp.lb H.out HBr2.out hgr)
        clear tp kpp
        go_upto_region 22 with (first
         | (refine flatP.wpList_al rfl rfl ?_; intro wa241 ha241 ka241 sa241; clear sa241)
         | (refine flatP.wpList_st rfl rfl rfl rfl HCq.out HZ2.out ha241 ?_; intro wb241 hb241 kb241 sb241; clear sb241))
        have HB242 := Lib.hid ((HBp.out.nob ka241).keep kb241 (by have := HBp.out.lt; omega))
        have HB243 := Lib.hid ((HRp.out.nob ka241).keep kb241 (by have := HRp.out.lt; omega))
        have HT241 := Lib.hid ((HTp.out.nob ka241).st H.out ha241 (by decide) hszp kb241)
        have HB241 := Lib.hid hb241
        have hge241 := hszp
        generalize wp.heap.size = g241 at *
        clear ha241 ka241 hb241 kb241 HBp HRp HTp
        have ca : wb241.cell? ⟨ga, m, none⟩ = some (.int .i64 gm) := (HB242.out.cell m).trans HGm.out
        have c2 : wb241.cell? ⟨g241, 2, none⟩ = some (.int .i64 gm) := HB241.out.cell 2
        have c4 : wb241.cell? ⟨g241, 4, none⟩ = some (.int .i64 0) := HB241.out.cell 4
        go_upto_region 23 with fail
        go_quiet (fail)
        go_wp2_with fail
        go_roundw
        case rel => exact ⟨m + 1, _, by omega, by go_num, rfl, HS2.out, Lib.hid (HT241.out.nob ((Keep.refl Nob _).drewN _)), Lib.hid (HB242.out.nob ((Keep.refl Nob _).drewN _)), Lib.hid (HB243.out.nob ((Keep.refl Nob _).drewN _))⟩
        case measure => simp [intOf]; omega
      ·clear hh2
       cases sm with
       | true =>
        go_wp2_with fail
        refine (HT.out.go (HPr.out _)).mono ?_; rintro e wp ⟨rfl, tp, kpp⟩
        have HTp := Lib.hid tp
        have hszp := tp.kp.size
        have HBp := Lib.hid (kpp.lb H.out HB.out hga)
        have HRp := Lib.hid (kpp.lb H.out HBr2.out hgr)
        clear tp kpp
        go_upto_region 22 with (first
         | (refine flatP.wpList_al rfl rfl ?_; intro wa261 ha261 ka261 sa261; clear sa261)
         | (refine flatP.wpList_st rfl rfl rfl rfl HCq.out HZ2.out ha261 ?_; intro wb261 hb261 kb261 sb261; clear sb261))
        have HB262 := Lib.hid ((HBp.out.nob ka261).keep kb261 (by have := HBp.out.lt; omega))
        have HB263 := Lib.hid ((HRp.out.nob ka261).keep kb261 (by have := HRp.out.lt; omega))
        have HT261 := Lib.hid ((HTp.out.nob ka261).st H.out ha261 (by decide) hszp kb261)
        have HB261 := Lib.hid hb261
        have hge261 := hszp
        generalize wp.heap.size = g261 at *
        clear ha261 ka261 hb261 kb261 HBp HRp HTp
        have ca : wb261.cell? ⟨ga, m, none⟩ = some (.int .i64 gm) := (HB262.out.cell m).trans HGm.out
        have c2 : wb261.cell? ⟨g261, 2, none⟩ = some (.int .i64 gm) := HB261.out.cell 2
        have c4 : wb261.cell? ⟨g261, 4, none⟩ = some (.int .i64 0) := HB261.out.cell 4
        go_upto_region 23 with fail
        go_quiet (fail)
        go_wp2_with fail
        go_roundw
        case rel => exact ⟨m + 1, _, by omega, by go_num, rfl, HS2.out, Lib.hid (HT261.out.nob ((Keep.refl Nob _).drewN _)), Lib.hid (HB262.out.nob ((Keep.refl Nob _).drewN _)), Lib.hid (HB263.out.nob ((Keep.refl Nob _).drewN _))⟩
        case measure => simp [intOf]; omega
       | false =>
        go_wp2_with fail
        refine (HT.out.go (HPr.out _)).mono ?_; rintro e wp ⟨rfl, tp, kpp⟩
        have HTp := Lib.hid tp
        have hszp := tp.kp.size
        have HBp := Lib.hid (kpp.lb H.out HB.out hga)
        have HRp := Lib.hid (kpp.lb H.out HBr2.out hgr)
        clear tp kpp
        go_upto_region 22 with (first
         | (refine flatP.wpList_al rfl rfl ?_; intro wa261 ha261 ka261 sa261; clear sa261)
         | (refine flatP.wpList_st rfl rfl rfl rfl HCq.out HZ2.out ha261 ?_; intro wb261 hb261 kb261 sb261; clear sb261))
        have HB262 := Lib.hid ((HBp.out.nob ka261).keep kb261 (by have := HBp.out.lt; omega))
        have HB263 := Lib.hid ((HRp.out.nob ka261).keep kb261 (by have := HRp.out.lt; omega))
        have HT261 := Lib.hid ((HTp.out.nob ka261).st H.out ha261 (by decide) hszp kb261)
        have HB261 := Lib.hid hb261
        have hge261 := hszp
        generalize wp.heap.size = g261 at *
        clear ha261 ka261 hb261 kb261 HBp HRp HTp
        have ca : wb261.cell? ⟨ga, m, none⟩ = some (.int .i64 gm) := (HB262.out.cell m).trans HGm.out
        have c2 : wb261.cell? ⟨g261, 2, none⟩ = some (.int .i64 gm) := HB261.out.cell 2
        have c4 : wb261.cell? ⟨g261, 4, none⟩ = some (.int .i64 0) := HB261.out.cell 4
        go_upto_region 23 with fail
        go_quiet (fail)
        go_wp2_with fail
        go_roundw
        case rel => exact ⟨m + 1, _, by omega, by go_num, rfl, HS2.out, Lib.hid (HT261.out.nob ((Keep.refl Nob _).drewN _)), Lib.hid (HB262.out.nob ((Keep.refl Nob _).drewN _)), Lib.hid (HB263.out.nob ((Keep.refl Nob _).drewN _))⟩
        case measure => simp [intOf]; omega
    ·obtain rfl : m = 6 := by omega
     have cE : wr.cell? ⟨gr, 1, none⟩ = some (.int .i64 E) := HBr2.out.cell 1
     have hSE : (E = 0 ∧ sm = true) ∨ (E = 103 ∧ sm = false) := by
      rcases HE.out with ⟨h1, h2⟩ | ⟨h1, h2⟩
      ·exact .inl ⟨h1, (show sm = true ↔ _ from HSm.out).2 h2⟩
      ·refine .inr ⟨h1, ?_⟩
       cases hs : sm with
       | false => rfl
       | true =>
        obtain ⟨j, hj, h3⟩ := (show sm = true ↔ _ from HSm.out).1 hs
        rw [h2 j hj] at h3
        cases h3
     have KW := Lib.hid (HFin.out _ _ HT.out)
     have hlt6 : ¬ ((6 : Int) < 6) := by decide
     rcases hSE with ⟨rfl, rfl⟩ | ⟨rfl, rfl⟩
     ·go_wp2_with fail
      refine (awake_is _).mono ?_; rintro e wz ⟨rfl, kz⟩
      go_wp2
      go_ret
      exact ⟨rfl, (from_join2 KW.out kz).done⟩
     ·go_wp2_with fail
      refine (awake_is _).mono ?_; rintro e wz ⟨rfl, kz⟩
      go_wp2
      go_ret
      exact ⟨rfl, (from_join2 KW.out kz).done⟩
end Go.Proofs.YtgcikpgcoemfnaaGreat.Pr
namespace Go.Proofs.YtgcikpgcoemfnaaGreat
open Go.RowKit
theorem ProcGroups_walk (w : World) (A0 : Option Addr) (n0 c0 : Nat) (x0 : Ty.den (.sl 8 (.int .i64))) (w0 : Holds w (.sl 8 (.int .i64)) x0 [.slice A0 n0 c0]) (a1 : Int) (_ : (Lit.int .i64 a1).wf = true) (a2 : Int) (_ : (Lit.int .i64 a2).wf = true) :
  Calls Tryz.prog 8 #[.slice A0 n0 c0, .int .i64 a1, .int .i64 a2] w fun e w' => e = .returned (.bool true) ∧ Below w.heap.size w w' := Pr.groups_in w A0 n0 c0 x0 (Qu.holds_ints w0) a1 a2
end Go.Proofs.YtgcikpgcoemfnaaGreat
