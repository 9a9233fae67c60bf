/- Layer 8 (kern): the walk of KernCaps. -/
import Derived.Test.YtompckcnpidbdaaGreatLaw8h
import Derived.Test.YtompckcnpidbdaaGreatBoot2
import Derived.Test.YtompckcnpidbdaaGreatNames
import Derived.Test.YtompckcnpidbdaaGreatEq
namespace Go.Proofs.YtompckcnpidbdaaGreat
open Go.RowKit
set_option linter.unusedVariables false
set_option linter.unusedSimpArgs false
theorem Keep.six8 {w0 w : World} {b : Nat} (k : Keep Nob w0 w) (hb : w0.heap.size ≤ b) (v0 v1 v2 v3 v4 v5 : Value) : Keep Nob w0 ((((((w.setCell ⟨b, 0, none⟩ v0).setCell ⟨b, 1, none⟩ v1).setCell ⟨b, 2, none⟩ v2).setCell ⟨b, 3, none⟩ v3).setCell ⟨b, 4, none⟩ v4).setCell ⟨b, 5, none⟩ v5) := ((((((k.setCell ⟨b, 0, none⟩ v0 (fun h => absurd h (by show ¬ b < w0.heap.size; omega))).setCell ⟨b, 1, none⟩ v1 (fun h => absurd h (by show ¬ b < w0.heap.size; omega))).setCell ⟨b, 2, none⟩ v2 (fun h => absurd h (by show ¬ b < w0.heap.size; omega))).setCell ⟨b, 3, none⟩ v3 (fun h => absurd h (by show ¬ b < w0.heap.size; omega))).setCell ⟨b, 4, none⟩ v4 (fun h => absurd h (by show ¬ b < w0.heap.size; omega))).setCell ⟨b, 5, none⟩ v5 (fun h => absurd h (by show ¬ b < w0.heap.size; omega)))
theorem gave_pre (cs : Nat → List Cp) (envs tos : List Int) (c : Cp) (k e : Nat) : cs e <+: gave cs envs tos c k e := by
  unfold gave
  split
  · exact List.prefix_append _ _
  · exact List.prefix_refl _
theorem csAt_pre (envs : List Int) (sh : List Sh) (e i : Nat) : csAt envs sh i e <+: csAt envs sh (i + 1) e := by
  cases h : sh[i]? with
  | none => simp only [csAt, h]; exact List.prefix_refl _
  | some s => rw [csAt_next h]; exact gave_pre _ _ _ _ _ _
theorem csAt_mono (envs : List Int) (sh : List Sh) (e i : Nat) : ∀ d, csAt envs sh i e <+: csAt envs sh (i + d) e
  | 0 => List.prefix_refl _
  | d + 1 => (csAt_mono envs sh e i d).trans (csAt_pre envs sh e (i + d))
/-- A Share whose To the session is one of. -/
theorem csAt_mine {envs : List Int} {sh : List Sh} {e i j : Nat} {s : Sh} (hs : sh[i]? = some s) (he : e < envs.length) (hm : envs.getD e 0 ∈ s.tos) (hj : i + 1 ≤ j) :
    (csAt envs sh (i + 1) e).length = (csAt envs sh i e).length + 1 ∧ (csAt envs sh i e).length < (csAt envs sh j e).length ∧ (csAt envs sh j e)[(csAt envs sh i e).length]? = some ⟨i, 3, 0, s.n, (0, 0)⟩ := by
  have h1 : csAt envs sh (i + 1) e = csAt envs sh i e ++ [⟨i, 3, 0, s.n, (0, 0)⟩] := by
    rw [csAt_next hs]
    unfold gave
    rw [if_pos ⟨he, hm⟩]
  obtain ⟨d, rfl⟩ : ∃ d, j = i + 1 + d := ⟨j - (i + 1), by omega⟩
  obtain ⟨t, ht⟩ := csAt_mono envs sh e (i + 1) d
  refine ⟨by rw [h1, List.length_append, List.length_singleton], by rw [← ht, h1]; simp, ?_⟩
  rw [← ht, h1, List.getElem?_append_left (by simp), List.getElem?_append_right (Nat.le_refl _)]
  simp
theorem csAt_not {envs : List Int} {sh : List Sh} {e i : Nat} {s : Sh} (hs : sh[i]? = some s) (hm : envs.getD e 0 ∉ s.tos) : csAt envs sh (i + 1) e = csAt envs sh i e := by
  rw [csAt_next hs]
  unfold gave
  rw [if_neg (fun h => hm h.2)]
set_option maxRecDepth 100000 in
set_option maxHeartbeats 8000000 in
theorem caps_core (w : World) (A0 : Option Addr) (n0 c0 : Nat) (x0 : List Int) (w0 : Reads w A0 n0 (ints x0)) (a1 a2 a3 : Int) (m e : Nat) (hm : a1 % 256 = m) (hm2 : bits .and .i64 a1 255 = m) (he1 : (m : Int) % 5 = e) (he2 : (m : Int).tmod 5 = e) (he5 : e < 5) :
    Calls Tryz.prog 6 #[.slice A0 n0 c0, .int .i64 a1, .int .i64 a2, .int .i64 a3] w fun x w' => x = .returned (.bool true) ∧ Below w.heap.size w w' := by
  have hbt := boot_is (c := c0) w0
  unfold Bt.val at hbt
  have fd0 := field0
  go_enter Tryz.func6, Tryz.ntmps6
  go_wp2_with fail
  refine hbt.mono ?_; rintro x wb ⟨b, ns, rfl, hI, hok, h5, h3, h2, kB⟩
  have kx := (Keep.refl Nob wb).alloc (.cells #[.slice b.Af b.frames.length b.cf, .slice b.Ae b.envs.length b.ce, .slice b.As b.sects.length b.cs, .int .i64 b.lease, .slice b.Ah b.shared.length b.ch] 31)
  have hp := Blk.new wb 31 [.slice b.Af b.frames.length b.cf, .slice b.Ae b.envs.length b.ce, .slice b.As b.sects.length b.cs, .int .i64 b.lease, .slice b.Ah b.shared.length b.ch]
  have hI1 := hI.nob kx
  have kB1 := kB.nob kx
  have hnew := knew_is hI1 hok
  unfold Bt.val at hnew
  have HO := Lib.hid (And.intro h5 (And.intro h3 (And.intro h2 (And.intro hI1 (And.intro kB1 hp)))))
  clear hbt hI kB kx hI1 kB1 hok h2 hp h5 h3
  go_wp2_with fail
  refine hnew.mono ?_; rintro x w2 ⟨K, rfl, hF, hB⟩
  obtain ⟨h5, h3, h2, hI1, kB1, hp⟩ := HO.out
  generalize hW1 : wb.alloc (.cells #[.slice b.Af b.frames.length b.cf, .slice b.Ae b.envs.length b.ce, .slice b.As b.sects.length b.cs, .int .i64 b.lease, .slice b.Ah b.shared.length b.ch] 31) = W1 at *
  clear hW1 HO
  generalize wb.heap.size = pbx at *
  have h1 := hF.kn1
  have hp2 := hp.nob hF.keep
  obtain ⟨gH, oH, hAH, -⟩ := hI1.sh.lit (by rw [h3]; decide)
  obtain ⟨gE, oE, hAE, -⟩ := hI1.en.lit (by rw [h5]; decide)
  rw [hAH, hAE, h3, h5] at hp2
  have hn : K.envs.length = 5 := by rw [hB.envs]; exact h5
  have hsz : ∀ x, Mine K x → x < w2.heap.size := h1.is.mine_lt
  have hcs3 : ∀ x, (csAt b.envs b.shared 3 x).length ≤ 3 := fun x => csAt_len _ _ _ _
  have hT : K.T = tOf (csAt b.envs b.shared 3) := by rw [hB.T, h3]
  obtain ⟨ln, hln⟩ : ∃ ln, (csAt b.envs b.shared 3 e).length = ln := ⟨_, rfl⟩
  have hnames := snames_new h1.is.reg.sp (e := e) (by rw [hn]; exact he5)
  have hTe : K.T e = rowQ (csAt b.envs b.shared 3 e) := by rw [hT]; rfl
  rw [hTe, rowQ_len (by have := hcs3 e; omega), names_row _ (by have := hcs3 e; omega) 32 (Nat.le_refl _), show min 32 (csAt b.envs b.shared 3 e).length = ln by have := hcs3 e; omega, mk_len] at hnames
  have hln3 : ln ≤ 3 := by rw [← hln]; exact hcs3 e
  have HB := Lib.hid (And.intro hB (And.intro hT (And.intro hn (And.intro hln (And.intro hAH hAE)))))
  have HI := Lib.hid (And.intro hI1 (And.intro kB1 (And.intro h3 (And.intro h5 h2))))
  have p1 := hp2.cell 1
  simp only [List.getElem?_cons_zero, List.getElem?_cons_succ] at p1
  have hks := space_is h1.is
  have H1 := Lib.hid (And.intro h1 (And.intro hp2 hsz))
  clear hnew hF hB hT hn hln hTe hAH hAE hI1 kB1 h3 h5 h2 hp hcs3 h1 hp2 hsz
  go_wp2_with fail
  refine hks.mono ?_; rintro x w3 ⟨rfl, rfl⟩
  go_wp2_with fail
  refine hks.mono ?_; rintro x w3 ⟨rfl, rfl⟩
  go_wp2_with fail
  refine hnames.mono ?_; rintro x w3 ⟨nA, ncap, rfl, hv, hk3, hfr⟩
  have h3 := H1.out.1.nob hk3
  have hp3 := H1.out.2.1.nob hk3
  have HSZ := Lib.hid H1.out.2.2
  have HFR := Lib.hid hfr
  clear hnames hks p1 H1 hk3 hfr
  by_cases hz : ln = 0
  · go_wp2_with fail
    go_loopw [13, 14] (fun s13 s14 wx => ∃ i : Nat, i ≤ 3 ∧ s13 = .int .i64 ((csAt b.envs b.shared i e).length : Nat) ∧ s14 = .int .i64 i ∧ Kn0 W1 wx K ∧ Blk wx pbx 31 [.slice b.Af b.frames.length b.cf, .slice (some ⟨gE, oE, none⟩) 5 b.ce, .slice b.As b.sects.length b.cs, .int .i64 b.lease, .slice (some ⟨gH, oH, none⟩) 3 b.ch] ∧ Vec wx 3 1 nA ln ncap (ints (mk ln fun i => (i : Int) + 256))) (fun _ t _ => 3 - (intOf t).toNat)
    case atStart => exact ⟨0, by decide, rfl, rfl, h3, hp3, hv⟩
    case round =>
      clear h3 hp3 hv
      obtain ⟨i, hi, rfl, rfl, H, hP, hV⟩ := hrel
      obtain ⟨L, hL⟩ : ∃ L, (csAt b.envs b.shared i e).length = L := ⟨_, rfl⟩
      rw [hL]
      have p4 := hP.cell 4
      have p1 := hP.cell 1
      simp only [List.getElem?_cons_zero, List.getElem?_cons_succ] at p4 p1
      by_cases hlt : i < 3
      · obtain ⟨x, hx⟩ : ∃ x, b.shared[i]? = some x := ⟨_, List.getElem?_eq_getElem (by rw [HI.out.2.2.1]; exact hlt)⟩
        have hxm := List.mem_of_getElem? hx
        have hx2 := HI.out.2.2.2.2 x hxm
        obtain ⟨t0, t1, ht01⟩ : ∃ t0 t1, x.tos = [t0, t1] := by
          match h : x.tos, hx2 with
          | [a, c], _ => exact ⟨a, c, rfl⟩
        obtain ⟨ss, hss⟩ : ∃ ss, b.envs.getD e 0 = ss := ⟨_, rfl⟩
        obtain ⟨gT, oT, hAT, -⟩ := (HI.out.1.tos x hxm).lit (by rw [hx2]; decide)
        have ce : ∀ W, Kn0 W1 W K → W.cell? ⟨gH, oH + i * 5 + 3, none⟩ = some (.int .i64 x.n) ∧ W.cell? ⟨gH, oH + i * 5 + 4, none⟩ = some (.slice (some ⟨gT, oT, none⟩) 2 x.c) ∧ W.cell? ⟨gT, oT, none⟩ = some (.int .i64 t0) ∧ W.cell? ⟨gT, oT + 1, none⟩ = some (.int .i64 t1) ∧ W.cell? ⟨gE, oE + e, none⟩ = some (.int .i64 ss) := fun W h => by
          have hI2 := HI.out.1.from_ h.keep
          obtain ⟨g2, o2, a1, a2⟩ := hI2.sh.lit (by rw [HI.out.2.2.1]; decide)
          rw [HB.out.2.2.2.2.1] at a1
          cases a1
          obtain ⟨g3, o3, b1, b2⟩ := (hI2.tos x hxm).lit (by rw [hx2]; decide)
          rw [hAT] at b1
          cases b1
          obtain ⟨g4, o4, d1, d2⟩ := hI2.en.lit (by rw [HI.out.2.2.2.1]; decide)
          rw [HB.out.2.2.2.2.2] at d1
          cases d1
          have e3 := a2 _ _ (shares_get hx (j := 3) (by decide))
          have e4 := a2 _ _ (shares_get hx (j := 4) (by decide))
          rw [← Nat.add_assoc] at e3 e4
          have u0 := b2 0 (.int .i64 t0) (by rw [ht01]; rfl)
          have u1 := b2 1 (.int .i64 t1) (by rw [ht01]; rfl)
          have v0 := d2 e (.int .i64 ss) (by rw [ints_get, ← hss, List.getD_eq_getElem?_getD, List.getElem?_eq_getElem (by rw [HI.out.2.2.2.1]; exact he5)]; rfl)
          rw [hAT, hx2] at e4
          exact ⟨e3, e4, u0, u1, v0⟩
        have CE := Lib.hid ce
        have HT := Lib.hid (And.intro ht01 hss)
        have HXX := Lib.hid hx
        clear ce hAT ht01 hxm hx2 hx hss
        obtain ⟨c3, c4, cT0, cT1, cE⟩ := CE.out _ H
        go_wp2_with fail
        clear p4 p1 c3 c4 cT0 cT1 cE
        go_loopw [15, 16] (fun s15 s16 wx => ∃ (j : Nat) (bo : Bool), j ≤ 2 ∧ s16 = .int .i64 j ∧ s15 = .bool bo ∧ bo = decide (ss ∈ [t0, t1].take j) ∧ Kn0 W1 wx K ∧ Blk wx pbx 31 [.slice b.Af b.frames.length b.cf, .slice (some ⟨gE, oE, none⟩) 5 b.ce, .slice b.As b.sects.length b.cs, .int .i64 b.lease, .slice (some ⟨gH, oH, none⟩) 3 b.ch] ∧ Vec wx 3 1 nA ln ncap (ints (mk ln fun i => (i : Int) + 256))) (fun _ t _ => 2 - (intOf t).toNat)
        case atStart => exact ⟨0, false, by decide, rfl, rfl, by simp, H, hP, hV⟩
        case round =>
          clear H hP hV
          obtain ⟨j, bo, hj, rfl, rfl, hbo, H, hP, hV⟩ := hrel
          have HBO := Lib.hid hbo
          clear hbo
          obtain ⟨c3, c4, cT0, cT1, cE⟩ := CE.out _ H
          have p4 := hP.cell 4
          have p1 := hP.cell 1
          simp only [List.getElem?_cons_zero, List.getElem?_cons_succ] at p4 p1
          by_cases hj2 : j < 2
          · obtain ⟨tj, htj⟩ : ∃ tj, [t0, t1][j]? = some tj := ⟨_, List.getElem?_eq_getElem hj2⟩
            have cT : wr.cell? ⟨gT, oT + j, none⟩ = some (.int .i64 tj) := by
              rcases (show j = 0 ∨ j = 1 by omega) with rfl | rfl
              · simp at htj; subst htj; exact cT0
              · simp at htj; subst htj; exact cT1
            have hnext : ∀ v : Bool, v = (bo || decide (tj = ss)) → v = decide (ss ∈ [t0, t1].take (j + 1)) := fun v hv => by
              rw [hv, HBO.out, List.take_add_one, htj]
              have h1 : (ss = tj) = (tj = ss) := propext eq_comm
              simp [List.mem_append, h1]
            have HNX := Lib.hid hnext
            have HH := Lib.hid (And.intro H (And.intro hP hV))
            clear hnext htj H hP hV cT0 cT1
            cases bo with
            | true =>
              go_wp2_with fail
              go_quiet (fail)
              go_wp2_with fail
              go_roundw
              case rel => exact ⟨j + 1, true, by omega, by go_num, rfl, HNX.out true rfl, HH.out.1.nob ((Keep.refl Nob _).drewN nq), HH.out.2.1.drewN nq, HH.out.2.2.keep ((Keep.refl Nob _).drewN nq) (fun _ _ f => f)⟩
              case measure => simp [intOf]; omega
            | false =>
              by_cases hts : tj = ss
              · have hts2 : (tj == ss) = true := by simp [hts]
                go_wp2_with fail
                go_quiet (fail)
                go_wp2_with fail
                go_roundw
                case rel => exact ⟨j + 1, true, by omega, by go_num, (by simp [hts]), HNX.out true (by simp [hts]), HH.out.1.nob ((Keep.refl Nob _).drewN nq), HH.out.2.1.drewN nq, HH.out.2.2.keep ((Keep.refl Nob _).drewN nq) (fun _ _ f => f)⟩
                case measure => simp [intOf]; omega
              · have hts2 : (tj == ss) = false := by simpa using hts
                go_wp2_with fail
                go_quiet (fail)
                go_wp2_with fail
                go_roundw
                case rel => exact ⟨j + 1, false, by omega, by go_num, (by simp [hts]), HNX.out false (by simp [hts]), HH.out.1.nob ((Keep.refl Nob _).drewN nq), HH.out.2.1.drewN nq, HH.out.2.2.keep ((Keep.refl Nob _).drewN nq) (fun _ _ f => f)⟩
                case measure => simp [intOf]; omega
          · have hbo : bo = decide (ss ∈ x.tos) := by
              rw [HBO.out, HT.out.1, show j = 2 by omega]
              rfl
            have hx := HXX.out
            cases bo with
            | false =>
              have hin : b.envs.getD e 0 ∉ x.tos := by rw [HT.out.2]; exact of_decide_eq_false hbo.symm
              have hsame := csAt_not (sh := b.shared) (e := e) hx hin
              have HSA := Lib.hid hsame
              have HH := Lib.hid (And.intro H (And.intro hP hV))
              have HLL := Lib.hid hL
              clear hbo hsame hin hx H hP hV cT0 cT1 cE hL
              go_wp2_with fail
              go_roundw
              case rel => exact ⟨i + 1, by omega, by rw [HSA.out, HLL.out], by go_num, HH.out.1, HH.out.2.1, HH.out.2.2⟩
              case measure => simp [intOf]; omega
            | true =>
              have hin : b.envs.getD e 0 ∈ x.tos := by rw [HT.out.2]; exact of_decide_eq_true hbo.symm
              clear hbo cT0 cT1 cE
              have cT : True := trivial
              exfalso
              obtain ⟨q1, q2, q3⟩ := csAt_mine (envs := b.envs) (sh := b.shared) (e := e) (j := 3) hx (by rw [HI.out.2.2.2.1]; exact he5) hin (by omega)
              rw [HB.out.2.2.2.1] at q2
              omega
      · have hLn : L = ln := by
          have e3 : i = 3 := by omega
          rw [← hL, e3]
          exact HB.out.2.2.2.1
        have HH := Lib.hid H
        have hLn2 : ((L : Int) == ln) = true := by rw [hLn]; simp
        have HLN := Lib.hid hLn
        clear H hP hV hL
        subst hLn
        go_wp2_with fail
        refine (awake_true wr).mono ?_; rintro y w9 ⟨rfl, k9⟩
        go_wp2_with fail
        go_ret
        exact ⟨rfl, ((HI.out.2.1.trans HH.out.keep (fun b' hb m => by have := HI.out.2.1.size; have : W1.heap.size ≤ b' := m; show w.heap.size ≤ b'; omega)).nob k9).done⟩
  · obtain ⟨gN, _, hN, -, -, -, -⟩ := hv.at_ (by omega)
    subst hN
    go_wp2_with fail
    go_loopw [13, 14] (fun s13 s14 wx => ∃ i : Nat, i ≤ 3 ∧ s13 = .int .i64 ((csAt b.envs b.shared i e).length : Nat) ∧ s14 = .int .i64 i ∧ Kn0 W1 wx K ∧ Blk wx pbx 31 [.slice b.Af b.frames.length b.cf, .slice (some ⟨gE, oE, none⟩) 5 b.ce, .slice b.As b.sects.length b.cs, .int .i64 b.lease, .slice (some ⟨gH, oH, none⟩) 3 b.ch] ∧ Vec wx 3 1 (some ⟨gN, 0, none⟩) ln ncap (ints (mk ln fun i => (i : Int) + 256))) (fun _ t _ => 3 - (intOf t).toNat)
    case atStart => exact ⟨0, by decide, rfl, rfl, h3, hp3, hv⟩
    case round =>
      clear h3 hp3 hv
      obtain ⟨i, hi, rfl, rfl, H, hP, hV⟩ := hrel
      obtain ⟨L, hL⟩ : ∃ L, (csAt b.envs b.shared i e).length = L := ⟨_, rfl⟩
      rw [hL]
      have p4 := hP.cell 4
      have p1 := hP.cell 1
      simp only [List.getElem?_cons_zero, List.getElem?_cons_succ] at p4 p1
      by_cases hlt : i < 3
      · obtain ⟨x, hx⟩ : ∃ x, b.shared[i]? = some x := ⟨_, List.getElem?_eq_getElem (by rw [HI.out.2.2.1]; exact hlt)⟩
        have hxm := List.mem_of_getElem? hx
        have hx2 := HI.out.2.2.2.2 x hxm
        obtain ⟨t0, t1, ht01⟩ : ∃ t0 t1, x.tos = [t0, t1] := by
          match h : x.tos, hx2 with
          | [a, c], _ => exact ⟨a, c, rfl⟩
        obtain ⟨ss, hss⟩ : ∃ ss, b.envs.getD e 0 = ss := ⟨_, rfl⟩
        obtain ⟨gT, oT, hAT, -⟩ := (HI.out.1.tos x hxm).lit (by rw [hx2]; decide)
        have ce : ∀ W, Kn0 W1 W K → W.cell? ⟨gH, oH + i * 5 + 3, none⟩ = some (.int .i64 x.n) ∧ W.cell? ⟨gH, oH + i * 5 + 4, none⟩ = some (.slice (some ⟨gT, oT, none⟩) 2 x.c) ∧ W.cell? ⟨gT, oT, none⟩ = some (.int .i64 t0) ∧ W.cell? ⟨gT, oT + 1, none⟩ = some (.int .i64 t1) ∧ W.cell? ⟨gE, oE + e, none⟩ = some (.int .i64 ss) := fun W h => by
          have hI2 := HI.out.1.from_ h.keep
          obtain ⟨g2, o2, a1, a2⟩ := hI2.sh.lit (by rw [HI.out.2.2.1]; decide)
          rw [HB.out.2.2.2.2.1] at a1
          cases a1
          obtain ⟨g3, o3, b1, b2⟩ := (hI2.tos x hxm).lit (by rw [hx2]; decide)
          rw [hAT] at b1
          cases b1
          obtain ⟨g4, o4, d1, d2⟩ := hI2.en.lit (by rw [HI.out.2.2.2.1]; decide)
          rw [HB.out.2.2.2.2.2] at d1
          cases d1
          have e3 := a2 _ _ (shares_get hx (j := 3) (by decide))
          have e4 := a2 _ _ (shares_get hx (j := 4) (by decide))
          rw [← Nat.add_assoc] at e3 e4
          have u0 := b2 0 (.int .i64 t0) (by rw [ht01]; rfl)
          have u1 := b2 1 (.int .i64 t1) (by rw [ht01]; rfl)
          have v0 := d2 e (.int .i64 ss) (by rw [ints_get, ← hss, List.getD_eq_getElem?_getD, List.getElem?_eq_getElem (by rw [HI.out.2.2.2.1]; exact he5)]; rfl)
          rw [hAT, hx2] at e4
          exact ⟨e3, e4, u0, u1, v0⟩
        have CE := Lib.hid ce
        have HT := Lib.hid (And.intro ht01 hss)
        have HXX := Lib.hid hx
        clear ce hAT ht01 hxm hx2 hx hss
        obtain ⟨c3, c4, cT0, cT1, cE⟩ := CE.out _ H
        go_wp2_with fail
        clear p4 p1 c3 c4 cT0 cT1 cE
        go_loopw [15, 16] (fun s15 s16 wx => ∃ (j : Nat) (bo : Bool), j ≤ 2 ∧ s16 = .int .i64 j ∧ s15 = .bool bo ∧ bo = decide (ss ∈ [t0, t1].take j) ∧ Kn0 W1 wx K ∧ Blk wx pbx 31 [.slice b.Af b.frames.length b.cf, .slice (some ⟨gE, oE, none⟩) 5 b.ce, .slice b.As b.sects.length b.cs, .int .i64 b.lease, .slice (some ⟨gH, oH, none⟩) 3 b.ch] ∧ Vec wx 3 1 (some ⟨gN, 0, none⟩) ln ncap (ints (mk ln fun i => (i : Int) + 256))) (fun _ t _ => 2 - (intOf t).toNat)
        case atStart => exact ⟨0, false, by decide, rfl, rfl, by simp, H, hP, hV⟩
        case round =>
          clear H hP hV
          obtain ⟨j, bo, hj, rfl, rfl, hbo, H, hP, hV⟩ := hrel
          have HBO := Lib.hid hbo
          clear hbo
          obtain ⟨c3, c4, cT0, cT1, cE⟩ := CE.out _ H
          have p4 := hP.cell 4
          have p1 := hP.cell 1
          simp only [List.getElem?_cons_zero, List.getElem?_cons_succ] at p4 p1
          by_cases hj2 : j < 2
          · obtain ⟨tj, htj⟩ : ∃ tj, [t0, t1][j]? = some tj := ⟨_, List.getElem?_eq_getElem hj2⟩
            have cT : wr.cell? ⟨gT, oT + j, none⟩ = some (.int .i64 tj) := by
              rcases (show j = 0 ∨ j = 1 by omega) with rfl | rfl
              · simp at htj; subst htj; exact cT0
              · simp at htj; subst htj; exact cT1
            have hnext : ∀ v : Bool, v = (bo || decide (tj = ss)) → v = decide (ss ∈ [t0, t1].take (j + 1)) := fun v hv => by
              rw [hv, HBO.out, List.take_add_one, htj]
              have h1 : (ss = tj) = (tj = ss) := propext eq_comm
              simp [List.mem_append, h1]
            have HNX := Lib.hid hnext
            have HH := Lib.hid (And.intro H (And.intro hP hV))
            clear hnext htj H hP hV cT0 cT1
            cases bo with
            | true =>
              go_wp2_with fail
              go_quiet (fail)
              go_wp2_with fail
              go_roundw
              case rel => exact ⟨j + 1, true, by omega, by go_num, rfl, HNX.out true rfl, HH.out.1.nob ((Keep.refl Nob _).drewN nq), HH.out.2.1.drewN nq, HH.out.2.2.keep ((Keep.refl Nob _).drewN nq) (fun _ _ f => f)⟩
              case measure => simp [intOf]; omega
            | false =>
              by_cases hts : tj = ss
              · have hts2 : (tj == ss) = true := by simp [hts]
                go_wp2_with fail
                go_quiet (fail)
                go_wp2_with fail
                go_roundw
                case rel => exact ⟨j + 1, true, by omega, by go_num, (by simp [hts]), HNX.out true (by simp [hts]), HH.out.1.nob ((Keep.refl Nob _).drewN nq), HH.out.2.1.drewN nq, HH.out.2.2.keep ((Keep.refl Nob _).drewN nq) (fun _ _ f => f)⟩
                case measure => simp [intOf]; omega
              · have hts2 : (tj == ss) = false := by simpa using hts
                go_wp2_with fail
                go_quiet (fail)
                go_wp2_with fail
                go_roundw
                case rel => exact ⟨j + 1, false, by omega, by go_num, (by simp [hts]), HNX.out false (by simp [hts]), HH.out.1.nob ((Keep.refl Nob _).drewN nq), HH.out.2.1.drewN nq, HH.out.2.2.keep ((Keep.refl Nob _).drewN nq) (fun _ _ f => f)⟩
                case measure => simp [intOf]; omega
          · have hbo : bo = decide (ss ∈ x.tos) := by
              rw [HBO.out, HT.out.1, show j = 2 by omega]
              rfl
            have hx := HXX.out
            cases bo with
            | false =>
              have hin : b.envs.getD e 0 ∉ x.tos := by rw [HT.out.2]; exact of_decide_eq_false hbo.symm
              have hsame := csAt_not (sh := b.shared) (e := e) hx hin
              have HSA := Lib.hid hsame
              have HH := Lib.hid (And.intro H (And.intro hP hV))
              have HLL := Lib.hid hL
              clear hbo hsame hin hx H hP hV cT0 cT1 cE hL
              go_wp2_with fail
              go_roundw
              case rel => exact ⟨i + 1, by omega, by rw [HSA.out, HLL.out], by go_num, HH.out.1, HH.out.2.1, HH.out.2.2⟩
              case measure => simp [intOf]; omega
            | true =>
              have hin : b.envs.getD e 0 ∈ x.tos := by rw [HT.out.2]; exact of_decide_eq_true hbo.symm
              clear hbo cT0 cT1 cE
              have cT : True := trivial
              obtain ⟨q1, q2, q3⟩ := csAt_mine (envs := b.envs) (sh := b.shared) (e := e) (j := 3) hx (by rw [HI.out.2.2.2.1]; exact he5) hin (by omega)
              rw [HB.out.2.2.2.1, hL] at q2
              rw [hL] at q1 q3
              have Q := Lib.hid (And.intro q1 q3)
              have q2' : (L : Int) < ln := by omega
              clear q1 q3 hin
              obtain ⟨gN2, cur, hN, hbN, hn1, hn2, hn3⟩ := hV.at_ (by omega)
              cases hN
              have hcn : wr.cell? ⟨gN, L, none⟩ = some (.int .i64 ((L : Int) + 256)) := by
                have e1 : (ints (mk ln fun i => (i : Int) + 256))[L]? = some (.int .i64 ((L : Int) + 256)) := by rw [ints_get, mk_get q2]; rfl
                rw [← hn3, List.getElem?_take, if_pos (by omega)] at e1
                rw [hbN.cell]; exact e1
              have hhas : Has K.T K.envs.length ((e : Int), (L : Int) + 256) ⟨i, 3, 0, x.n, (0, 0)⟩ := by
                rw [HB.out.2.1, HB.out.2.2.1, row_has (fun y _ => by have := csAt_len b.envs b.shared 3 y; omega)]
                exact ⟨e, L, he5, rfl, Q.out.2⟩
              clear hn1 hn2 hn3 hbN
              have kd := Keep.nobdrew wr
              have kz := ((Keep.refl Nob wr).alloc (.cells #[.int .i64 0, .int .i64 0, .int .i64 0, .int .i64 0, .int .i64 0, .int .i64 0] 61)).drew
              have bz : Blk (wr.alloc (.cells #[.int .i64 0, .int .i64 0, .int .i64 0, .int .i64 0, .int .i64 0, .int .i64 0] 61)).drew wr.heap.size 61 [.int .i64 0, .int .i64 0, .int .i64 0, .int .i64 0, .int .i64 0, .int .i64 0] := (Blk.new wr 61 [.int .i64 0, .int .i64 0, .int .i64 0, .int .i64 0, .int .i64 0, .int .i64 0]).nob (Keep.nobdrew _)
              have hle : wr.heap.size ≤ wr.heap.size := Nat.le_refl _
              have hsp : ∀ W, IsKn W K → Calls Tryz.prog 16 #[.pointer (some ⟨K.k, 0, none⟩)] W fun e' w' => e' = .returned (.pointer (some ⟨K.s, 0, none⟩)) ∧ W = w' := fun W h => space_is h
              have hget : ∀ W, IsKn W K → Calls Tryz.prog 18 #[.pointer (some ⟨K.s, 0, none⟩), .int .i64 e, .int .i64 ((L : Int) + 256)] W fun e' w' => e' = .returned (.tuple #[.agg #[.int .i64 i, .int .i64 3, .int .i64 0, .int .i64 x.n, .int .i64 0, .int .i64 0], .int .i64 0]) ∧ Keep Nob W w' := fun W h => sget_yes h.reg.sp _ hhas
              have HQ := Lib.hid (And.intro hsp (And.intro hget (And.intro H.is (And.intro H (And.intro hP (And.intro hV hhas))))))
              have hdx := H.is.nob kd
              have hzx := H.is.nob kz
              have s0 : wr.drew.cell? ⟨gN, L, none⟩ = some (.int .i64 ((L : Int) + 256)) := hcn
              have s1 := kz.cell_nob hcn
              have hc1 : ∀ W, Keep Nob wr W → W.cell? ⟨gN, L, none⟩ = some (.int .i64 ((L : Int) + 256)) := fun W kk => kk.cell_nob hcn
              have c1a := HQ.out.1 _ hdx
              have c1b := HQ.out.1 _ hzx
              have c2a := HQ.out.2.1 _ hdx
              have c2b := HQ.out.2.1 _ hzx
              have hcs : ∀ W, (Op.equalIn 10000 61 (.agg #[.int .i64 i, .int .i64 3, .int .i64 0, .int .i64 x.n, .int .i64 0, .int .i64 0]) (.agg #[.int .i64 i, .int .i64 3, .int .i64 0, .int .i64 x.n, .int .i64 0, .int .i64 0])).run Tryz.prog W = .ok true W := fun W => cap_same 9997 _ _ _ _ _ _ W
              clear hsp hget hhas H hP hV hx hcn c3 cT
              go_wp2_with fail
              clear c4 p4 p1
              go_region_held3 (fun w' => w'.cell? ⟨gN, L, none⟩ = some (.int .i64 ((L : Int) + 256)))
                (first | (with_reducible_and_instances exact s0) | (with_reducible_and_instances exact s1) | (with_reducible_and_instances exact hc1 _ k1) | (with_reducible_and_instances exact hc1 _ (k1.alloc _)) | (with_reducible_and_instances exact hc1 _ (k1.six8 hle _ _ _ _ _ _)))
                (first
                  | (go_at_call 16; (with_reducible_and_instances apply Calls.mono c1a); rintro y w4 ⟨rfl, rfl⟩)
                  | (go_at_call 16; (with_reducible_and_instances apply Calls.mono c1b); rintro y w4 ⟨rfl, rfl⟩)
                  | (go_at_call 18; (with_reducible_and_instances apply Calls.mono c2a); rintro y w5 ⟨rfl, kg⟩; have k1 := kd.trans kg (fun _ _ f => f))
                  | (go_at_call 18; (with_reducible_and_instances apply Calls.mono c2b); rintro y w5 ⟨rfl, kg⟩; have k1 := kz.trans kg (fun _ _ f => f); have bz3 := bz.nob kg; have z0 : w5.cell? ⟨wr.heap.size, 0, none⟩ = some (.int .i64 0) := bz3.cell 0; have z1 : w5.cell? ⟨wr.heap.size, 1, none⟩ = some (.int .i64 0) := bz3.cell 1; have z2 : w5.cell? ⟨wr.heap.size, 2, none⟩ = some (.int .i64 0) := bz3.cell 2; have z3 : w5.cell? ⟨wr.heap.size, 3, none⟩ = some (.int .i64 0) := bz3.cell 3; have z4 : w5.cell? ⟨wr.heap.size, 4, none⟩ = some (.int .i64 0) := bz3.cell 4; have z5 : w5.cell? ⟨wr.heap.size, 5, none⟩ = some (.int .i64 0) := bz3.cell 5; have f0 := bz3.frozen 0; have f1 := bz3.frozen 1; have f2 := bz3.frozen 2; have f3 := bz3.frozen 3; have f4 := bz3.frozen 4; have f5 := bz3.frozen 5))
              all_goals
                first
                  | (have ka := k1.six8 hle (.int .i64 i) (.int .i64 3) (.int .i64 0) (.int .i64 x.n) (.int .i64 0) (.int .i64 0)
                     have C6 : Blk _ wr.heap.size 61 [.int .i64 i, .int .i64 3, .int .i64 0, .int .i64 x.n, .int .i64 0, .int .i64 0] := (((((bz3.setCell 0 (.int .i64 i)).setCell 1 (.int .i64 3)).setCell 2 (.int .i64 0)).setCell 3 (.int .i64 x.n)).setCell 4 (.int .i64 0)).setCell 5 (.int .i64 0)
                     clear bz3 z0 z1 z2 z3 z4 z5 f0 f1 f2 f3 f4 f5)
                  | (have ka := k1.alloc (.cells #[.int .i64 i, .int .i64 3, .int .i64 0, .int .i64 x.n, .int .i64 0, .int .i64 0] 61)
                     have C6 := Blk.new w5 61 [.int .i64 i, .int .i64 3, .int .i64 0, .int .i64 x.n, .int .i64 0, .int .i64 0])
                have H6 := HQ.out.2.2.2.1.nob ka
                have P6 := HQ.out.2.2.2.2.1.nob ka
                have V6 := HQ.out.2.2.2.2.2.1.keep ka (fun _ _ f => f)
                have cn6 := hc1 _ ka
                obtain ⟨c3, c4, cT0, cT1, cE⟩ := CE.out _ H6
                have p4 := P6.cell 4
                have y0 := C6.cell 0
                have y1 := C6.cell 1
                have y2 := C6.cell 2
                have y3 := C6.cell 3
                have y4 := C6.cell 4
                have y5 := C6.cell 5
                simp only [List.getElem?_cons_zero, List.getElem?_cons_succ] at p4 y0 y1 y2 y3 y4 y5
                clear ka kg k1 hc1 s0 s1 hdx hzx C6 kd kz bz c1a c1b c2a c2b
                go_wp2_with fail
                go_quiet (fail)
                have H7 := H6.nob ((Keep.refl Nob _).drewN nq)
                have P7 := P6.drewN nq
                have V7 := V6.keep ((Keep.refl Nob _).drewN nq) (fun _ _ f => f)
                have hgr := k_grant_noright H7.is e (by rw [HB.out.2.2.1]; exact he5) ((L : Int) + 256) 0 a3 a2 1 none 0 0 _ HQ.out.2.2.2.2.2.2 (by dsimp only; intro h; exact absurd h.1 (by decide))
                have HR := Lib.hid (And.intro H7 (And.intro P7 V7))
                clear H6 P6 V6 H7 P7 V7 c3 c4 cT0 cT1 cE p4 y0 y1 y2 y3 y4 y5
                go_wp2_with fail
                refine hgr.mono ?_; rintro y w8 ⟨rfl, t8⟩
                have H8 := HR.out.1.to t8
                have P8 := HR.out.1.is.offT HR.out.2.1 (by decide) t8.keep
                have V8 := HR.out.2.2.keep t8.keep (fun g hg m => by have := HFR.out g hg; have := HSZ.out g (.inl m); omega)
                clear hgr t8 HR
                go_wp2_with fail
                go_roundw
                case rel => exact ⟨i + 1, by omega, by rw [Q.out.1]; go_num, by go_num, H8, P8, V8⟩
                case measure => simp [intOf]; omega
      · have hLn : L = ln := by
          have e3 : i = 3 := by omega
          rw [← hL, e3]
          exact HB.out.2.2.2.1
        have HH := Lib.hid H
        have hLn2 : ((L : Int) == ln) = true := by rw [hLn]; simp
        have HLN := Lib.hid hLn
        clear H hP hV hL
        subst hLn
        go_wp2_with fail
        refine (awake_true wr).mono ?_; rintro y w9 ⟨rfl, k9⟩
        go_wp2_with fail
        go_ret
        exact ⟨rfl, ((HI.out.2.1.trans HH.out.keep (fun b' hb m => by have := HI.out.2.1.size; have : W1.heap.size ≤ b' := m; show w.heap.size ≤ b'; omega)).nob k9).done⟩
theorem KernCaps_walk (w : World) (A0 : Option Addr) (n0 c0 : Nat) (x0 : Ty.den (.sl 8 (.int .i64))) (w0 : Holds w (.sl 8 (.int .i64)) x0 [.slice A0 n0 c0]) (a1 : Int) (w1 : (Lit.int .i64 a1).wf = true) (a2 : Int) (w2 : (Lit.int .i64 a2).wf = true) (a3 : Int) (w3 : (Lit.int .i64 a3).wf = true) :
    Calls Tryz.prog 6 #[.slice A0 n0 c0, .int .i64 a1, .int .i64 a2, .int .i64 a3] w fun e w' => e = .returned (.bool true) ∧ Below w.heap.size w w' := by
  obtain ⟨m, hm⟩ := Int.eq_ofNat_of_zero_le (show 0 ≤ a1 % 256 by omega)
  exact caps_core w A0 n0 c0 x0 (Qu.holds_ints w0) a1 a2 a3 m (m % 5) hm ((i64_mask a1 8 (by decide)).trans hm) (by omega) (by rw [Int.tmod_eq_emod_of_nonneg (by omega)]; omega) (Nat.mod_lt _ (by decide))
end Go.Proofs.YtompckcnpidbdaaGreat
