/- Layer 5 (region): the walk of RegionGone. -/
import Derived.Test.YtedfoffcgfijoaaLaw5a
import Derived.Deep.DeepCutAuto
import Derived.Deep.CutBlock
import Derived.Deep.RegionHeld3
namespace Go.Proofs.Ytedfoffcgfijoaa
open Go.RowKit
set_option linter.unusedVariables false
set_option linter.unusedSimpArgs false
/-- A row of grants of all of region 0, from environment 0 on. -/
structure RowOf (L : List (Rf × Cp)) (nm : Nat → Int) : Prop where
  at_ : ∀ (j : Nat) x, L[j]? = some x → x.1 = ((j : Int), nm j) ∧ x.2.obj = 0 ∧ x.2.rights = 7 ∧ x.2.lo = 0 ∧ x.2.n = 60
theorem RowOf.one {ρ : Rf} {a : Int} {c : Cp} (h : ρ = (0, a)) (h1 : c.obj = 0) (h2 : c.rights = 7) (h3 : c.lo = 0) (h4 : c.n = 60) : RowOf [(ρ, c)] (fun j => if j = 0 then a else 0) := by
  refine ⟨fun j x hx => ?_⟩
  cases j with
  | zero => simp at hx; subst hx; exact ⟨by simp [h], h1, h2, h3, h4⟩
  | succ j => simp at hx
theorem RowOf.add {L : List (Rf × Cp)} {nm : Nat → Int} (h : RowOf L nm) {i : Nat} (hi : L.length = i) {a : Int} {c : Cp} (h1 : c.obj = 0) (h2 : c.rights = 7) (h3 : c.lo = 0) (h4 : c.n = 60) : RowOf (L ++ [(((i : Int), a), c)]) (fun j => if j = i then a else nm j) := by
  refine ⟨fun j x hx => ?_⟩
  by_cases hj : j < L.length
  · rw [List.getElem?_append_left hj] at hx
    rw [if_neg (by omega)]
    exact h.at_ j x hx
  · have := get_lt hx
    simp at this
    obtain rfl : j = i := by omega
    rw [List.getElem?_append_right (by omega), hi, Nat.sub_self] at hx
    simp at hx
    subst hx
    exact ⟨by simp, h1, h2, h3, h4⟩
def nmc (nm : Nat → Int) (i : Nat) : List Value := mk 4 fun j => .int .i64 (if j < i then nm j else 0)
theorem nmc_get {nm : Nat → Int} {i j : Nat} (h : j < 4) (hj : j < i) : (nmc nm i)[j]? = some (.int .i64 (nm j)) := by rw [nmc, mk_get h, if_pos hj]
theorem nmc_old {nm : Nat → Int} {i j : Nat} (h : j < 4) (hj : ¬ j < i) : (nmc nm i)[j]? = some (.int .i64 0) := by rw [nmc, mk_get h, if_neg hj]
theorem nmc_set {nm : Nat → Int} {i : Nat} {a : Int} (h : i < 4) : (nmc nm i).set i (.int .i64 a) = nmc (fun j => if j = i then a else nm j) (i + 1) := mk_set _ (fun j hj => by
  by_cases e : j = i
  · subst e; simp
  · rw [if_neg e]
    congr 1
    by_cases h2 : j < i
    · rw [if_pos h2, if_pos (by omega)]; exact (if_neg e).symm
    · rw [if_neg h2, if_neg (by omega)])
set_option maxRecDepth 100000 in
set_option maxHeartbeats 8000000 in
theorem gone_core (w : World) (A0 : Option Addr) (c0 : Nat) (b : List UInt8) (rb : Reads w A0 b.length (bytes b)) (hb : b.length ≤ 60) (a1 : Int) (t : Nat) (h1 : bits .and .i64 a1 3 = (t : Int)) (ht : t < 4) :
    Calls Try.prog 5 #[.slice A0 b.length c0, .int .i64 a1] w fun e w' => e = .returned (.bool true) ∧ Below w.heap.size w w' := by
  have hb' : (b.length : Int) ≤ 60 := by omega
  go_enter Try.func5, Try.ntmps5
  go_wp2_with fail
  refine (new_is _ 2 (by omega) _).mono ?_; rintro e w1 ⟨m, mr, rfl, hm, hmp, hmr, k1⟩
  go_wp2_with fail
  refine (new0 (w0 := w) 4 4 (by omega) ((Keep.refl _ w).nob k1)).mono ?_; rintro e w2 ⟨s, B, p, r, rfl, S1, k2, _⟩
  go_wp2_with fail
  refine (rg_new (hm.nob k2) S1 hmr).mono ?_; rintro e w3 ⟨q, rfl, R3, _⟩
  clear hm S1 k1 k2
  go_wp2_with fail
  refine (R3.add (lo := 3) (k := 60) (by rw [zeros_len]; decide) (by decide) 0 rfl [(3, 60)] rfl).mono ?_; rintro e w4 ⟨A, cap, rfl, R4, _⟩
  have k5 := (Keep.refl Nob w4).alloc (.cells #[.int .i64 0, .int .i64 0, .int .i64 0, .int .i64 0] 47)
  have R5 := R4.nob k5
  have b5 : Blk (w4.alloc (.cells #[.int .i64 0, .int .i64 0, .int .i64 0, .int .i64 0] 47)) w4.heap.size 47 [.int .i64 0, .int .i64 0, .int .i64 0, .int .i64 0] := Blk.new w4 _ _
  have hgl := R4.keep.size
  clear R3 R4
  go_wp2_with fail
  refine (R5.put 0 (by decide) ⟨0, 7, 0, 60, (0, 0)⟩ (by decide) (by decide) (by decide)).mono ?_; rintro e w6 ⟨a, er, T6, rfl, hA, R6, k6⟩
  obtain ⟨rfl, em1, hn1, hh1⟩ := hA.room_at R5.g.inv (by decide) (empties_init 0) (by decide)
  have em : ∀ e, 1 ≤ e → Empties T6 e 0 := fun e he => (empties_init e).of_eq (hA.other (by omega))
  have b6 := R5.off b5 (by decide) k6
  have ch : Chain T6 4 [((((0 : Nat) : Int), a), (⟨0, 7, 0, 60, (0, 0)⟩ : Cp))] := Chain.one (fun σ d => by rw [hh1]; exact ⟨fun h => h.elim (fun h => (init_has h).elim) id, .inr⟩) rfl
  have ro : RowOf [((((0 : Nat) : Int), a), (⟨0, 7, 0, 60, (0, 0)⟩ : Cp))] (fun j => if j = 0 then a else 0) := RowOf.one rfl rfl rfl rfl rfl
  clear hA hn1 hh1 em1 b5 R5
  generalize w4.heap.size = gN at *
  have z0 : w6.cell? ⟨gN, 0, none⟩ = some (.int .i64 0) := b6.cell 0
  have z1 := b6.frozen 0
  have b7 := b6.setCell 0 (.int .i64 a)
  have kn : Keep (· = gN) w6 (w6.setCell ⟨gN, 0, none⟩ (.int .i64 a)) := (Keep.refl _ w6).setCell _ _ (fun _ => rfl)
  have bn : Blk (w6.setCell ⟨gN, 0, none⟩ (.int .i64 a)) gN 47 (nmc (fun j => if j = 0 then a else 0) 1) := b7
  have R7 := R6.farT b6 (by decide) hgl kn
  clear R6 b6 b7 k6 k5
  go_wp2
  go_loopw [11, 12, 13] (fun s11 _ _ wx => ∃ (i : Nat) (T : St) (L : List (Rf × Cp)) (nm : Nat → Int), 1 ≤ i ∧ i ≤ 4 ∧ s11 = .int .i64 i ∧ L.length = i ∧ Chain T 4 L ∧ RowOf L nm ∧ (∀ e, i ≤ e → Empties T e 0) ∧ Blk wx gN 47 (nmc nm i) ∧ Rg0 w wx q m mr s B 4 p r A cap (zeros 2) T [(3, 60)]) (fun s11 _ _ _ => 4 - (intOf s11).toNat)
  case atStart => exact ⟨1, T6, _, _, Nat.le_refl _, by decide, rfl, rfl, ch, ro, em, bn, R7⟩
  case round =>
    obtain ⟨i, T, L, nm, hi1, hi4, rfl, hL, chT, roT, emT, bT, RT⟩ := hrel
    clear ch ro em bn R7 z0 z1 kn
    by_cases hlt : i < 4
    · obtain ⟨k, rfl⟩ : ∃ k, i = k + 1 := ⟨i - 1, by omega⟩
      obtain ⟨x, hx⟩ : ∃ x, L[k]? = some x := ⟨_, List.getElem?_eq_getElem (by omega)⟩
      obtain ⟨e1, e2, e3, e4, e5⟩ := roT.at_ k x hx
      obtain ⟨xr, xc⟩ := x
      simp only at e1 e2 e3 e4 e5
      subst e1
      have hh := (chT.has _ _).2 (List.mem_of_getElem? hx)
      have zk : wr.cell? ⟨gN, k, none⟩ = some (.int .i64 (nm k)) := by rw [bT.cell]; exact nmc_get (by omega) (by omega)
      have hk1 : (((k + 1 : Nat) : Int) - 1) = (k : Int) := by omega
      have hk2 : ((k + 1 : Nat) : Int) < 4 := by omega
      go_wp2_with fail
      refine (RT.grant (k + 1) (by omega) xc hh (by rw [e3]; decide) (by rw [e3]; decide) (by decide) (by rw [e5]; decide)).mono ?_; rintro e w8 ⟨y, er, T8, rfl, hB, R8, k8⟩
      obtain ⟨rfl, em1, hn2, hh2⟩ := hB.room_at RT.g.inv (by omega) (emT (k + 1) (Nat.le_refl _)) (by decide)
      have em8 : ∀ e, k + 1 + 1 ≤ e → Empties T8 e 0 := fun e he => (emT e (by omega)).of_eq (hB.other (by omega))
      have b8 := RT.off bT (by decide) k8
      have ch8 := chT.add (k := k) hL hx hn2 hh2 rfl
      have ro8 := roT.add hL (a := y) (c := ⟨xc.obj, 7, xc.lo + 0, 60, ((k : Int), nm k)⟩) e2 rfl (by dsimp only; omega) rfl
      have z0 : w8.cell? ⟨gN, k + 1, none⟩ = some (.int .i64 0) := by rw [b8.cell]; exact nmc_old (by omega) (by omega)
      have z1 := b8.frozen (k + 1)
      have b9 := b8.setCell (k + 1) (.int .i64 y)
      rw [nmc_set (by omega)] at b9
      have kn : Keep (· = gN) w8 (w8.setCell ⟨gN, k + 1, none⟩ (.int .i64 y)) := (Keep.refl _ w8).setCell _ _ (fun _ => rfl)
      have R9 := R8.farT b8 (by decide) hgl kn
      clear hB hn2 hh2 hh chT roT emT
      go_wp2_with fail
      go_roundw
      case rel => exact ⟨k + 1 + 1, T8, _, _, by omega, by omega, by go_num, by rw [List.length_append, hL]; rfl, ch8, ro8, em8, b9, R9⟩
      case measure => simp [intOf]; omega
    · obtain rfl : i = 4 := by omega
      obtain ⟨x3, hx3⟩ : ∃ x, L[3]? = some x := ⟨_, List.getElem?_eq_getElem (by omega)⟩
      obtain ⟨xt, hxt⟩ : ∃ x, L[t]? = some x := ⟨_, List.getElem?_eq_getElem (by omega)⟩
      have z3 : wr.cell? ⟨gN, 3, none⟩ = some (.int .i64 (nm 3)) := by rw [bT.cell]; exact nmc_get (by omega) (by omega)
      have hh3 : Has T 4 (((3 : Nat) : Int), nm 3) x3.2 := by rw [← (roT.at_ 3 x3 hx3).1]; exact (chT.has _ _).2 (List.mem_of_getElem? hx3)
      have f3 := (roT.at_ 3 x3 hx3).2
      have hht : Has T 4 ((t : Int), nm t) xt.2 := by rw [← (roT.at_ t xt hxt).1]; exact (chT.has _ _).2 (List.mem_of_getElem? hxt)
      have ft := (roT.at_ t xt hxt).1
      obtain ⟨zs, hzs⟩ : ∃ zs, splice (zeros 2) 3 b = zs := ⟨_, rfl⟩
      have hlz : zs.length = 128 := by rw [← hzs, splice_len _ _ _ (by rw [zeros_len]; omega), zeros_len]
      have hmid : (zs.drop 3).take b.length = b := by rw [← hzs]; exact splice_mid _ _ _ (by rw [zeros_len]; omega)
      have fit : ∀ (c : Cp), (c.obj = 0 ∧ c.rights = 7 ∧ c.lo = 0 ∧ c.n = 60) → Fits [(3, 60)] c 0 b.length (3, 60) := fun c ⟨f1, f2, f3, f4⟩ => ⟨by decide, by omega, by rw [f4]; omega, by rw [f1]; decide, by rw [f1]; rfl, by rw [f3]; dsimp only; omega⟩
      have HZ := Lib.hid hzs
      have HL := Lib.hid hlz
      have HM := Lib.hid hmid
      have HF := Lib.hid fit
      clear hzs hlz hmid fit
      go_wp2_with fail
      refine (RT.write 3 b (.yes x3.2 (3, 60) _ hh3 (by rw [f3.2.1]; decide) (HF.out _ f3) (by rw [f3.2.2.1]; decide)) (RT.old rb) zs HZ.out).mono ?_; rintro e w8 ⟨rfl, R8, k8⟩
      have b8 := bT.keep k8 (bT.ne_ RT.g.mem.row (by decide))
      have zt : w8.cell? ⟨gN, t, none⟩ = some (.int .i64 (nm t)) := by rw [b8.cell]; exact nmc_get (by omega) (by omega)
      have hti : (t : Int) < 4 := by omega
      clear RT bT z3 hh3 f3 hx3 emT
      go_wp2_with fail
      refine (R8.revoke _ hht).mono ?_; rintro e w9 ⟨U, he, hU1, hU2, R9, k9⟩
      have hp := chT.under R8.g.inv hxt hU1 (by rw [ft]; exact hU2)
      have hlen : U.length = 3 - t := by rw [hp.length_eq, List.length_map, List.length_drop, hL]; omega
      have ch9 := chT.gone R8.g.inv hxt (by rw [ft]; exact hU2)
      rw [ft] at ch9
      have hret : (1 + (U.length : Int)) = 4 - t := by rw [hlen]; omega
      rw [hret] at he
      subst he
      have b9 := R8.off b8 (by decide) k9
      have key : ∀ j, j < 4 → (j < t → ∃ c : Cp, (c.obj = 0 ∧ c.rights = 7 ∧ c.lo = 0 ∧ c.n = 60) ∧ Has (gone T (((t : Int), nm t) :: U)) 4 ((j : Int), nm j) c) ∧ (¬ j < t → ∀ c, ¬ Has (gone T (((t : Int), nm t) :: U)) 4 ((j : Int), nm j) c) := by
        intro j hj
        obtain ⟨x, hx⟩ : ∃ x, L[j]? = some x := ⟨_, List.getElem?_eq_getElem (by omega)⟩
        have fx := roT.at_ j x hx
        constructor
        · intro hjt
          refine ⟨x.2, fx.2, ?_⟩
          rw [← fx.1]
          exact (ch9.has _ _).2 (List.mem_iff_getElem?.2 ⟨j, by rw [List.getElem?_take, if_pos hjt]; exact hx⟩)
        · intro hjt c hc
          obtain ⟨i, hi⟩ := List.getElem?_of_mem ((ch9.has _ _).1 hc)
          rw [List.getElem?_take] at hi
          split at hi
          · have := (roT.at_ i _ hi).1
            have := congrArg Prod.fst this
            simp at this
            omega
          · cases hi
      have KEY := Lib.hid key
      clear key ch9 chT roT hp hU1 hU2 hlen hret hht hxt ft R8 k9 k8 b8 zt
      generalize gone T (((t : Int), nm t) :: U) = T9 at *
      go_wp2_with fail
      go_loopw [16, 17, 18] (fun s16 _ _ wx => ∃ i : Nat, i ≤ 4 ∧ s16 = .int .i64 i ∧ Blk wx gN 47 (nmc nm 4) ∧ Rg0 w wx q m mr s B 4 p r A cap zs T9 [(3, 60)]) (fun s16 _ _ _ => 4 - (intOf s16).toNat)
      case atStart => exact ⟨0, Nat.zero_le _, rfl, b9, R9⟩
      case round =>
        obtain ⟨i, hi, rfl, bI, RI⟩ := hrel
        clear b9 R9
        by_cases hlt : i < 4
        · have zi : wr.cell? ⟨gN, i, none⟩ = some (.int .i64 (nm i)) := by rw [bI.cell]; exact nmc_get hlt hlt
          have hlti : (i : Int) < 4 := by omega
          by_cases hit : i < t
          · obtain ⟨c, fc, hc⟩ := (KEY.out i hlt).1 hit
            have hiti : (i : Int) < t := by omega
            go_wp2_with fail
            refine (RI.read b.length 3 (.yes c (3, 60) _ hc (by rw [fc.2.1]; decide) (HF.out _ fc) (by rw [fc.2.2.1]; decide)) b HM.out).mono ?_; rintro e wA ⟨gY, rfl, bY, lY, loY, RA, kA⟩
            have s1 : ∀ c, (convert 22 9 (.slice (some ⟨gY, 0, none⟩) b.length c)).run Try.prog wA = .ok (.string (str b)) wA := fun c => run_str (P := Try.prog) wA 22 9 5 _ _ c b Try.underlying22 Try.underlying5 Try.underlying9 (reads_all bY (by simp))
            have s2 : ∀ c, (convert 22 9 (.slice A0 b.length c)).run Try.prog wA = .ok (.string (str b)) wA := fun c => run_str (P := Try.prog) wA 22 9 5 _ _ c b Try.underlying22 Try.underlying5 Try.underlying9 (RA.old rb)
            have bA := bI.nob kA
            clear RI bI
            go_wp2_with fail
            go_roundw
            case rel => exact ⟨i + 1, by omega, by go_num, bA, RA⟩
            case measure => simp [intOf]; omega
          · have hno := (KEY.out i hlt).2 hit
            have hiti : (t : Int) ≤ i := by omega
            go_wp2_with fail
            refine (RI.read_no 2 (.nocap hno) (by decide)).mono ?_; rintro e wA ⟨rfl, RA, kA⟩
            have bA := bI.nob kA
            have zA : wA.cell? ⟨gN, i, none⟩ = some (.int .i64 (nm i)) := by rw [bA.cell]; exact nmc_get hlt hlt
            have kB := (Keep.refl Nob wA).alloc (.cells #[.int .u8 1] 5)
            have RB := RA.nob kB
            have bB := bA.nob kB
            clear RI bI
            go_wp2_with fail
            refine (RB.write_no 2 (.nocap hno) (by decide)).mono ?_; rintro e wC ⟨rfl, RC, kC⟩
            have bC := bB.nob kC
            clear RA RB bA bB
            go_wp2_with fail
            go_roundw
            case rel => exact ⟨i + 1, by omega, by go_num, bC, RC⟩
            case measure => simp [intOf]; omega
        · obtain rfl : i = 4 := by omega
          go_wp2_with fail
          refine (RI.load 3 b.length 3 b.length rfl rfl (by rw [HL.out]; omega) b HM.out).mono ?_; rintro e wA ⟨gY, rfl, bY, lY, loY, RA, kA⟩
          have s1 : ∀ c, (convert 22 9 (.slice (some ⟨gY, 0, none⟩) b.length c)).run Try.prog wA = .ok (.string (str b)) wA := fun c => run_str (P := Try.prog) wA 22 9 5 _ _ c b Try.underlying22 Try.underlying5 Try.underlying9 (reads_all bY (by simp))
          have s2 : ∀ c, (convert 22 9 (.slice A0 b.length c)).run Try.prog wA = .ok (.string (str b)) wA := fun c => run_str (P := Try.prog) wA 22 9 5 _ _ c b Try.underlying22 Try.underlying5 Try.underlying9 (RA.old rb)
          go_wp2_with fail
          refine (awake_true _).mono ?_; rintro e wB ⟨rfl, kB⟩
          go_wp2
          go_ret
          exact ⟨rfl, (RA.nob kB).keep.done⟩
set_option maxRecDepth 100000 in
set_option maxHeartbeats 2000000 in
theorem gone_long (w : World) (A0 : Option Addr) (n0 c0 : Nat) (hb : 60 < n0) (a1 : Int) :
    Calls Try.prog 5 #[.slice A0 n0 c0, .int .i64 a1] w fun e w' => e = .returned (.bool true) ∧ Below w.heap.size w w' := by
  have hb' : (60 : Int) < n0 := by omega
  go_enter Try.func5, Try.ntmps5
  go_wp2_with fail
  refine (new_is _ 2 (by omega) _).mono ?_; rintro e w1 ⟨m, mr, rfl, hm, hmp, hmr, k1⟩
  go_wp2_with fail
  refine (new0 (w0 := w) 4 4 (by omega) ((Keep.refl _ w).nob k1)).mono ?_; rintro e w2 ⟨s, B, p, r, rfl, S1, k2, _⟩
  go_wp2_with fail
  refine (rg_new (hm.nob k2) S1 hmr).mono ?_; rintro e w3 ⟨q, rfl, R3, _⟩
  clear hm S1 k1 k2
  go_wp2_with fail
  refine (awake_true _).mono ?_; rintro e wB ⟨rfl, kB⟩
  go_wp2
  go_ret
  exact ⟨rfl, (R3.nob kB).keep.done⟩
theorem RegionGone_walk (w : World) (A0 : Option Addr) (n0 c0 : Nat) (x0 : Ty.den (.sl 1 .byte)) (w0 : Holds w (.sl 1 .byte) x0 [.slice A0 n0 c0]) (a1 : Int) (w1 : (Lit.int .i64 a1).wf = true) :
    Calls Try.prog 5 #[.slice A0 n0 c0, .int .i64 a1] w fun e w' => e = .returned (.bool true) ∧ Below w.heap.size w w' := by
  obtain ⟨rfl, r0, _, _⟩ := holds_bytes w0
  by_cases h : 60 < List.length (α := UInt8) x0
  · exact gone_long w A0 _ c0 h a1
  · exact gone_core w A0 c0 x0 r0 (by omega) a1 (a1 % 4).toNat (by rw [i64_and3]; omega) (by omega)
end Go.Proofs.Ytedfoffcgfijoaa
