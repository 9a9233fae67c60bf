/- Texts Raw, packed. -/
import Derived.Deep.MidRow
import Derived.Deep.RegionHeld3
import Derived.Test.YtgcikpgcoemfnaaGreatPu0
import Derived.Test.YtgcikpgcoemfnaaGreatPvx0
import Derived.Test.YtgcikpgcoemfnaaGreatPu7
import Derived.Test.YtgcikpgcoemfnaaGreatPu11
import Derived.Test.YtgcikpgcoemfnaaGreatPvx1
import Derived.Test.YtgcikpgcoemfnaaGreatPu12
import Derived.Test.YtgcikpgcoemfnaaGreatPvx2
import Derived.Test.YtgcikpgcoemfnaaGreatPu14
import Derived.Test.YtgcikpgcoemfnaaGreatPu13
import Derived.Test.YtgcikpgcoemfnaaGreatPu15
import Derived.Test.YtgcikpgcoemfnaaGreatPu16
import Derived.Test.YtgcikpgcoemfnaaGreatPu1
import Derived.Test.YtgcikpgcoemfnaaGreatPu18
import Derived.Test.YtgcikpgcoemfnaaGreatPu21
import Derived.Test.YtgcikpgcoemfnaaGreatPu24
import Derived.Test.YtgcikpgcoemfnaaGreatPu2
import Derived.Test.YtgcikpgcoemfnaaGreatPu4
import Derived.Test.YtgcikpgcoemfnaaGreatPu5
import Derived.Test.YtgcikpgcoemfnaaGreatPu8
namespace Go.Proofs.YtgcikpgcoemfnaaGreat
open Go.RowKit Co
set_option linter.unusedVariables false
set_option linter.unusedSimpArgs false
theorem flatSp : Flat 121 2 (ints [0, 0]) := ⟨⟨_, Tryz.underlying121, rfl⟩, by kernel_rfl, fun W => by go_simp; rfl, rfl⟩
section
variable {w w' : World} {q m mr s B n : Nat} {p r : Nat → Nat} {A : Option Addr} {cap : Nat} {xs : List UInt8} {T : St} {L : List Rf} {K : Kn}
theorem regs_is (h : IsKn w K) : Calls Tryz.prog 18 #[.pointer (some ⟨K.k, 0, none⟩)] w fun e w' => e = .returned (.pointer (some ⟨K.q, 0, none⟩)) ∧ w = w' := by
  have hc := h.obj.cell 5
  simp only [List.getElem?_cons_succ, List.getElem?_cons_zero] at hc
  clear h
  go_enter Tryz.func18, Tryz.ntmps18
  go_wp2
  go_ret
  exact ⟨rfl, rfl⟩
set_option maxRecDepth 100000 in
set_option maxHeartbeats 2000000 in
theorem raw_is (h : Reg w q m mr s B n p r A cap xs T L) (k lo len : Nat) (hk : L[k]? = some ((lo : Int), (len : Int))) (ys : List UInt8) (hy : (xs.drop lo).take len = ys) :
    Calls Tryz.prog 21 #[.pointer (some ⟨q, 0, none⟩), .int .i64 k] w (GotBytes ys w) := by
  have hlt : k < L.length := (List.getElem?_eq_some_iff.1 hk).1
  have hle := h.le
  have hin := h.ok _ (List.mem_of_getElem? hk)
  dsimp only at hin
  obtain ⟨b, off, hA, hcl⟩ := h.row.reads.lit (show 0 < L.length * 2 by omega)
  have hM : w.rangeAt b (off + k * 2) (ints [(lo : Int), (len : Int)]) := fun j v hv => by
    have hj : j < 2 := (List.getElem?_eq_some_iff.1 hv).1
    rw [Nat.add_assoc]
    exact hcl (k * 2 + j) v (by rw [refs_get hk hj]; exact hv)
  have HHas := Lib.hid (rhas_is h (k : Int) true (by simp; omega))
  have HLd := Lib.hid (fun W (hW : Keep Nob w W) => load_yes m mr lo len xs W (h.mem.keep hW (fun f => f) (fun f => f)) (by omega))
  have hl : ((xs.drop lo).take len).length = len := by simp; omega
  rw [hy] at hl
  rw [hy] at HLd
  have HL := Lib.hid hl
  have HM := Lib.hid hM
  have HO := Lib.hid h.obj
  have HC := Lib.hid (cellsI (n := 2) (l := [(lo : Int), (len : Int)]) rfl)
  have HC0 := Lib.hid (cellsI (n := 2) (l := [0, 0]) rfl)
  have c2 : w.cell? ⟨q, 2, none⟩ = some (.slice A L.length cap) := h.obj.cell 2
  subst hA
  clear hl hM hcl hin hk h hy
  go_enter Tryz.func21, Tryz.ntmps21
  go_wp2_with fail
  refine HHas.out.mono ?_; rintro e w1 ⟨rfl, rfl⟩
  go_upto_region 4 with (first
    | (refine wpList_load_mid rfl 121 _ rfl b (off + k * 2) rfl (ints [(lo : Int), (len : Int)]) _ HM.out Tryz.underlying121 rfl (by rw [HC.out.len]; exact flatSp.i) ?_)
    | (refine flatSp.wpList_al rfl rfl ?_; intro w3 hb3 hk3 hs3; clear hs3)
    | (refine flatSp.wpList_st rfl rfl rfl rfl HC.out HC0.out hb3 ?_; intro w4 hb4 hk4 hs4; clear hs4))
  have K4 := Lib.hid (show Keep Nob w w4 from hk3.trans hk4 (fun x hx e => by omega))
  have q0 : w4.cell? ⟨q, 0, none⟩ = some (.pointer (some ⟨m, 0, none⟩)) := ((HO.out.nob K4.out).cell 0)
  have s0 : w4.cell? ⟨w.heap.size, 0, none⟩ = some (.int .i64 lo) := hb4.cell 0
  have s1 : w4.cell? ⟨w.heap.size, 1, none⟩ = some (.int .i64 len) := hb4.cell 1
  have HLd4 := Lib.hid (fun W (k5 : Keep Nob w4 W) => HLd.out W (K4.out.nobt k5))
  have HBs := Lib.hid hb4
  generalize w.heap.size = gs at *
  clear hb3 hk3 hb4 hk4 c2
  have kd := Keep.nobdrew w4
  have hcl := HLd4.out w4.drew kd
  have s0 : w4.drew.cell? ⟨q, 0, none⟩ = some (.pointer (some ⟨m, 0, none⟩)) ∧ w4.drew.cell? ⟨gs, 0, none⟩ = some (.int .i64 lo) ∧ w4.drew.cell? ⟨gs, 1, none⟩ = some (.int .i64 len) := ⟨q0, s0, s1⟩
  have HQ := Lib.hid (show ∀ W, Keep Nob w4 W → W.cell? ⟨q, 0, none⟩ = some (.pointer (some ⟨m, 0, none⟩)) ∧ W.cell? ⟨gs, 0, none⟩ = some (.int .i64 lo) ∧ W.cell? ⟨gs, 1, none⟩ = some (.int .i64 len) from fun W k => ⟨((HO.out.nob K4.out).nob k).cell 0, (HBs.out.nob k).cell 0, (HBs.out.nob k).cell 1⟩)
  clear q0 s1
  go_region_held3 (fun w' => w'.cell? ⟨q, 0, none⟩ = some (.pointer (some ⟨m, 0, none⟩)) ∧ w'.cell? ⟨gs, 0, none⟩ = some (.int .i64 lo) ∧ w'.cell? ⟨gs, 1, none⟩ = some (.int .i64 len))
    (first | exact s0 | exact HQ.out _ kx)
    (first | (go_at_call 65; refine hcl.mono ?_; rintro e w8 ⟨g, rfl, hb8, hg8, k8⟩; have kx := kd.trans k8 (fun _ _ f => f)))
  all_goals (go_wp2; go_ret2)
  all_goals (exact ⟨g, by rw [HL.out]; rfl, hb8, Nat.le_trans K4.out.size (Nat.le_trans (by simp) hg8), K4.out.nobt kx⟩)
end
end Go.Proofs.YtgcikpgcoemfnaaGreat
