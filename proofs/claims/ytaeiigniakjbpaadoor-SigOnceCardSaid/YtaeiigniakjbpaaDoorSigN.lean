/- The laws' awake. -/
import Derived.Test.YtaeiigniakjbpaaDoorSigB
import Derived.Test.YtaeiigniakjbpaaDoorSigH
import Derived.Test.YtaeiigniakjbpaaDoorSigD
namespace Go.Proofs.YtaeiigniakjbpaaDoor.Sg
open Go.RowKit
set_option linter.unusedVariables false
set_option linter.unusedSimpArgs false
def aw0 : Ps := ⟨1, 0, 0, 0, 0, 0, 0, 0, nof⟩
def aw1 : Ps := ⟨1, 0, 0, 0, 8, 0, 0, 0, nof⟩
def aw2 : Ps := ⟨1, 0, 0, 0, 0, 0, 0, 0, nof⟩
theorem aw_raise : raise aw0 3 = (aw1, true) := by rfl
theorem aw_deliver : deliver aw1 = (aw2, [], 3) := by rfl
theorem aw_next : next aw1 = (3, 4) := by rfl
theorem aw_wakes : wakes aw1 = true := by rfl
theorem bu1_at {ops : Array Oper} {rest : List Oper} {o : Oper} {a : Act} {Q : Exit → Act → World → Prop} {w : World} (Z : Ps) (hZ : aw0 = Z) (hgd : o.guard = none) (ho : o.op = .build 25 #[(0, .const (.int .i64 1))])
    (h : wpList Tryd.prog ops Q rest (a.put o.dst (.agg (pc Z).toArray)) w) : wpList Tryd.prog ops Q (o :: rest) a w := by
  subst hZ
  exact wpList_bu1 hgd _ ho 1 rfl h
set_option maxHeartbeats 4000000 in
set_option maxRecDepth 100000 in
theorem awake_is (w : World) (hT : Tb w) : Calls Tryd.prog 9 #[] w fun e w' => e = .returned (.bool true) ∧ Keep Nob w w' := by
  obtain ⟨Z, hZ⟩ : ∃ Z, aw0 = Z := ⟨_, rfl⟩
  have HP1 := Lib.hid (fun w => raise_is aw0 rfl 3 w aw1 true aw_raise)
  have HP2 := Lib.hid (fun w hT => deliver_is aw1 rfl w hT aw2 [] 3 aw_deliver)
  have HP3 := Lib.hid (fun w hT => next_is aw1 rfl w hT 3 4 aw_next)
  have HP4 := Lib.hid (fun w hT => wakes_is aw1 rfl w hT true aw_wakes)
  rw [hZ] at HP1
  have HZ := Lib.hid hZ
  clear hZ
  have HL1 := Lib.hid (show aw1.f.length = 8 from rfl)
  have HL2 := Lib.hid (show aw2.f.length = 8 from rfl)
  generalize aw1 = P1 at *
  generalize aw2 = P2 at *
  unfold pv at HP1 HP2 HP3 HP4
  have K := Keep.refl Nob w
  go_enter Tryd.func9, Tryd.ntmps9
  go_wp2_with (refine bu1_at Z HZ.out rfl rfl ?_)
  refine (HP1.out _).mono ?_; rintro e w1 ⟨rfl, k⟩
  replace K := K.nobt k
  clear k HP1
  go_upto_region 2 with (first | (refine wpList_al rfl rfl ?_; intro v1 hpa ka hsa; clear hsa) | (refine wpList_st rfl (.tmp 1) _ rfl w1.heap.size P1 noP rfl rfl HL1.out rfl hpa ?_; intro v2 hpb kb hsb; clear hsb))
  have kk : Keep Nob w1 v2 := ka.trans kb (fun b hb e => by have h3 : b = w1.heap.size := e; omega)
  replace K := K.nobt kk
  clear kk ka kb hpa
  generalize w1.heap.size = g1 at *
  go_wp2_with (refine wpList_ld rfl (.tmp 1) rfl g1 P1 rfl HL1.out hpb ?_)
  refine (HP2.out _ (hT.nob K)).mono ?_; rintro e w3 ⟨x, rfl, ⟨A, c, rfl, -⟩, k⟩
  replace K := K.nobt k
  replace hpb := hpb.nob k
  clear k HP2
  go_upto_region 3 with (first | (refine wpList_al rfl rfl ?_; intro v3 hpc kc hsc; clear hsc) | (refine wpList_st rfl (.tmp 3) _ rfl w3.heap.size P2 noP rfl rfl HL2.out rfl hpc ?_; intro v4 hpd kd hsd; clear hsd))
  have kk : Keep Nob w3 v4 := kc.trans kd (fun b hb e => by have h3 : b = w3.heap.size := e; omega)
  replace K := K.nobt kk
  replace hpb := hpb.nob kk
  clear kk kc kd hpc hpd
  go_wp2_with (refine wpList_ld rfl (.tmp 1) rfl g1 P1 rfl HL1.out hpb ?_)
  refine (HP3.out _ (hT.nob K)).mono ?_; rintro e w5 ⟨rfl, k⟩
  replace K := K.nobt k
  replace hpb := hpb.nob k
  clear k HP3
  go_wp2_with (refine wpList_ldw (by rfl) (.tmp 1) rfl g1 P1 rfl HL1.out hpb ?_)
  refine (HP4.out _ (hT.nob K)).mono ?_; rintro e w6 ⟨rfl, k⟩
  replace K := K.nobt k
  clear k
  go_wp2
  go_ret
  exact ⟨rfl, K⟩
end Go.Proofs.YtaeiigniakjbpaaDoor.Sg
