import Derived.Test.YtgcikpgcoemfnaaGreatPs39
set_option maxRecDepth 100000
set_option maxHeartbeats 8000000
set_option linter.unusedVariables false
set_option linter.unusedSimpArgs false
namespace Go.Proofs.YtgcikpgcoemfnaaGreat.Pr
open Go.RowKit Co Pn Cd
theorem sound_in (w : World) (A0 : Option Addr) (n0 c0' : Nat) (x0 : Ty.den (.sl 32 je)) (h0 : Holds w (.sl 32 je) x0 [.slice A0 n0 c0']) :
  Calls Tryz.prog 5 #[.slice A0 n0 c0'] w fun e w'=>e = .returned (.bool true)∧Below w.heap.size w w':=by
 have HV0:=aa (ak 0 0 false)
 have HZ2:=aa (ai (n:=16) (l:=Cd.noP) rfl)
 have hf0:=fieldR0
 have hf1:=fieldR1
 have HX:=aa (fun k (hk : k < n0)=>op17_at h0 hk)
 clear h0
 go_enter Tryz.func5,Tryz.ntmps5
 go_wp2_with fail
 refine (gv w).mono ?_; rintro e w1 ⟨g0,c0,rfl,hc0,hg0,k1⟩
 go_wp2_with fail
 refine (fill_is _ c0 dQ ju hc0.reads).mono ?_; rintro e W0 ⟨w2,N1,K,C,bt,k2,pq,R,Ag,ng,cg,g2,B,c2,rfl,kk2,hF⟩
 have HBr:=aa (show C.brs.length = 2 by rw [hF.brs]; rfl)
 have H:=aa hF.ks
 have HT:=aa (hF.ks.still (Keep.refl Nob W0))
 have HFin:=aa (fun W S (t : Kt (fun _=>True) 2560 W0 K C (cP 0) S W)=>fY k1 (jn kk2 (hF.fin t)))
 have hsz0:=Nat.le_refl W0.heap.size
 have HSp:=aa (show K.L = spans2 from hF.g2.spans)
 have HBd:=aa hF.bad
 clear hF hc0 k1 kk2 hg0
 go_wp2_with fail
 refine (kregs_is HT.out).mono ?_; rintro e wq ⟨rfl,rfl⟩
 go_wp2_with fail
 go_loopw [7] (fun s7 wx=>∃ (i : Nat) (S : Stt),i≤60∧i≤n0∧s7 = .int .i64 i∧Hid (Inv S)∧Hid (Kt (fun _=>True) 2560 W0 K C (cP 0) (S) wx)) (fun s7 _=>60 - (intOf s7).toNat)
 case atStart=>exact ⟨0,cZ T0,by omega,by omega,rfl,aa inv0,HT⟩
 case round =>
  obtain ⟨i,S,h60,hin,rfl,HI,HT⟩:=hrel
  by_cases hlt : i < n0∧i < 60
  ·obtain ⟨bb,off,o0,o1,o2,o3,rfl,hw1,hf⟩:=HX.out i hlt.1
   have HW:=aa (Cd.wf_of hw1)
   obtain ⟨f0,f1,f2,f3⟩:=hf _ (HFin.out _ _ HT.out)
   have e1 : (i : Int) < n0:=by omega
   have e2 : (i : Int) < 60:=by omega
   have kO:=(Keep.refl Nob wr).alloc (.cells #[.int .i64 o0,.int .i64 o1,.int .i64 o2,.int .i64 o3] 44)
   have bO : Blk (wr.alloc (.cells #[.int .i64 o0,.int .i64 o1,.int .i64 o2,.int .i64 o3] 44)) wr.heap.size 44 [.int .i64 o0,.int .i64 o1,.int .i64 o2,.int .i64 o3]:=Blk.new wr 44 _
   have HT1:=aa (HT.out.nob kO)
   have HB1:=aa bO
   clear kO bO hw1 hf HT
   go_upto_region 8 with fail
   generalize hV : wr.alloc (.cells #[.int .i64 o0,.int .i64 o1,.int .i64 o2,.int .i64 o3] 44) = V at *
   generalize wr.heap.size = gO at *
   clear f0 f1 f2 f3 hV e1 e2
   have HT:=HT1
   have HB:=HB1
   clear HT1 HB1
   have c0 : V.cell? ⟨gO,0,none⟩ = some (.int .i64 o0):=HB.out.cell 0
   go_upto_block 2 with fail
   clear c0
   go_cut [49] from 41 to 78 (fun _ wx=>∃ S2,Hid (Inv S2)∧Hid (Kt (fun _=>True) 2560 W0 K C (cP 0) (S2) wx))
   case first =>
    by_cases n0 : o0 = 0
    ·have b0 : (o0 == 0) = true:=by simp [n0]
     clear n0
     have c1:=HB.out.cell 1
     have c2:=HB.out.cell 2
     have c3:=HB.out.cell 3
     obtain ⟨S2,N,E,hs⟩ : ∃ S2 N E,iM S o1 = (S2,N,E):=⟨_,_,_,rfl⟩
     have HI2:=aa (show Inv S2 by have h:=inv_fork HI.out o1; rw [hs] at h; exact h)
     have HC:=aa (fun W K' (hK : Ks (fun _=>True) 2560 W K' C (cP 0) S)=>fork_all hK o1 HW.out S2 N E hs)
     clear hs
     go_wp2_with fail
     refine (HT.out.go (HC.out _)).mono ?_; rintro e w2 ⟨rfl,t2,-⟩
     have HT2:=aa t2
     clear t2
     go_wp2_with fail
     go_meet
     exact ⟨S2,HI2,HT2⟩
    by_cases n1 : o0 = 1
    ·have b1 : (o0 == 1) = true:=by simp [n1]
     have b0 : (o0 == 0) = false:=by simp [n0]
     clear n0 n1
     have c1:=HB.out.cell 1
     have c2:=HB.out.cell 2
     have c3:=HB.out.cell 3
     obtain ⟨S2,E,hs⟩ : ∃ S2 E,exitS S o1 o2 = (S2,E):=⟨_,_,rfl⟩
     have HI2:=aa (show Inv S2 by have h:=inv_exit HI.out o1 o2; rw [hs] at h; exact h)
     have HC:=aa (fun W K' (hK : Ks (fun _=>True) 2560 W K' C (cP 0) S)=>exit_all hK o1 HW.out o2 S2 E hs)
     clear hs
     go_wp2_with fail
     refine (HT.out.go (HC.out _)).mono ?_; rintro e w2 ⟨rfl,t2,-⟩
     have HT2:=aa t2
     clear t2
     go_wp2_with fail
     go_meet
     exact ⟨S2,HI2,HT2⟩
    by_cases n2 : o0 = 2
    ·have b2 : (o0 == 2) = true:=by simp [n2]
     have b0 : (o0 == 0) = false:=by simp [n0]
     have b1 : (o0 == 1) = false:=by simp [n1]
     clear n0 n1 n2
     have c1:=HB.out.cell 1
     have c2:=HB.out.cell 2
     have c3:=HB.out.cell 3
     obtain ⟨S2,N,E,bl,hs⟩ : ∃ S2 N E bl,waitS S o1 = (S2,N,E,bl):=⟨_,_,_,_,rfl⟩
     have HI2:=aa (show Inv S2 by have h:=inv_wait HI.out o1; rw [hs] at h; exact h)
     have HC:=aa (fun W K' (hK : Ks (fun _=>True) 2560 W K' C (cP 0) S)=>wait_all hK o1 HW.out S2 N E bl hs)
     clear hs
     go_wp2_with fail
     refine (HT.out.go (HC.out _)).mono ?_; rintro e w2 ⟨rfl,t2,-⟩
     have HT2:=aa t2
     clear t2
     go_wp2_with fail
     go_meet
     exact ⟨S2,HI2,HT2⟩
    by_cases n3 : o0 = 3
    ·have b3 : (o0 == 3) = true:=by simp [n3]
     have b0 : (o0 == 0) = false:=by simp [n0]
     have b1 : (o0 == 1) = false:=by simp [n1]
     have b2 : (o0 == 2) = false:=by simp [n2]
     clear n0 n1 n2 n3
     have c1:=HB.out.cell 1
     have c2:=HB.out.cell 2
     have c3:=HB.out.cell 3
     obtain ⟨S2,E,hs⟩ : ∃ S2 E,killS S o1 o2 o3 = (S2,E):=⟨_,_,rfl⟩
     have HI2:=aa (show Inv S2 by have h:=inv_kill HI.out o1 o2 o3; rw [hs] at h; exact h)
     have HC:=aa (fun W K' (hK : Ks (fun _=>True) 2560 W K' C (cP 0) S)=>kill_all hK o1 HW.out o2 o3 S2 E hs)
     clear hs
     go_wp2_with fail
     refine (HT.out.go (HC.out _)).mono ?_; rintro e w2 ⟨rfl,t2,-⟩
     have HT2:=aa t2
     clear t2
     go_wp2_with fail
     go_meet
     exact ⟨S2,HI2,HT2⟩
    have b0 : (o0 == 0) = false:=by simp [n0]
    have b1 : (o0 == 1) = false:=by simp [n1]
    have b2 : (o0 == 2) = false:=by simp [n2]
    have b3 : (o0 == 3) = false:=by simp [n3]
    clear n0 n1 n2 n3
    have c1:=HB.out.cell 1
    have c2:=HB.out.cell 2
    have c3:=HB.out.cell 3
    obtain ⟨S2,E,hs⟩ : ∃ S2 E,groupS S o1 o2 o3 = (S2,E):=⟨_,_,rfl⟩
    have HI2:=aa (show Inv S2 by have h:=inv_group HI.out o1 o2 o3; rw [hs] at h; exact h)
    have HC:=aa (fun W K' (hK : Ks (fun _=>True) 2560 W K' C (cP 0) S)=>group_all hK o1 HW.out o2 o3 S2 E hs)
    clear hs
    go_wp2_with fail
    refine (HT.out.go (HC.out _)).mono ?_; rintro e w2 ⟨rfl,t2,-⟩
    have HT2:=aa t2
    clear t2
    go_wp2_with fail
    go_meet
    exact ⟨S2,HI2,HT2⟩
   case rest =>
   clear HI HT HB
   obtain ⟨S2,HI,HT⟩:=hcut
   go_wp2_with fail
   refine (kregs_is HT.out).mono ?_; rintro e wq ⟨rfl,rfl⟩
   go_wp2_with fail
   refine (kraw_is HT.out HSp.out).mono ?_; rintro e w5 ⟨ys,g5,rfl,s5,b5,-,t5,-⟩
   rw [HBr.out] at s5
   have HL5:=aa (show (ys.take 492).length = 492 by rw [List.length_take,s5.len]; rfl)
   have HF5:=aa (inv_sound HI.out s5)
   have HB5:=aa b5
   have HT5:=aa t5
   clear s5 b5 t5 HT
   generalize ys.take 492 = y5 at *
   go_wp2_with fail
   refine (ksound_is HT5.out HL5.out HB5.out HF5.out).mono ?_; rintro e w6 ⟨rfl,t6⟩
   have HT6:=aa t6
   clear t6 HT5 HB5
   go_wp2_with fail
   refine (kbad_is HT6.out HBd.out).mono ?_; rintro e w7 ⟨A7,cap7,rfl,t7⟩
   have HT7:=aa t7
   clear t7 HT6
   go_wp2_with fail
   go_roundw
   case rel=>exact ⟨i + 1,S2,by omega,by omega,by go_num,HI,HT7⟩
   case measure=>simp [intOf]; omega
  ·have hex : (¬ (i : Int) < n0) ∨ ((i : Int) < n0∧¬ (i : Int) < 60):=by omega
   clear hlt
   rcases hex with e1 | ⟨e1,e2⟩
   ·go_wp2_with fail
    have KW:=aa (HFin.out _ _ HT.out)
    refine (awake_is _).mono ?_; rintro e wz ⟨rfl,kz⟩
    go_wp2
    go_ret
    exact ⟨rfl,(fY KW.out kz).done⟩
   ·go_wp2_with fail
    have KW:=aa (HFin.out _ _ HT.out)
    refine (awake_is _).mono ?_; rintro e wz ⟨rfl,kz⟩
    go_wp2
    go_ret
    exact ⟨rfl,(fY KW.out kz).done⟩
end Go.Proofs.YtgcikpgcoemfnaaGreat.Pr
namespace Go.Proofs.YtgcikpgcoemfnaaGreat
open Go.RowKit
theorem ProcSound_walk (w : World) (A0 : Option Addr) (n0 c0 : Nat) (x0 : Ty.den (.sl 32 (.pair (.int .i64) (.pair (.int .i64) (.pair (.int .i64) (.pair (.int .i64) .unit)))))) (w0 : Holds w (.sl 32 (.pair (.int .i64) (.pair (.int .i64) (.pair (.int .i64) (.pair (.int .i64) .unit))))) x0 [.slice A0 n0 c0]) :
  Calls Tryz.prog 5 #[.slice A0 n0 c0] w fun e w'=>e = .returned (.bool true)∧Below w.heap.size w w':=Pr.sound_in w A0 n0 c0 x0 w0
end Go.Proofs.YtgcikpgcoemfnaaGreat
