/- The walk of CodecSums. -/
import Derived.Test.YtcamgelnkjghbaaCod0
import Derived.Deep.DeepCutAuto
import Derived.Deep.CutBlock
import Derived.Deep.RegionLaw
namespace Go.Proofs.Ytcamgelnkjghbaa
open Go.RowKit
set_option linter.unusedVariables false
set_option linter.unusedSimpArgs false
/-- The first i of l turned by m. -/
def rot (l : List UInt8) (m i : Nat) : List UInt8 := (List.range i).map fun j => l.getD ((j + m) % l.length) 0
theorem rot_len (l : List UInt8) (m i : Nat) : (rot l m i).length = i := by simp [rot]
theorem rot_succ (l : List UInt8) (m i : Nat) : rot l m (i + 1) = rot l m i ++ [l.getD ((i + m) % l.length) 0] := by simp [rot, List.range_succ]
theorem rot_all (l : List UInt8) (m : Nat) (h : 0 < l.length) : rot l m l.length = l.drop (m % l.length) ++ l.take (m % l.length) := by
  have hk := Nat.mod_lt m h
  have e : ∀ j, (j + m) % l.length = (j + m % l.length) % l.length := fun j => by rw [Nat.add_mod, Nat.add_mod j (m % l.length), Nat.mod_mod]
  unfold rot
  simp only [e]
  generalize m % l.length = k at *
  apply List.ext_getElem?
  intro i
  by_cases hi : i < l.length
  · simp only [List.getElem?_map, List.getElem?_range hi, Option.map_some]
    by_cases h2 : i + k < l.length
    · rw [List.getElem?_append_left (by simp; omega), List.getElem?_drop, Nat.mod_eq_of_lt h2, List.getD_eq_getElem?_getD, Nat.add_comm k i, List.getElem?_eq_getElem h2]
      rfl
    · rw [List.getElem?_append_right (by simp; omega), List.length_drop, List.getElem?_take, if_pos (by omega), show (i + k) % l.length = i - (l.length - k) from by rw [Nat.mod_eq_sub_mod (by omega), Nat.mod_eq_of_lt (by omega)]; omega,
        List.getD_eq_getElem?_getD, List.getElem?_eq_getElem (by omega)]
      rfl
  · rw [List.getElem?_eq_none (by simp; omega), List.getElem?_eq_none (by simp; omega)]
theorem tot_append (a b : List UInt8) : tot (a ++ b) = tot a + tot b := by simp [tot]; omega
theorem tot_rot (l : List UInt8) (m : Nat) (h : 0 < l.length) : tot (rot l m l.length) = tot l := by
  rw [rot_all l m h, tot_append, Nat.add_comm, ← tot_append, List.take_append_drop]
theorem tot_set {l : List UInt8} {k : Nat} (h : k < l.length) (y : UInt8) : tot (l.set k y) + (l.getD k 0).toNat = tot l + y.toNat := by
  have e1 : l.set k y = l.take k ++ y :: l.drop (k + 1) := List.set_eq_take_append_cons_drop.trans (if_pos h)
  have e2 : l = l.take k ++ l.getD k 0 :: l.drop (k + 1) := by
    rw [List.getD_eq_getElem?_getD, List.getElem?_eq_getElem h]
    simp
  rw [e1]
  have e3 : tot l = tot (l.take k ++ l.getD k 0 :: l.drop (k + 1)) := congrArg tot e2
  rw [e3, tot_append, tot_append]
  generalize l.getD k 0 = x
  simp only [tot, List.length_cons, List.map_cons, List.sum_cons]
  omega
set_option maxRecDepth 100000 in
set_option maxHeartbeats 2000000 in
theorem CodecSums_in (w : World) (A : Option Addr) (n c : Nat) (l : List UInt8) (ra : Reads w A n (bytes l)) (h0 : 0 < n) (h200 : n ≤ 200) (a1 a2 : Int) (m q : Nat) (hm : bits .and .i64 a1 255 = m) (hq : bits .and .i64 a2 65535 = q) (hm2 : m < 256) (hq2 : q < 65536) :
    Calls Try.prog 3 #[.slice A n c, .int .i64 a1, .int .i64 a2] w fun e w' => e = .returned (.bool true) ∧ Below w.heap.size w w' := by
  have hl : l.length = n := by simpa using ra.1
  have ha2 : (n : Int) ≤ 200 := by omega
  have ha3 : ((n : Int) == 0) = false := by rw [beq_eq_false_iff_ne]; omega
  have hn0 : (0 : Int) < n := by omega
  obtain ⟨b, off, rfl, hc0⟩ := ra.lit h0
  have RA := Lib.hid ra
  have HC := Lib.hid hc0
  have HL := Lib.hid hl
  clear ra hl hc0
  go_enter Try.func3, Try.ntmps3
  go_wp2_with fail
  go_loopw [8, 9] (fun s8 s9 wx => ∃ (i : Nat) (B : Option Addr) (d : Nat), i ≤ n ∧ s9 = .int .i64 i ∧ s8 = .slice B i d ∧ Vec wx 5 1 B i d (bytes (rot l m i)) ∧ Keep (From w.heap.size) w wx ∧ (∀ g, Own B g → w.heap.size ≤ g)) (fun _ s9 _ => n - (intOf s9).toNat)
  case atStart => exact ⟨0, none, 0, Nat.zero_le _, rfl, rfl, Vec.nil _ _ _, Keep.refl _ _, fun g ⟨a, h, _⟩ => by cases h⟩
  case round =>
    obtain ⟨i, B, d, hi, rfl, rfl, hv, hk, hB⟩ := hrel
    by_cases hlt : i < n
    · obtain ⟨k, hkm, hkl, hkn⟩ : ∃ k : Nat, ((i : Int) + (m : Int)) % (n : Int) = k ∧ k < n ∧ (i + m) % n = k := ⟨(i + m) % n, by simp, Nat.mod_lt _ h0, rfl⟩
      have hck := hk.cell_from (HC.out k _ (bytes_getD (by rw [HL.out]; exact hkl)))
      have hrs := rot_succ l m i
      rw [HL.out, hkn] at hrs
      have HR := Lib.hid hrs
      generalize l.getD k 0 = x at *
      clear hrs hkn
      have hki : (k : Int) < n := by omega
      go_wp2_with (at_builtin; go_loud (refine wpList_ap rfl _ _ 22 rfl 5 1 1 (.int .u8 0) Try.underlying22 Try.info5 rfl (by decide) B i d _ rfl (hv.nob ((Keep.refl Nob wr).alloc _)) (some ⟨wr.heap.size, 0, none⟩) 1 1 [.int .u8 (x.toNat : Int)] rfl _ (Nat.mul_one _) (reads_all (Blk.new wr 5 [.int .u8 (x.toNat : Int)]) rfl) (by simp [Value.oneCell']) (by unfold maxLen; omega) (by omega) ?_); intro B2 d2 w2 hv2 hk2 ho2)
      go_roundw
      case rel =>
        refine ⟨i + 1, B2, d2, by omega, by go_num, by go_num, ?_, (hk.alloc _).from_ hk2 hB, fun g hg => ?_⟩
        · rw [HR.out, bytes_append]; exact hv2
        · rcases ho2 g hg with h | h
          · exact hB g h
          · rw [h]; have := hk.size; simp; omega
      case measure => simp [intOf]; omega
    · obtain rfl : i = n := by omega
      have htr := tot_rot l m (by rw [HL.out]; exact h0)
      rw [HL.out] at htr
      generalize rot l m i = t at *
      obtain ⟨sv, hsv⟩ : ∃ sv : Int, ((tot l % 256 : Nat) : Int) = sv := ⟨_, rfl⟩
      have HT := Lib.hid htr
      have HS := Lib.hid hsv
      have hs0 : 0 ≤ sv := by omega
      have hs1 : sv < 256 := by omega
      clear htr hsv
      go_wp2_with fail
      refine (sum_is (RA.out.from_ hk) (by omega) sv HS.out).mono ?_; rintro e w1 ⟨rfl, rfl⟩
      go_upto_region 12 with (first
        | (at_builtin; refine wpList_ap rfl _ _ 22 rfl 5 1 1 (.int .u8 0) Try.underlying22 Try.info5 rfl (by decide) (some ⟨wr.heap.size, 0, none⟩) 0 0 [] rfl (Vec.of_blk (Blk.new wr 5 []) rfl (by decide)) (some ⟨b, off, none⟩) i c (bytes l) rfl _ (Nat.mul_one _) ((RA.out.from_ hk).nob ((Keep.refl Nob wr).alloc _)) (bytes_one l) (by unfold maxLen; omega) (by omega) ?_; intro C dC wC hvC hkC hoC; obtain ⟨vC, kC, oC⟩ := ap_new hvC hkC hoC; clear hvC hkC hoC)
        | (at_builtin; refine wpList_ap rfl _ _ 22 rfl 5 1 1 (.int .u8 0) Try.underlying22 Try.info5 rfl (by decide) C i dC _ rfl (vC.nob ((Keep.refl Nob wC).alloc _)) (some ⟨wC.heap.size, 0, none⟩) 1 1 [.int .u8 0] rfl _ (Nat.mul_one _) (reads_all (Blk.new wC 5 [.int .u8 0]) rfl) (by simp [Value.oneCell']) (by unfold maxLen; omega) (by omega) ?_; intro D dD wD hvD hkD hoD)
        | (at_builtin; refine wpList_ap rfl _ _ 22 rfl 5 1 1 (.int .u8 0) Try.underlying22 Try.info5 rfl (by decide) (some ⟨wD.heap.size, 0, none⟩) 0 0 [] rfl (Vec.of_blk (Blk.new wD 5 []) rfl (by decide)) (some ⟨b, off, none⟩) i c (bytes l) rfl _ (Nat.mul_one _) ((RA.out.from_ (((hk.nob kC).alloc _).from_ hkD (fun b hb => Nat.le_trans hk.size (oC b hb)))).nob ((Keep.refl Nob wD).alloc _)) (bytes_one l) (by unfold maxLen; omega) (by omega) ?_; intro F dF wF hvF hkF hoF; obtain ⟨vF, kF, oF⟩ := ap_new hvF hkF hoF; clear hvF hkF hoF))
      have hwC : wr.heap.size ≤ wC.heap.size := kC.size
      have hwD : wC.heap.size + 1 ≤ wD.heap.size := by have := hkD.size; simpa using this
      have K1 : Keep (From wr.heap.size) wr wD := (((Keep.refl (From wr.heap.size) wr).nob kC).alloc _).from_ hkD oC
      obtain ⟨g, cur, rfl, hcur, hid, hcl, hct⟩ := vF.at_ h0
      rw [Nat.mul_one] at hcl hct
      have hg : wD.heap.size ≤ g := oF g ⟨_, rfl, rfl⟩
      obtain ⟨k, hkm, hkl⟩ : ∃ k : Nat, (q : Int) % (i : Int) = k ∧ k < i := ⟨q % i, by simp, Nat.mod_lt _ h0⟩
      have ck : wF.cell? ⟨g, k, none⟩ = some (.int .u8 ((l.getD k 0).toNat : Int)) := by
        rw [hcur.cell, ← bytes_getD (by rw [HL.out]; exact hkl), ← hct, List.getElem?_take, if_pos hkl]
      have fk := hcur.frozen k
      have hu := u8_lt (l.getD k 0)
      have hki : (k : Int) < (i : Int) := by omega
      have hts := fun y => tot_set (l := l) (k := k) (Eq.mpr (by rw [HL.out]) hkl) y
      have vG := fun (y : UInt8) => vF.setCell k (.int .u8 (y.toNat : Int))
      have bs := fun (y : UInt8) => bytes_set l k y _ rfl
      have K2 : ∀ u, Keep (From wD.heap.size) wD (wF.setCell ⟨g, k, none⟩ u) := fun u => ((Keep.refl (From wD.heap.size) wD).nob kF).setCell _ _ (fun _ => hg)
      have rT := hv.reads.from_ K1
      have rD := hvD.reads
      have K0 : Keep (From w.heap.size) w wD := hk.from_ K1 (fun b hb => Nat.le_trans hk.size hb)
      have hDl : tot (l ++ [0]) = tot l + 1 := by simp [tot_append, tot]; omega
      have hw0 := Nat.le_trans hk.size (Nat.le_trans hwC (by omega : wC.heap.size ≤ wD.heap.size))
      rw [Nat.mul_one] at rT rD
      have G := Lib.hid (And.intro hts (And.intro vG (And.intro bs (And.intro K2 (And.intro rT (And.intro rD (And.intro K0 hDl)))))))
      clear hts vG bs K2 rT rD K0 hDl hcur hct K1 hvD hkD hoD vF kF oF vC kC oC hv hB hk
      by_cases hx : (l.getD k 0).toNat = 255
      · rw [hx] at ck
        obtain ⟨hts, vG0, bs, K2, rT, rD, K0, hDl⟩ := G.out
        have ht2 : tot (l.set k 0) + 255 = tot l := by have := hts 0; rw [hx] at this; simpa using this
        have HT2 := Lib.hid ht2
        clear hu hx ht2 hts
        have vG := vG0 0
        rw [bs 0] at vG
        have r1 := rT.from_ (K2 (.int .u8 0))
        have r2 := rD.from_ (K2 (.int .u8 0))
        have r3 := vG.reads
        have kE := K0.from_ (K2 (.int .u8 0)) (fun b hb => Nat.le_trans hw0 hb)
        rw [Nat.mul_one] at r3
        have R := Lib.hid (And.intro r1 (And.intro r2 (And.intro r3 (And.intro kE hDl))))
        clear r1 r2 r3 kE hDl vG vG0 bs K2 rT rD K0 G
        go_wp2_with fail
        refine (sum_is R.out.1 (by omega) sv (by rw [HT.out]; exact HS.out)).mono ?_; rintro e w1 ⟨rfl, rfl⟩
        go_wp2_with fail
        refine (sum_is (l := l ++ [0]) (by rw [bytes_append]; exact R.out.2.1) (by omega) ((sv + 1) % 256) (by rw [R.out.2.2.2.2]; have := HS.out; omega)).mono ?_; rintro e w1 ⟨rfl, rfl⟩
        go_wp2_with fail
        refine (sum_is R.out.2.2.1 (by omega) ((sv - 255) % 256) (by have := HS.out; have := HT2.out; omega)).mono ?_; rintro e w1 ⟨rfl, rfl⟩
        go_wp2_with fail
        refine (sum_is (l := []) (Reads.nil_ _ _) (by decide) 0 (by decide)).mono ?_; rintro e w1 ⟨rfl, rfl⟩
        go_wp2_with fail
        refine (awake_is _).mono ?_; rintro e w2 ⟨rfl, k2⟩
        go_wp2
        go_ret
        exact ⟨rfl, (R.out.2.2.2.1.nob k2).done⟩
      · obtain ⟨y, hy, hyl⟩ : ∃ y : UInt8, (y.toNat : Int) = (((l.getD k 0).toNat : Nat) : Int) + 1 ∧ y.toNat = (l.getD k 0).toNat + 1 := ⟨UInt8.ofNat ((l.getD k 0).toNat + 1), by rw [UInt8.toNat_ofNat', Nat.mod_eq_of_lt (by omega)]; omega, by rw [UInt8.toNat_ofNat', Nat.mod_eq_of_lt (by omega)]⟩
        obtain ⟨hts, vG0, bs, K2, rT, rD, K0, hDl⟩ := G.out
        have ht2 : tot (l.set k y) = tot l + 1 := by have := hts y; omega
        have HT2 := Lib.hid ht2
        have vG := vG0 y
        rw [bs y, hy] at vG
        generalize (l.getD k 0).toNat = x at *
        have hx2 : (x : Int) < 255 := by omega
        have hy0 : (((x : Int) + 1) == 0) = false := by rw [beq_eq_false_iff_ne]; omega
        have r1 := rT.from_ (K2 (.int .u8 (x + 1)))
        have r2 := rD.from_ (K2 (.int .u8 (x + 1)))
        have r3 := vG.reads
        have kE := K0.from_ (K2 (.int .u8 (x + 1))) (fun b hb => Nat.le_trans hw0 hb)
        rw [Nat.mul_one] at r3
        have R := Lib.hid (And.intro r1 (And.intro r2 (And.intro r3 (And.intro kE hDl))))
        clear r1 r2 r3 kE hDl vG vG0 bs K2 rT rD K0 G hy hyl hts ht2 hx
        go_wp2_with fail
        refine (sum_is R.out.1 (by omega) sv (by rw [HT.out]; exact HS.out)).mono ?_; rintro e w1 ⟨rfl, rfl⟩
        go_wp2_with fail
        refine (sum_is (l := l ++ [0]) (by rw [bytes_append]; exact R.out.2.1) (by omega) ((sv + 1) % 256) (by rw [R.out.2.2.2.2]; have := HS.out; omega)).mono ?_; rintro e w1 ⟨rfl, rfl⟩
        go_wp2_with fail
        refine (sum_is R.out.2.2.1 (by omega) ((sv + 1) % 256) (by have := HS.out; have := HT2.out; omega)).mono ?_; rintro e w1 ⟨rfl, rfl⟩
        go_wp2_with fail
        refine (sum_is (l := []) (Reads.nil_ _ _) (by decide) 0 (by decide)).mono ?_; rintro e w1 ⟨rfl, rfl⟩
        go_wp2_with fail
        refine (awake_is _).mono ?_; rintro e w2 ⟨rfl, k2⟩
        go_wp2
        go_ret
        exact ⟨rfl, (R.out.2.2.2.1.nob k2).done⟩
set_option maxRecDepth 100000 in
set_option maxHeartbeats 2000000 in
theorem CodecSums_out (w : World) (A : Option Addr) (n c : Nat) (h : n = 0 ∨ 200 < n) (a1 a2 : Int) :
    Calls Try.prog 3 #[.slice A n c, .int .i64 a1, .int .i64 a2] w fun e w' => e = .returned (.bool true) ∧ Below w.heap.size w w' := by
  rcases h with rfl | h
  · go_enter Try.func3, Try.ntmps3
    go_wp2_with fail
    refine (awake_is _).mono ?_; rintro e w7 ⟨rfl, hk7⟩
    go_wp2
    go_ret
    exact ⟨rfl, ((Keep.refl (From w.heap.size) w).nob hk7).done⟩
  · have h1 : (200 : Int) < (n : Int) := by omega
    have ha3 : ((n : Int) == 0) = false := by rw [beq_eq_false_iff_ne]; omega
    go_enter Try.func3, Try.ntmps3
    go_wp2_with fail
    refine (awake_is _).mono ?_; rintro e w7 ⟨rfl, hk7⟩
    go_wp2
    go_ret
    exact ⟨rfl, ((Keep.refl (From w.heap.size) w).nob hk7).done⟩
theorem CodecSums_walk (w : World) (A0 : Option Addr) (n0 c0 : Nat) (x0 : Ty.den (.sl 1 .byte)) (w0 : Holds w (.sl 1 .byte) x0 [.slice A0 n0 c0]) (a1 : Int) (_ : (Lit.int .i64 a1).wf = true) (a2 : Int) (_ : (Lit.int .i64 a2).wf = true) :
    Calls Try.prog 3 #[.slice A0 n0 c0, .int .i64 a1, .int .i64 a2] w fun e w' => e = .returned (.bool true) ∧ Below w.heap.size w w' := by
  obtain ⟨_, r0, _, _⟩ := holds_bytes w0
  by_cases h : n0 = 0 ∨ 200 < n0
  · exact CodecSums_out w A0 n0 c0 h a1 a2
  · exact CodecSums_in w A0 n0 c0 x0 r0 (by omega) (by omega) a1 a2 (a1 % 256).toNat (a2 % 65536).toNat (by rw [i64_and255]; omega) (by rw [i64_and65535]; omega) (by omega) (by omega)
end Go.Proofs.Ytcamgelnkjghbaa
