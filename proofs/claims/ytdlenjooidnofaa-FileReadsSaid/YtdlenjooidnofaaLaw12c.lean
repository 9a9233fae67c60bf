/- The walk of FileReads. -/
import Derived.Test.YtdlenjooidnofaaLaw12a
import Derived.Lib.ConvBytes
namespace Go.Proofs.Ytdlenjooidnofaa
open Go.RowKit Fi
set_option linter.unusedVariables false
set_option linter.unusedSimpArgs false
theorem Reads.keep0 {M : Nat → Prop} {w w' : World} {A : Option Addr} {n : Nat} {xs : List Value} (h : Reads w A n xs) (k : Keep M w w') (hm : 0 < n → ∀ ad, A = some ad → ¬ M ad.block) : Reads w' A n xs := by
  rcases Nat.eq_zero_or_pos n with h0 | h0
  · exact ⟨h.1, fun h1 => by omega⟩
  · exact h.keep k (hm h0)
section
variable {ops : Array Oper} {rest : List Oper} {o : Oper} {a : Act} {Q : Exit → Act → World → Prop} {w : World}
/-- []byte(s): a new row, a copy. -/
theorem wpList_sb (hgd : o.guard = none) (x : Operand) (ho : o.op = .convert 9 24 x) (l : List UInt8) (hx : a.eval x = .string (str l))
    (h : ∀ w' c, (∀ j, j < l.length → w'.cell? ⟨w.heap.size, j, none⟩ = some (.int .u8 ((l.getD j 0).toNat : Int))) → (∀ j, j < l.length → w'.frozen? ⟨w.heap.size, j, none⟩ = false) → Keep Nob w w' → l.length ≤ c → wpList Try.prog ops Q rest (a.put o.dst (.slice (some ⟨w.heap.size, 0, none⟩) l.length c)) w') :
    wpList Try.prog ops Q (o :: rest) a w := by
  refine wpList_plain hgd fun K hK => ?_
  have hrun := Go.Lib.run_convert_string_bytes (P := Try.prog) w 9 24 5 (str l) Try.underlying9 Try.underlying24 Try.underlying5
  have hsz := str_size l
  have hcap : (str l).size ≤ grownCap w (str l).size 0 5 := grownCap_ge w _ 0 _
  have hn := Go.Lib.bytesWorld_at_new w 5 (str l)
  have hcs : (Go.Lib.bytesCells w 5 (str l)).size = grownCap w (str l).size 0 5 := by
    have : (str l).data.size = (str l).size := rfl
    simp [Go.Lib.bytesCells]
    omega
  have hh := h (Go.Lib.bytesWorld w 5 (str l)) (grownCap w (str l).size 0 5) (fun j hj => by
      have := Go.Lib.bytesWorld_cell w 5 (str l) j (by rw [hsz]; exact hj)
      rw [this]; rfl)
    (fun j hj => by
      simp only [World.frozen?, hn, hcs]
      simp
      omega)
    ⟨rfl, rfl, rfl, by rw [Go.Lib.bytesWorld_size]; omega, fun k hk _ => Go.Lib.bytesWorld_at_old w 5 (str l) k hk⟩ (by rw [← hsz]; exact hcap)
  rw [← hsz] at hh
  unfold Oper.wp
  simp [execOp, ho, hx, hrun, Result.andThen]
  exact hK _ _ hh
end
theorem reads_of {w : World} {g n : Nat} {l : List UInt8} (hl : l.length = n) (h : ∀ j, j < n → w.cell? ⟨g, j, none⟩ = some (.int .u8 ((l.getD j 0).toNat : Int))) : Reads w (some ⟨g, 0, none⟩) n (bytes l) := by
  refine ⟨by rw [bytes_length, hl], fun _ => ⟨_, rfl, fun j u hu => ?_⟩⟩
  have hj : j < l.length := by
    rcases Nat.lt_or_ge j l.length with h1 | h1
    · exact h1
    · rw [List.getElem?_eq_none (by simpa using h1)] at hu; cases hu
  rw [bytes_getD hj] at hu
  rw [add_lit, Nat.zero_add, h j (by omega)]
  exact hu
theorem reads_set {w : World} {g n i : Nat} {l : List UInt8} (hl : l.length = n) (h : ∀ j, j < n → w.cell? ⟨g, j, none⟩ = some (.int .u8 ((l.getD j 0).toNat : Int))) (hi : i < n) (y : UInt8) (v : Int) (hv : ((y.toNat : Nat) : Int) = v) :
    Reads (w.setCell ⟨g, i, none⟩ (.int .u8 v)) (some ⟨g, 0, none⟩) n (bytes (l.set i y)) := by
  refine reads_of (by rw [List.length_set, hl]) (fun j hj => ?_)
  by_cases e : i = j
  · subst e
    rw [World.cell?_setCell_same _ _ _ (h i hi), List.getD_eq_getElem?_getD, List.getElem?_set_self (by omega), ← hv]; rfl
  · rw [World.cell?_setCell_other _ _ _ _ (by intro hh; cases hh; exact e rfl), h j hj, List.getD_eq_getElem?_getD, List.getD_eq_getElem?_getD, List.getElem?_set_ne e]
theorem reads_take {w : World} {g n q : Nat} {l : List UInt8} (h : Reads w (some ⟨g, 0, none⟩) n (bytes l)) (hq : q ≤ n) : Reads w (some ⟨g, 0, none⟩) q (bytes (l.take q)) := by
  have hl : l.length = n := by simpa using h.1
  refine reads_of (by simp; omega) (fun j hj => ?_)
  rw [reads_at h (k := j) (by omega), List.getD_eq_getElem?_getD, List.getD_eq_getElem?_getD, List.getElem?_take, if_pos hj]
set_option maxHeartbeats 8000000 in
set_option maxRecDepth 100000 in
theorem FileReads_in (w : World) (A : Option Addr) (n1 c1 : Nat) (lb : List UInt8) (x : Int) (rb : Reads w A n1 (bytes lb)) (hn1 : n1 ≤ 140737488351232) (hc1 : n1 ≤ c1) (a2 tb a4 : Int) (t0 : 0 ≤ tb) (t1 : tb ≤ 255) :
    Calls Try.prog 4 #[.slice A n1 c1, .int .i64 x, .int .i64 a2, .int .u8 tb, .int .i64 a4] w fun e w' => e = .returned (.bool true) ∧ Below w.heap.size w w' := by
  by_cases h60 : 60 < n1
  · go_enter Try.func4, Try.ntmps4
    go_wp2_with fail
    refine (awake_is _).mono ?_; rintro e w1 ⟨rfl, k1⟩
    go_wp2
    go_ret
    exact ⟨rfl, k1.below (Nat.le_refl _) (fun _ _ f => f)⟩
  have hlb : lb.length = n1 := by simpa using rb.1
  have HM := Lib.hid (fun w => made_is x w (made x) rfl)
  have hml := made_len x
  have hmo := made_ok x
  generalize made x = M at *
  have hpb := fun w => filebytes_is M hml w
  have hel := enc_len M
  generalize enc M = E at *
  unfold pv at HM hpb
  have HPB := Lib.hid hpb
  have HEL := Lib.hid hel
  have RB := Lib.hid rb
  have HLB := Lib.hid hlb
  obtain ⟨i, hi, hi2⟩ : ∃ i : Nat, i < 8 ∧ a2 % 8 = (i : Int) := ⟨(a2 % 8).toNat, by omega, by omega⟩
  obtain ⟨q, hq, hq2⟩ : ∃ q : Nat, q ≤ 8 ∧ a4 % 256 % 9 = (q : Int) := ⟨(a4 % 256 % 9).toNat, by omega, by omega⟩
  clear hml hmo hpb hel rb hlb
  go_enter Try.func4, Try.ntmps4
  go_wp2_with fail
  refine (HM.out _).mono ?_; rintro e w1 ⟨rfl, k1⟩
  go_wp2_with fail
  refine (HPB.out _).mono ?_; rintro e w2 ⟨rfl, k2⟩
  have K2 := k1.nobt k2
  clear k1 k2 HM HPB
  go_wp2_with (refine wpList_sb rfl _ rfl E rfl ?_; intro w3 c3 hc3 hf3 hk3 hcc3; rw [HEL.out]; rw [HEL.out] at hcc3; have fr := hf3 i (by rw [HEL.out]; exact hi); have cc := hc3 i (by rw [HEL.out]; exact hi))
  have hge : w.heap.size ≤ w2.heap.size := K2.size
  have r4 := reads_set (i := i) HEL.out (fun j hj => hc3 j (by rw [HEL.out]; exact hj)) hi (UInt8.ofNat tb.toNat) tb (by rw [UInt8.toNat_ofNat']; omega)
  have K4 : Keep Nob w (w3.setCell ⟨w2.heap.size, i, none⟩ (.int .u8 tb)) := (K2.nobt hk3).setCell ⟨w2.heap.size, i, none⟩ _ (fun h => absurd h (by show ¬ w2.heap.size < _; omega))
  have hE4 : (E.set i (UInt8.ofNat tb.toNat)).length = 8 := by rw [List.length_set, HEL.out]
  clear K2 hk3 hc3 hf3 HEL
  generalize E.set i (UInt8.ofNat tb.toNat) = E4 at *
  generalize w3.setCell ⟨w2.heap.size, i, none⟩ (.int .u8 tb) = w4 at *
  clear fr cc
  generalize w2.heap.size = gc at *
  have HE4 := Lib.hid hE4
  clear hE4
  go_wp2_with fail
  clear hi2
  go_loopw [12] (fun s12 wx => ∃ k : Nat, k ≤ 3 ∧ s12 = .int .i64 k ∧ Reads wx (some ⟨gc, 0, none⟩) 8 (bytes E4) ∧ Keep Nob w wx) (fun s12 _ => 3 - (intOf s12).toNat)
  case atStart => exact ⟨0, Nat.zero_le _, rfl, r4, K4⟩
  case round =>
    obtain ⟨k, hk, rfl, r5, K5⟩ := hrel
    clear r4 K4
    have ka : Keep Nob wr (wr.alloc (.cells #[.slice A n1 c1, .slice (some ⟨gc, 0, none⟩) 8 c3, .slice (some ⟨gc, 0, none⟩) q c3] 24)) := (Keep.refl Nob wr).alloc _
    rcases (show k = 0 ∨ k = 1 ∨ k = 2 ∨ k = 3 from by omega) with rfl | rfl | rfl | rfl
    · have rX : Reads (wr.alloc (.cells #[.slice A n1 c1, .slice (some ⟨gc, 0, none⟩) 8 c3, .slice (some ⟨gc, 0, none⟩) q c3] 24)) A n1 (bytes lb) := (RB.out.nob K5).nob ka
      have KX := K5.nobt ka
      obtain ⟨R, d, hdc⟩ : ∃ R d, dcd lb = (R, d) := ⟨_, _, rfl⟩
      have hRl : R.length = 4 := by have := dcd_len lb; rw [hdc] at this; exact this
      have HRl := Lib.hid hRl
      have HPO := Lib.hid (fun w => fileof_is lb (by rw [HLB.out]; omega) w R d hdc)
      have hne := fun W => ne_pv R R hRl hRl W
      rw [decide_eq_true rfl] at hne
      simp only [pv, Bool.not_true] at hne
      have HDC := Lib.hid hdc
      clear hRl hdc
      go_wp2_with fail
      refine (decode_is A n1 c1 lb _ rX (by omega) R d HDC.out).mono ?_; rintro e w6 ⟨rfl, k6⟩
      have rY := rX.nob k6
      have r6 := (r5.nob ka).nob k6
      have hgc6 : gc ≠ w6.heap.size := by have := block_lt_of_cell (reads_at r6 (k := 0) (by decide)); have h4 : gc < w6.heap.size := this; omega
      have K6 := KX.nobt k6
      clear rX KX k6
      unfold pv at HPO ⊢
      have hge6 : w.heap.size ≤ w6.heap.size := K6.size
      go_wp2_with (refine wpList_st rfl (.tmp 14) _ rfl w6.heap.size R noP rfl rfl HRl.out rfl (Blk.new w6 23 (ints noP)) ?_; intro w7 hp7 hk7 hs7; clear hs7; have rZ : Reads w7 A n1 (bytes lb) := (rY.nob ((Keep.refl Nob w6).alloc (.cells #[.int .i64 0, .int .i64 0, .int .i64 0, .int .i64 0] 23))).keep0 hk7 (fun h0 ad e e2 => by obtain ⟨ad', e3, e4⟩ := rY.2 h0; rw [e3] at e; cases e; have h3 := block_lt_of_cell (e4 0 _ (bytes_getD (by have h9 := rY.1; rw [bytes_length] at h9; omega))); rw [block_of_add] at h3; have h4 : ad.block = w6.heap.size := e2; omega); have s7 := conv_of w7 A n1 lb rZ)
      have K7 := (K6.alloc (.cells #[.int .i64 0, .int .i64 0, .int .i64 0, .int .i64 0] 23)).trans hk7 (fun b hb e => by have h3 : b = w6.heap.size := e; omega)
      have r7 : Reads w7 (some ⟨gc, 0, none⟩) 8 (bytes E4) := (r6.nob ((Keep.refl Nob w6).alloc (.cells #[.int .i64 0, .int .i64 0, .int .i64 0, .int .i64 0] 23))).keep hk7 (fun ad e => by cases e; exact hgc6)
      refine (HPO.out _).mono ?_; rintro e w8 ⟨rfl, k8⟩
      have hp8 := hp7.nob k8
      have K8 := K7.nobt k8
      have r8 := r7.nob k8
      have hg8 : w6.heap.size ≠ w8.heap.size := by have := hp8.lt; omega
      have hge8 : w.heap.size ≤ w8.heap.size := K8.size
      have hgc8 : gc ≠ w8.heap.size := by have := block_lt_of_cell (reads_at r8 (k := 0) (by decide)); have h4 : gc < w8.heap.size := this; omega
      clear hp7 K7 r7 k8 s7 rZ
      go_wp2_with (first | (refine wpList_st rfl (.tmp 16) _ rfl w8.heap.size R noP rfl rfl HRl.out rfl (Blk.new w8 23 (ints noP)) ?_; intro w9 hq9 hk9 hs9; clear hs9; have hp9 := (hp8.alloc (.cells #[.int .i64 0, .int .i64 0, .int .i64 0, .int .i64 0] 23)).keep hk9 hg8) | (refine wpList_ld rfl (.tmp 14) rfl w6.heap.size R rfl HRl.out hp9 ?_) | (refine wpList_ld rfl (.tmp 16) rfl w8.heap.size R rfl HRl.out hq9 ?_))
      have K9 := (K8.alloc (.cells #[.int .i64 0, .int .i64 0, .int .i64 0, .int .i64 0] 23)).trans hk9 (fun b hb e => by have h3 : b = w8.heap.size := e; omega)
      have r9 : Reads w9 (some ⟨gc, 0, none⟩) 8 (bytes E4) := (r8.nob ((Keep.refl Nob w8).alloc (.cells #[.int .i64 0, .int .i64 0, .int .i64 0, .int .i64 0] 23))).keep hk9 (fun ad e => by cases e; exact hgc8)
      go_round
      case rel =>
        exact ⟨1, by omega, by go_num, r9, K9⟩
      case measure => simp [intOf]
    · have rX : Reads (wr.alloc (.cells #[.slice A n1 c1, .slice (some ⟨gc, 0, none⟩) 8 c3, .slice (some ⟨gc, 0, none⟩) q c3] 24)) (some ⟨gc, 0, none⟩) 8 (bytes E4) := r5.nob ka
      have KX := K5.nobt ka
      obtain ⟨R, d, hdc⟩ : ∃ R d, dcd E4 = (R, d) := ⟨_, _, rfl⟩
      have hRl : R.length = 4 := by have := dcd_len E4; rw [hdc] at this; exact this
      have HRl := Lib.hid hRl
      have HPO := Lib.hid (fun w => fileof_is E4 (by rw [HE4.out]; decide) w R d hdc)
      have hne := fun W => ne_pv R R hRl hRl W
      rw [decide_eq_true rfl] at hne
      simp only [pv, Bool.not_true] at hne
      have HDC := Lib.hid hdc
      clear hRl hdc
      go_wp2_with fail
      refine (decode_is (some ⟨gc, 0, none⟩) 8 c3 E4 _ rX (by omega) R d HDC.out).mono ?_; rintro e w6 ⟨rfl, k6⟩
      have rY := rX.nob k6
      have r6 := (r5.nob ka).nob k6
      have hgc6 : gc ≠ w6.heap.size := by have := block_lt_of_cell (reads_at r6 (k := 0) (by decide)); have h4 : gc < w6.heap.size := this; omega
      have K6 := KX.nobt k6
      clear rX KX k6
      unfold pv at HPO ⊢
      have hge6 : w.heap.size ≤ w6.heap.size := K6.size
      go_wp2_with (refine wpList_st rfl (.tmp 14) _ rfl w6.heap.size R noP rfl rfl HRl.out rfl (Blk.new w6 23 (ints noP)) ?_; intro w7 hp7 hk7 hs7; clear hs7; have rZ : Reads w7 (some ⟨gc, 0, none⟩) 8 (bytes E4) := (rY.nob ((Keep.refl Nob w6).alloc (.cells #[.int .i64 0, .int .i64 0, .int .i64 0, .int .i64 0] 23))).keep0 hk7 (fun h0 ad e e2 => by obtain ⟨ad', e3, e4⟩ := rY.2 h0; rw [e3] at e; cases e; have h3 := block_lt_of_cell (e4 0 _ (bytes_getD (by have h9 := rY.1; rw [bytes_length] at h9; omega))); rw [block_of_add] at h3; have h4 : ad.block = w6.heap.size := e2; omega); have s7 := conv_of w7 (some ⟨gc, 0, none⟩) 8 E4 rZ)
      have K7 := (K6.alloc (.cells #[.int .i64 0, .int .i64 0, .int .i64 0, .int .i64 0] 23)).trans hk7 (fun b hb e => by have h3 : b = w6.heap.size := e; omega)
      have r7 : Reads w7 (some ⟨gc, 0, none⟩) 8 (bytes E4) := (r6.nob ((Keep.refl Nob w6).alloc (.cells #[.int .i64 0, .int .i64 0, .int .i64 0, .int .i64 0] 23))).keep hk7 (fun ad e => by cases e; exact hgc6)
      refine (HPO.out _).mono ?_; rintro e w8 ⟨rfl, k8⟩
      have hp8 := hp7.nob k8
      have K8 := K7.nobt k8
      have r8 := r7.nob k8
      have hg8 : w6.heap.size ≠ w8.heap.size := by have := hp8.lt; omega
      have hge8 : w.heap.size ≤ w8.heap.size := K8.size
      have hgc8 : gc ≠ w8.heap.size := by have := block_lt_of_cell (reads_at r8 (k := 0) (by decide)); have h4 : gc < w8.heap.size := this; omega
      clear hp7 K7 r7 k8 s7 rZ
      go_wp2_with (first | (refine wpList_st rfl (.tmp 16) _ rfl w8.heap.size R noP rfl rfl HRl.out rfl (Blk.new w8 23 (ints noP)) ?_; intro w9 hq9 hk9 hs9; clear hs9; have hp9 := (hp8.alloc (.cells #[.int .i64 0, .int .i64 0, .int .i64 0, .int .i64 0] 23)).keep hk9 hg8) | (refine wpList_ld rfl (.tmp 14) rfl w6.heap.size R rfl HRl.out hp9 ?_) | (refine wpList_ld rfl (.tmp 16) rfl w8.heap.size R rfl HRl.out hq9 ?_))
      have K9 := (K8.alloc (.cells #[.int .i64 0, .int .i64 0, .int .i64 0, .int .i64 0] 23)).trans hk9 (fun b hb e => by have h3 : b = w8.heap.size := e; omega)
      have r9 : Reads w9 (some ⟨gc, 0, none⟩) 8 (bytes E4) := (r8.nob ((Keep.refl Nob w8).alloc (.cells #[.int .i64 0, .int .i64 0, .int .i64 0, .int .i64 0] 23))).keep hk9 (fun ad e => by cases e; exact hgc8)
      go_round
      case rel =>
        exact ⟨2, by omega, by go_num, r9, K9⟩
      case measure => simp [intOf]
    · have rX : Reads (wr.alloc (.cells #[.slice A n1 c1, .slice (some ⟨gc, 0, none⟩) 8 c3, .slice (some ⟨gc, 0, none⟩) q c3] 24)) (some ⟨gc, 0, none⟩) q (bytes (E4.take q)) := reads_take (r5.nob ka) hq
      have KX := K5.nobt ka
      obtain ⟨R, d, hdc⟩ : ∃ R d, dcd (E4.take q) = (R, d) := ⟨_, _, rfl⟩
      have hRl : R.length = 4 := by have := dcd_len (E4.take q); rw [hdc] at this; exact this
      have HRl := Lib.hid hRl
      have HPO := Lib.hid (fun w => fileof_is (E4.take q) (by simp; omega) w R d hdc)
      have hne := fun W => ne_pv R R hRl hRl W
      rw [decide_eq_true rfl] at hne
      simp only [pv, Bool.not_true] at hne
      have HDC := Lib.hid hdc
      clear hRl hdc
      go_wp2_with fail
      refine (decode_is (some ⟨gc, 0, none⟩) q c3 (E4.take q) _ rX (by omega) R d HDC.out).mono ?_; rintro e w6 ⟨rfl, k6⟩
      have rY := rX.nob k6
      have r6 := (r5.nob ka).nob k6
      have hgc6 : gc ≠ w6.heap.size := by have := block_lt_of_cell (reads_at r6 (k := 0) (by decide)); have h4 : gc < w6.heap.size := this; omega
      have K6 := KX.nobt k6
      clear rX KX k6
      unfold pv at HPO ⊢
      have hge6 : w.heap.size ≤ w6.heap.size := K6.size
      go_wp2_with (refine wpList_st rfl (.tmp 14) _ rfl w6.heap.size R noP rfl rfl HRl.out rfl (Blk.new w6 23 (ints noP)) ?_; intro w7 hp7 hk7 hs7; clear hs7; have rZ : Reads w7 (some ⟨gc, 0, none⟩) q (bytes (E4.take q)) := (rY.nob ((Keep.refl Nob w6).alloc (.cells #[.int .i64 0, .int .i64 0, .int .i64 0, .int .i64 0] 23))).keep0 hk7 (fun h0 ad e e2 => by obtain ⟨ad', e3, e4⟩ := rY.2 h0; rw [e3] at e; cases e; have h3 := block_lt_of_cell (e4 0 _ (bytes_getD (by have h9 := rY.1; rw [bytes_length] at h9; omega))); rw [block_of_add] at h3; have h4 : ad.block = w6.heap.size := e2; omega); have s7 := conv_of w7 (some ⟨gc, 0, none⟩) q (E4.take q) rZ)
      have K7 := (K6.alloc (.cells #[.int .i64 0, .int .i64 0, .int .i64 0, .int .i64 0] 23)).trans hk7 (fun b hb e => by have h3 : b = w6.heap.size := e; omega)
      have r7 : Reads w7 (some ⟨gc, 0, none⟩) 8 (bytes E4) := (r6.nob ((Keep.refl Nob w6).alloc (.cells #[.int .i64 0, .int .i64 0, .int .i64 0, .int .i64 0] 23))).keep hk7 (fun ad e => by cases e; exact hgc6)
      refine (HPO.out _).mono ?_; rintro e w8 ⟨rfl, k8⟩
      have hp8 := hp7.nob k8
      have K8 := K7.nobt k8
      have r8 := r7.nob k8
      have hg8 : w6.heap.size ≠ w8.heap.size := by have := hp8.lt; omega
      have hge8 : w.heap.size ≤ w8.heap.size := K8.size
      have hgc8 : gc ≠ w8.heap.size := by have := block_lt_of_cell (reads_at r8 (k := 0) (by decide)); have h4 : gc < w8.heap.size := this; omega
      clear hp7 K7 r7 k8 s7 rZ
      go_wp2_with (first | (refine wpList_st rfl (.tmp 16) _ rfl w8.heap.size R noP rfl rfl HRl.out rfl (Blk.new w8 23 (ints noP)) ?_; intro w9 hq9 hk9 hs9; clear hs9; have hp9 := (hp8.alloc (.cells #[.int .i64 0, .int .i64 0, .int .i64 0, .int .i64 0] 23)).keep hk9 hg8) | (refine wpList_ld rfl (.tmp 14) rfl w6.heap.size R rfl HRl.out hp9 ?_) | (refine wpList_ld rfl (.tmp 16) rfl w8.heap.size R rfl HRl.out hq9 ?_))
      have K9 := (K8.alloc (.cells #[.int .i64 0, .int .i64 0, .int .i64 0, .int .i64 0] 23)).trans hk9 (fun b hb e => by have h3 : b = w8.heap.size := e; omega)
      have r9 : Reads w9 (some ⟨gc, 0, none⟩) 8 (bytes E4) := (r8.nob ((Keep.refl Nob w8).alloc (.cells #[.int .i64 0, .int .i64 0, .int .i64 0, .int .i64 0] 23))).keep hk9 (fun ad e => by cases e; exact hgc8)
      go_round
      case rel =>
        exact ⟨3, by omega, by go_num, r9, K9⟩
      case measure => simp [intOf]
    · clear ka
      go_wp2_with fail
      refine (awake_is _).mono ?_; rintro e w6 ⟨rfl, k6⟩
      have K6 := K5.nobt k6
      go_wp2
      go_ret
      exact ⟨rfl, K6.below (Nat.le_refl _) (fun _ _ f => f)⟩
theorem FileReads_walk (w : World) (A0 : Option Addr) (n0 c0 : Nat) (x0 : Ty.den (.sl 1 .byte)) (w0 : Holds w (.sl 1 .byte) x0 [.slice A0 n0 c0]) (a1 : Int) (w1 : (Lit.int .i64 a1).wf = true) (a2 : Int) (w2 : (Lit.int .i64 a2).wf = true) (a3 : Int) (w3 : (Lit.int .u8 a3).wf = true) (a4 : Int) (w4 : (Lit.int .i64 a4).wf = true) :
    Calls Try.prog 4 #[.slice A0 n0 c0, .int .i64 a1, .int .i64 a2, .int .u8 a3, .int .i64 a4] w fun e w' => e = .returned (.bool true) ∧ Below w.heap.size w w' := by
  have hl0 := holds_bytes w0
  have hb := u8_of_wf w3
  have hu := (UInt8.ofNat a3.toNat).toNat_lt
  exact FileReads_in w A0 n0 c0 x0 a1 hl0.2.1 (by omega) (by omega) a2 a3 a4 (by omega) (by omega)
end Go.Proofs.Ytdlenjooidnofaa
