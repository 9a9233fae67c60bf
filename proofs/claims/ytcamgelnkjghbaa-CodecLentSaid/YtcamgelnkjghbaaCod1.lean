/- Package codec: New, Size, Encode, Decode of a Codec of numbers and of one of texts, with the functions that the laws hand over. -/
import Derived.Test.YtcamgelnkjghbaaCod0
import Derived.Deep.DeepCutAuto
import Derived.Deep.RegionHeld3
namespace Go.Proofs.Ytcamgelnkjghbaa
open Go.RowKit
set_option linter.unusedVariables false
set_option linter.unusedSimpArgs false
theorem newi_nil (s M : Int) (k : Nat) (w : World) (h1 : (if s < 0 then 0 else s) = M) (h2 : (if 64 < M then 64 else M) = (k : Int)) :
    Calls Try.prog 17 #[.int .i64 s, .nilFunc, .nilFunc] w fun e w' => e = .returned (.pointer (some ⟨w.heap.size, 0, none⟩)) ∧ Blk w' w.heap.size 51 [.int .i64 k, .nilFunc, .nilFunc] ∧ Keep Nob w w' := by
  go_enter Try.func17, Try.ntmps17
  go_wp2
  go_ret
  exact ⟨rfl, Blk.new w 51 [.int .i64 k, .nilFunc, .nilFunc], (Keep.refl Nob w).alloc _⟩
theorem newi_is (s M : Int) (k : Nat) (F G : Fn) (a b c d : Array Value) (w : World) (h1 : (if s < 0 then 0 else s) = M) (h2 : (if 64 < M then 64 else M) = (k : Int)) :
    Calls Try.prog 17 #[.int .i64 s, .func F a b, .func G c d] w fun e w' => e = .returned (.pointer (some ⟨w.heap.size, 0, none⟩)) ∧ Blk w' w.heap.size 51 [.int .i64 k, .func F a b, .func G c d] ∧ Keep Nob w w' := by
  go_enter Try.func17, Try.ntmps17
  go_wp2
  go_ret
  exact ⟨rfl, Blk.new w 51 [.int .i64 k, .func F a b, .func G c d], (Keep.refl Nob w).alloc _⟩
theorem news_is (s M : Int) (k : Nat) (F G : Fn) (a b c d : Array Value) (w : World) (h1 : (if s < 0 then 0 else s) = M) (h2 : (if 64 < M then 64 else M) = (k : Int)) :
    Calls Try.prog 20 #[.int .i64 s, .func F a b, .func G c d] w fun e w' => e = .returned (.pointer (some ⟨w.heap.size, 0, none⟩)) ∧ Blk w' w.heap.size 53 [.int .i64 k, .func F a b, .func G c d] ∧ Keep Nob w w' := by
  go_enter Try.func20, Try.ntmps20
  go_wp2
  go_ret
  exact ⟨rfl, Blk.new w 53 [.int .i64 k, .func F a b, .func G c d], (Keep.refl Nob w).alloc _⟩
theorem fnil1 (f : Fn) (a b : Array Value) (w : World) : (binOp .eql 36 (.func f a b) .nilFunc).run Try.prog w = .ok (.bool false) w := by
  have := Try.underlying36
  first
  | (rfl; done)
  | (go_simp; done)
theorem fnil2 (f : Fn) (a b : Array Value) (w : World) : (binOp .eql 37 (.func f a b) .nilFunc).run Try.prog w = .ok (.bool false) w := by
  have := Try.underlying37
  first
  | (rfl; done)
  | (go_simp; done)
theorem fnil3 (f : Fn) (a b : Array Value) (w : World) : (binOp .eql 40 (.func f a b) .nilFunc).run Try.prog w = .ok (.bool false) w := by
  have := Try.underlying40
  first
  | (rfl; done)
  | (go_simp; done)
theorem fnil4 (f : Fn) (a b : Array Value) (w : World) : (binOp .eql 41 (.func f a b) .nilFunc).run Try.prog w = .ok (.bool false) w := by
  have := Try.underlying41
  first
  | (rfl; done)
  | (go_simp; done)
theorem nilnil1 (w : World) : (binOp .eql 36 .nilFunc .nilFunc).run Try.prog w = .ok (.bool true) w := by
  have := Try.underlying36
  first
  | (rfl; done)
  | (go_simp; done)
theorem nilnil2 (w : World) : (binOp .eql 37 .nilFunc .nilFunc).run Try.prog w = .ok (.bool true) w := by
  have := Try.underlying37
  first
  | (rfl; done)
  | (go_simp; done)
theorem none1_is (v : Int) (A : Option Addr) (n c : Nat) (w : World) : Calls Try.prog 31 #[.int .i64 v, .slice A n c] w fun e w' => e = .returned (.bool false) ∧ w = w' := by
  go_enter Try.func31, Try.ntmps31
  go_wp2
  go_ret
  exact ⟨rfl, rfl⟩
theorem none2_is (A : Option Addr) (n c : Nat) (w : World) : Calls Try.prog 32 #[.slice A n c] w fun e w' => e = .returned (.tuple #[.int .i64 5, .bool false]) ∧ w = w' := by
  go_enter Try.func32, Try.ntmps32
  go_wp2
  go_ret2
  exact ⟨rfl, rfl⟩
set_option maxHeartbeats 1000000 in
theorem enci_nil (p k : Nat) (v : Int) (w : World) (hb : Blk w p 51 [.int .i64 k, .nilFunc, .nilFunc]) (hk : k ≤ 64) :
    Calls Try.prog 25 #[.pointer (some ⟨p, 0, none⟩), .int .i64 v] w fun e w' => e = .returned (.tuple #[.slice none 0 0, .bool false]) ∧ Keep Nob w w' := by
  have c0 := hb.cell 0
  simp only [List.getElem?_cons_zero] at c0
  have hnil := nilnil1
  go_enter Try.func25, Try.ntmps25
  go_wp2_with (refine wpList_mk rfl _ _ 22 rfl 5 (.int .u8 0) 1 Try.underlying22 Try.info5 rfl .i64 .i64 k _ rfl rfl rfl (by omega) (by omega) ?_; intro w1 hb1 hk1 hs1; clear hs1; have c1 : w1.cell? ⟨p, 1, none⟩ = some .nilFunc := by rw [(hb.nob hk1).cell]; rfl)
  go_ret2
  exact ⟨rfl, hk1⟩
set_option maxHeartbeats 1000000 in
theorem enci_none (p k : Nat) (v : Int) (G : Fn) (c d : Array Value) (w : World) (hb : Blk w p 51 [.int .i64 k, .func (.func 31) #[] #[], .func G c d]) (hk : k ≤ 64) :
    Calls Try.prog 25 #[.pointer (some ⟨p, 0, none⟩), .int .i64 v] w fun e w' => e = .returned (.tuple #[.slice none 0 0, .bool false]) ∧ Keep Nob w w' := by
  have c0 := hb.cell 0
  simp only [List.getElem?_cons_zero] at c0
  have hnil := fnil1
  go_enter Try.func25, Try.ntmps25
  go_wp2_with (refine wpList_mk rfl _ _ 22 rfl 5 (.int .u8 0) 1 Try.underlying22 Try.info5 rfl .i64 .i64 k _ rfl rfl rfl (by omega) (by omega) ?_; intro w1 hb1 hk1 hs1; clear hs1; have c1 : w1.cell? ⟨p, 1, none⟩ = some (.func (.func 31) #[] #[]) := by rw [(hb.nob hk1).cell]; rfl)
  refine (none1_is _ _ _ _ _).mono ?_; rintro e w2 ⟨rfl, rfl⟩
  go_wp2
  go_ret2
  exact ⟨rfl, hk1⟩
set_option maxHeartbeats 1000000 in
theorem deci_nil (p k : Nat) (A : Option Addr) (n cap : Nat) (w : World) (hb : Blk w p 51 [.int .i64 k, .nilFunc, .nilFunc]) :
    Calls Try.prog 26 #[.pointer (some ⟨p, 0, none⟩), .slice A n cap] w fun e w' => e = .returned (.tuple #[.int .i64 0, .bool false]) ∧ w = w' := by
  have c2 : w.cell? ⟨p, 2, none⟩ = some .nilFunc := hb.cell 2
  have hnil := nilnil2
  go_enter Try.func26, Try.ntmps26
  go_wp2
  go_ret2
  exact ⟨rfl, rfl⟩
set_option maxHeartbeats 1000000 in
theorem deci_len (p k : Nat) (F G : Fn) (a b c d : Array Value) (A : Option Addr) (n cap : Nat) (w : World) (hb : Blk w p 51 [.int .i64 k, .func F a b, .func G c d]) (hn : n ≠ k) :
    Calls Try.prog 26 #[.pointer (some ⟨p, 0, none⟩), .slice A n cap] w fun e w' => e = .returned (.tuple #[.int .i64 0, .bool false]) ∧ w = w' := by
  have c2 : w.cell? ⟨p, 2, none⟩ = some (.func G c d) := hb.cell 2
  have c0 : w.cell? ⟨p, 0, none⟩ = some (.int .i64 k) := hb.cell 0
  have hnil := fnil2
  have hne : ((n : Int) != (k : Int)) = true := by simpa using (show (n : Int) ≠ k from by omega)
  go_enter Try.func26, Try.ntmps26
  go_wp2
  go_ret2
  exact ⟨rfl, rfl⟩
set_option maxHeartbeats 1000000 in
theorem decs_len (p k : Nat) (F G : Fn) (a b c d : Array Value) (A : Option Addr) (n cap : Nat) (w : World) (hb : Blk w p 53 [.int .i64 k, .func F a b, .func G c d]) (hn : n ≠ k) :
    Calls Try.prog 28 #[.pointer (some ⟨p, 0, none⟩), .slice A n cap] w fun e w' => e = .returned (.tuple #[.string (str []), .bool false]) ∧ w = w' := by
  have c2 : w.cell? ⟨p, 2, none⟩ = some (.func G c d) := hb.cell 2
  have c0 : w.cell? ⟨p, 0, none⟩ = some (.int .i64 k) := hb.cell 0
  have hnil := fnil4
  have hne : ((n : Int) != (k : Int)) = true := by simpa using (show (n : Int) ≠ k from by omega)
  go_enter Try.func28, Try.ntmps28
  go_wp2
  go_ret2
  exact ⟨rfl, rfl⟩
set_option maxHeartbeats 1000000 in
theorem deci_none (p k : Nat) (F : Fn) (a b : Array Value) (A : Option Addr) (n cap : Nat) (l : List UInt8) (w : World) (hb : Blk w p 51 [.int .i64 k, .func F a b, .func (.func 32) #[] #[]]) (hn : n = k) (hk : k ≤ 64) (hr : Reads w A n (bytes l)) :
    Calls Try.prog 26 #[.pointer (some ⟨p, 0, none⟩), .slice A n cap] w fun e w' => e = .returned (.tuple #[.int .i64 0, .bool false]) ∧ Keep Nob w w' := by
  subst hn
  have c2 : w.cell? ⟨p, 2, none⟩ = some (.func (.func 32) #[] #[]) := hb.cell 2
  have c0 : w.cell? ⟨p, 0, none⟩ = some (.int .i64 n) := hb.cell 0
  have hnil := fnil2
  go_enter Try.func26, Try.ntmps26
  go_wp2_with fail
  have kd : Keep Nob w w.drew := Keep.nobdrew w
  have cd : w.drew.cell? ⟨p, 2, none⟩ = some (.func (.func 32) #[] #[]) := c2
  have HB := Lib.hid hb
  go_region_held3 (fun w' => w'.cell? ⟨p, 2, none⟩ = some (.func (.func 32) #[] #[]) ∧ w'.cell? ⟨p, 2, none⟩ = some (.func (.func 32) #[] #[])) (first | exact ⟨cd, cd⟩ | exact ⟨(HB.out.nob (kd.nobt k1)).cell 2, (HB.out.nob (kd.nobt k1)).cell 2⟩)
    (first | (go_at_call 34; refine (clone_is A n cap l _ (hr.nob kd) (by omega)).mono ?_; rintro e w1 ⟨A', c', rfl, v1, k1, o1⟩) | (go_at_call 32; refine (none2_is _ _ _ _).mono ?_; rintro e w2 ⟨rfl, rfl⟩))
  have fin := kd.nobt k1
  go_wp2
  go_ret2
  exact ⟨rfl, fin⟩
section
variable {P : Program} {w : World} {ops : Array Oper} {rest : List Oper} {o : Oper} {a : Act} {Q : Exit → Act → World → Prop}
/-- copy(dst, s), s a string of whatever length. -/
theorem run_cpm (W : World) (dT sT elem : TypeId) (hu : P.underlying dT = some (.slice elem)) (hsz : (P.info? elem).map (·.size) = some 1)
    (dp : Option Addr) (dLen dCap g off : Nat) (cur : List Value) (t : TypeId) (hg : Blk W g t cur) (l : List UInt8)
    (hpos : 0 < dLen → dp = some ⟨g, off, none⟩) (hfit : off + dLen ≤ cur.length) :
    ∃ w2, (∀ ty, (Builtin.copy_ #[dT, sT] ty #[.slice dp dLen dCap, .string (str l)]).run P W = .ok (goInt (l.take dLen).length) w2) ∧ Blk w2 g t (splice cur off (bytes (l.take dLen))) ∧ Keep (· = g) W w2 ∧ w2.heap.size = W.heap.size := by
  obtain ⟨i, hi, his⟩ := Option.map_eq_some_iff.1 hsz
  have hmin : Nat.min (str l).size dLen = (l.take dLen).length := by rw [str_size, List.length_take]; exact Nat.min_comm _ _
  have hcells : List.take (l.take dLen).length (List.map (fun b : UInt8 => Value.int .u8 (b.toNat : Int)) (str l).data.toList) = bytes (l.take dLen) := by
    show List.take _ (List.map _ l) = _
    rw [bytes, List.map_take, List.length_take]
    rcases Nat.le_total dLen l.length with h | h
    · rw [Nat.min_eq_left h]
    · rw [Nat.min_eq_right h, List.take_of_length_le (by simp), List.take_of_length_le (by simp; exact h)]
  have hle : (l.take dLen).length ≤ dLen := by rw [List.length_take]; exact Nat.min_le_left _ _
  generalize l.take dLen = m at *
  rcases Nat.eq_zero_or_pos m.length with h0 | h0
  · obtain rfl : m = [] := List.eq_nil_of_length_eq_zero h0
    refine ⟨W, fun ty => ?_, by rw [show splice cur off (bytes []) = cur from by simp [splice, bytes]]; exact hg, Keep.refl _ _, rfl⟩
    cases dp with
    | none => simp [Builtin.copy_, run_underlying hu, Builtin.lenOf, Builtin.firstCells, sizeOf, typeInfo, hi, hmin]
    | some a =>
      simp only [List.length_nil] at hmin hcells
      simp [Builtin.copy_, run_underlying hu, Builtin.lenOf, Builtin.firstCells, sizeOf, typeInfo, hi, hmin, storeCells]
  · obtain rfl := hpos (by omega)
    have hst := run_storeCells_at P g off t (bytes m) 0 cur.toArray W hg (by simp; omega) (bytes_one m)
    refine ⟨W.setRow g (splice cur off (bytes m)).toArray, fun ty => ?_, hg.setRow _, (Keep.refl _ W).setRow g _ (fun _ => rfl), by simp⟩
    simp [Builtin.copy_, run_underlying hu, Builtin.lenOf, Builtin.firstCells, sizeOf, typeInfo, hi, hmin, hcells, hst, splice]
theorem wpList_cpm (hgd : o.guard = none) (d s : Operand) (dT sT : TypeId)
    (ho : o.op = .call { callee := .builtin .copy, args := #[d, s], argTypes := #[dT, sT] }) (elem : TypeId) (hu : P.underlying dT = some (.slice elem)) (hsz : (P.info? elem).map (·.size) = some 1)
    (dp : Option Addr) (dLen dCap : Nat) (l : List UInt8) (hd : a.eval d = .slice dp dLen dCap) (hs : a.eval s = .string (str l))
    (g off : Nat) (cur : List Value) (t : TypeId) (hg : Blk w g t cur)
    (hpos : 0 < dLen → dp = some ⟨g, off, none⟩) (hfit : off + dLen ≤ cur.length) (m : Int) (hm : (((l.take dLen).length : Nat) : Int) = m)
    (h : ∀ w', Blk w' g t (splice cur off (bytes (l.take dLen))) → Keep (· = g) w w' → wpList P ops Q rest (a.put o.dst (goInt m)) w') :
    wpList P ops Q (o :: rest) a w := by
  refine wpList_plain hgd fun K hK => ?_
  obtain ⟨w2, hrun, h2, h3, h4⟩ := run_cpm (P := P) w dT sT elem hu hsz dp dLen dCap g off cur t hg l hpos hfit
  rw [hm] at hrun
  unfold Oper.wp
  simp [execOp, ho, resolve, invoke, builtin, hd, hs, hrun, Result.andThen]
  exact hK _ _ (h w2 h2 h3)
end
/-- What a text leaves in a row of noughts. -/
def laid (k : Nat) (s : List UInt8) : List UInt8 := splice (List.replicate k 0) 0 (s.take k)
theorem laid_fits {k : Nat} {s : List UInt8} (h : s.length ≤ k) : laid k s = s ++ List.replicate (k - s.length) 0 := by
  simp [laid, splice, List.take_of_length_le h]
theorem laid_len (k : Nat) (s : List UInt8) : (laid k s).length = k := by
  rw [laid, length_splice _ _ _ (by simp; omega)]; simp
set_option maxHeartbeats 1000000 in
theorem of3_is (g k c : Nat) (s : List UInt8) (w : World) (hb : Blk w g 5 (bytes (List.replicate k 0))) (hk : k ≤ 64) (hs : s.length ≤ 1000) (v : Bool) (hv : decide (s.length ≤ k) = v) :
    Calls Try.prog 21 #[.string (str s), .slice (some ⟨g, 0, none⟩) k c] w fun e w' => e = .returned (.bool v) ∧ Blk w' g 5 (bytes (laid k s)) ∧ Keep (· = g) w w' := by
  have hsz := str_size s
  have hml : (((s.take k).length : Nat) : Int) = (min k s.length : Nat) := by rw [List.length_take]
  have hd : (((min k s.length : Nat) : Int) == (s.length : Int)) = v := by
    rw [← hv, Bool.eq_iff_iff]; simp; omega
  generalize min k s.length = m at *
  have HV := Lib.hid hv
  have HS := Lib.hid hsz
  clear hv
  go_enter Try.func21, Try.ntmps21
  go_wp2_with (refine wpList_cpm rfl _ _ 22 9 rfl 5 Try.underlying22 Try.size5 (some ⟨g, 0, none⟩) k c s rfl rfl g 0 _ 5 hb (fun _ => rfl) (by simp) m hml ?_; intro w1 hb1 hk1)
  go_ret
  exact ⟨rfl, by rw [laid, ← splice_bytes]; exact hb1, hk1⟩
theorem of1_is (A : Option Addr) (n c : Nat) (v : Int) (l l' : List UInt8) (w : World) (hb : Vec w 5 1 A n c (bytes l)) (hn : n ≤ 100000) (good : Bool) (hg : decide (2 ≤ n ∧ 0 ≤ v ∧ v ≤ 65535) = good)
    (hl : (if good then splice l 0 (two v) else l) = l') :
    Calls Try.prog 18 #[.int .i64 v, .slice A n c] w fun e w' => e = .returned (.bool good) ∧ Vec w' 5 1 A n c (bytes l') ∧ Keep (Own A) w w' := by
  have hp := put_is A n c 0 v l l' w hb hn good (by rw [← hg, decide_eq_decide]; omega) hl
  clear hg hl
  go_enter Try.func18, Try.ntmps18
  go_wp2_with fail
  refine hp.mono ?_; rintro e w1 ⟨rfl, h1, h2⟩
  clear hp
  go_wp2
  go_ret
  exact ⟨rfl, h1, h2⟩
theorem of2_is (A : Option Addr) (n c : Nat) (l : List UInt8) (w : World) (hr : Reads w A n (bytes l)) (hn : n ≤ 100000) (inn : Bool) (hg : decide (2 ≤ n) = inn) (v : Int) (hv : (if inn then num l 0 else 0) = v) :
    Calls Try.prog 19 #[.slice A n c] w fun e w' => e = .returned (.tuple #[.int .i64 v, .bool inn]) ∧ Keep Nob w w' := by
  have hp := get_is A n c 0 l w hr hn inn (by rw [← hg, decide_eq_decide]; omega) v hv
  clear hg hv
  go_enter Try.func19, Try.ntmps19
  go_wp2_with fail
  refine hp.mono ?_; rintro e w1 ⟨rfl, h1⟩
  clear hp
  go_wp2
  go_ret2
  exact ⟨rfl, h1⟩
set_option maxHeartbeats 1000000 in
theorem enci_yes (p k : Nat) (v : Int) (G : Fn) (c d : Array Value) (w : World) (hb : Blk w p 51 [.int .i64 k, .func (.func 18) #[] #[], .func G c d]) (hk : k ≤ 64) (h2 : 2 ≤ k) (h0 : 0 ≤ v) (h1 : v ≤ 65535) :
    Calls Try.prog 25 #[.pointer (some ⟨p, 0, none⟩), .int .i64 v] w fun e w' => ∃ A m, e = .returned (.tuple #[.slice A k m, .bool true]) ∧ Vec w' 5 1 A k m (bytes (splice (List.replicate k 0) 0 (two v))) ∧ Keep Nob w w' ∧ (∀ g, Own A g → w.heap.size ≤ g) := by
  have c0 := hb.cell 0
  simp only [List.getElem?_cons_zero] at c0
  have hnil := fnil1
  go_enter Try.func25, Try.ntmps25
  go_wp2_with (refine wpList_mk rfl _ _ 22 rfl 5 (.int .u8 0) 1 Try.underlying22 Try.info5 rfl .i64 .i64 k _ rfl rfl rfl (by omega) (by omega) ?_; intro w1 hb1 hk1 hs1; clear hs1; have c1 : w1.cell? ⟨p, 1, none⟩ = some (.func (.func 18) #[] #[]) := by rw [(hb.nob hk1).cell]; rfl)
  rw [← bytes_replicate] at hb1
  refine (of1_is _ k k v _ _ _ (Vec.of_blk hb1 (by simp) (by unfold maxLen; omega)) (by omega) true (by simp; omega) rfl).mono ?_; rintro e w2 ⟨rfl, v2, k2⟩
  rw [if_pos rfl] at v2
  have K2 : Keep Nob w w2 := hk1.trans k2 (fun b hb ⟨a, h1, h2⟩ => by cases h1; have h3 : w.heap.size = b := h2; omega)
  have r2 := v2.reads
  rw [Nat.mul_one] at r2
  clear v2 k2 hb1 hk1 c1
  go_wp2_with fail
  refine (clone_is _ _ _ _ _ r2 (by omega)).mono ?_; rintro e w3 ⟨B, m, rfl, v3, k3, o3⟩
  go_wp2
  go_ret2
  exact ⟨B, m, rfl, v3, K2.nobt k3, fun g hg => Nat.le_trans K2.size (o3 g hg)⟩
set_option maxHeartbeats 1000000 in
theorem enci_no (p k : Nat) (v : Int) (G : Fn) (c d : Array Value) (w : World) (hb : Blk w p 51 [.int .i64 k, .func (.func 18) #[] #[], .func G c d]) (hk : k ≤ 64) (h2 : ¬ (2 ≤ k ∧ 0 ≤ v ∧ v ≤ 65535)) :
    Calls Try.prog 25 #[.pointer (some ⟨p, 0, none⟩), .int .i64 v] w fun e w' => e = .returned (.tuple #[.slice none 0 0, .bool false]) ∧ Keep Nob w w' := by
  have c0 := hb.cell 0
  simp only [List.getElem?_cons_zero] at c0
  have hnil := fnil1
  have H2 := Lib.hid h2
  clear h2
  go_enter Try.func25, Try.ntmps25
  go_wp2_with (refine wpList_mk rfl _ _ 22 rfl 5 (.int .u8 0) 1 Try.underlying22 Try.info5 rfl .i64 .i64 k _ rfl rfl rfl (by omega) (by omega) ?_; intro w1 hb1 hk1 hs1; clear hs1; have c1 : w1.cell? ⟨p, 1, none⟩ = some (.func (.func 18) #[] #[]) := by rw [(hb.nob hk1).cell]; rfl)
  rw [← bytes_replicate] at hb1
  refine (of1_is _ k k v _ _ _ (Vec.of_blk hb1 (by simp) (by unfold maxLen; omega)) (by omega) false (by simpa using H2.out) rfl).mono ?_; rintro e w2 ⟨rfl, v2, k2⟩
  have K2 : Keep Nob w w2 := hk1.trans k2 (fun b hb ⟨a, h1, h2⟩ => by cases h1; have h3 : w.heap.size = b := h2; omega)
  clear v2 k2 hb1 hk1 c1
  go_wp2
  go_ret2
  exact ⟨rfl, K2⟩
set_option maxHeartbeats 1000000 in
theorem encs_yes (p k : Nat) (s : List UInt8) (G : Fn) (c d : Array Value) (w : World) (hb : Blk w p 53 [.int .i64 k, .func (.func 21) #[] #[], .func G c d]) (hk : k ≤ 64) (h2 : s.length ≤ k) :
    Calls Try.prog 27 #[.pointer (some ⟨p, 0, none⟩), .string (str s)] w fun e w' => ∃ A m, e = .returned (.tuple #[.slice A k m, .bool true]) ∧ Vec w' 5 1 A k m (bytes (laid k s)) ∧ Keep Nob w w' ∧ (∀ g, Own A g → w.heap.size ≤ g) := by
  have c0 := hb.cell 0
  simp only [List.getElem?_cons_zero] at c0
  have hnil := fnil3
  go_enter Try.func27, Try.ntmps27
  go_wp2_with (refine wpList_mk rfl _ _ 22 rfl 5 (.int .u8 0) 1 Try.underlying22 Try.info5 rfl .i64 .i64 k _ rfl rfl rfl (by omega) (by omega) ?_; intro w1 hb1 hk1 hs1; clear hs1; have c1 : w1.cell? ⟨p, 1, none⟩ = some (.func (.func 21) #[] #[]) := by rw [(hb.nob hk1).cell]; rfl)
  rw [← bytes_replicate] at hb1
  refine (of3_is _ k k s _ hb1 hk (by omega) true (by simp; omega)).mono ?_; rintro e w2 ⟨rfl, b2, k2⟩
  have K2 : Keep Nob w w2 := hk1.trans k2 (fun b hb h1 => by have h3 : b = w.heap.size := h1; omega)
  have r2 := reads_all b2 (by rw [bytes_length, laid_len])
  clear b2 k2 hb1 hk1 c1
  go_wp2_with fail
  refine (clone_is _ _ _ _ _ r2 (by omega)).mono ?_; rintro e w3 ⟨B, m, rfl, v3, k3, o3⟩
  go_wp2
  go_ret2
  exact ⟨B, m, rfl, v3, K2.nobt k3, fun g hg => Nat.le_trans K2.size (o3 g hg)⟩
set_option maxHeartbeats 1000000 in
theorem encs_no (p k : Nat) (s : List UInt8) (G : Fn) (c d : Array Value) (w : World) (hb : Blk w p 53 [.int .i64 k, .func (.func 21) #[] #[], .func G c d]) (hk : k ≤ 64) (h2 : k < s.length) (hs : s.length ≤ 1000) :
    Calls Try.prog 27 #[.pointer (some ⟨p, 0, none⟩), .string (str s)] w fun e w' => e = .returned (.tuple #[.slice none 0 0, .bool false]) ∧ Keep Nob w w' := by
  have c0 := hb.cell 0
  simp only [List.getElem?_cons_zero] at c0
  have hnil := fnil3
  go_enter Try.func27, Try.ntmps27
  go_wp2_with (refine wpList_mk rfl _ _ 22 rfl 5 (.int .u8 0) 1 Try.underlying22 Try.info5 rfl .i64 .i64 k _ rfl rfl rfl (by omega) (by omega) ?_; intro w1 hb1 hk1 hs1; clear hs1; have c1 : w1.cell? ⟨p, 1, none⟩ = some (.func (.func 21) #[] #[]) := by rw [(hb.nob hk1).cell]; rfl)
  rw [← bytes_replicate] at hb1
  refine (of3_is _ k k s _ hb1 hk hs false (by simp; omega)).mono ?_; rintro e w2 ⟨rfl, b2, k2⟩
  have K2 : Keep Nob w w2 := hk1.trans k2 (fun b hb h1 => by have h3 : b = w.heap.size := h1; omega)
  clear b2 k2 hb1 hk1 c1
  go_wp2
  go_ret2
  exact ⟨rfl, K2⟩
end Go.Proofs.Ytcamgelnkjghbaa
