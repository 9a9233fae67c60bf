import Derived.Test.YtgcikpgcoemfnaaGreatPs19
import Derived.Test.YtgcikpgcoemfnaaGreatPs26
set_option maxRecDepth 100000
set_option maxHeartbeats 8000000
set_option linter.unusedVariables false
set_option linter.unusedSimpArgs false
namespace Go.Proofs.YtgcikpgcoemfnaaGreat
open Go.RowKit
section
variable {w w' : World} {K K' : Kn}
theorem Blk.ans {W : World} {g a : Nat} {t : TypeId} {cs : List Value} (hb : Blk W g t cs) (h : g ≠ a) (x y z : Value) : Blk (((W.setCell ⟨a, 0, none⟩ x).setCell ⟨a, 1, none⟩ y).setCell ⟨a, 2, none⟩ z) g t cs := ((hb.far h x).far h y).far h z
def Left (P : Kn → Prop) (K : Kn) (W w' : World) : Prop := ∃ K', P K' ∧ To W K K' w'
def Stay (P : Kn → Prop) (K : Kn) : Prop := ∀ K', P K' → K'.k = K.k ∧ K'.q = K.q ∧ K'.s = K.s ∧ K'.pq = K.pq
def fq (op cap at_ n to_ on : Int) (A : Option Addr) (m c : Nat) : Value := .agg #[.int .i64 op, .int .i64 cap, .int .i64 at_, .int .i64 n, .int .i64 to_, .int .i64 on, .slice A m c]
theorem do_write (h : aK w K) (i : Nat) (hi : i < K.envs.length) (cap at_ n to_ on : Int) (A : Option Addr) (m c : Nat) (P : Kn → Prop) (hP : Stay P K) (er : Int) (hcall : ∀ ss, K.envs.getD i 0 = ss → ∀ W, Keep Nob w W → Calls Tryz.prog 81 #[.pointer (some ⟨K.q, 0, none⟩), .int .i64 i, .int .i64 cap, .int .i64 at_, .slice A m c] W fun e w' => e = .returned (.int .i64 er) ∧ Left P K W w') :
  Calls Tryz.prog 30 #[.pointer (some ⟨K.k, 0, none⟩), .int .i64 i, fq 2 cap at_ n to_ on A m c] w fun e w' => e = .returned (.agg #[.int .i64 er, .int .i64 0, .slice none 0 0]) ∧ Left P K w w' := by
 have k1 : Keep Nob w ((w.alloc (.cells #[.int .i64 2, .int .i64 cap, .int .i64 at_, .int .i64 n, .int .i64 to_, .int .i64 on, .slice A m c] 79)).alloc (.cells #[.int .i64 0, .int .i64 0, .slice none 0 0] 85)) := ((Keep.refl Nob w).alloc _).alloc _
 have b1 : Blk ((w.alloc (.cells #[.int .i64 2, .int .i64 cap, .int .i64 at_, .int .i64 n, .int .i64 to_, .int .i64 on, .slice A m c] 79)).alloc (.cells #[.int .i64 0, .int .i64 0, .slice none 0 0] 85)) w.heap.size 79 [.int .i64 2, .int .i64 cap, .int .i64 at_, .int .i64 n, .int .i64 to_, .int .i64 on, .slice A m c] := (Blk.new w 79 _).alloc _
 have b2 : Blk ((w.alloc (.cells #[.int .i64 2, .int .i64 cap, .int .i64 at_, .int .i64 n, .int .i64 to_, .int .i64 on, .slice A m c] 79)).alloc (.cells #[.int .i64 0, .int .i64 0, .slice none 0 0] 85)) (w.heap.size + 1) 85 [.int .i64 0, .int .i64 0, .slice none 0 0] := by
  have := Blk.new (w.alloc (.cells #[.int .i64 2, .int .i64 cap, .int .i64 at_, .int .i64 n, .int .i64 to_, .int .i64 on, .slice A m c] 79)) 85 [.int .i64 0, .int .i64 0, .slice none 0 0]
  simpa using this
 have h1 := h.nob k1
 have KK := aa (And.intro k1 (And.intro b1 (And.intro b2 h1)))
 clear k1 b1 b2 h1
 unfold fq
 go_enter Tryz.func30, Tryz.ntmps30
 go_wp2_with fail
 obtain ⟨ss, hss⟩ : ∃ ss, K.envs.getD i 0 = ss := ⟨_, rfl⟩
 refine (jM KK.out.2.2.2 i hi ss hss).mono ?_; rintro e w1 ⟨rfl, rfl⟩
 generalize hw1 : ((w.alloc (.cells #[.int .i64 2, .int .i64 cap, .int .i64 at_, .int .i64 n, .int .i64 to_, .int .i64 on, .slice A m c] 79)).alloc (.cells #[.int .i64 0, .int .i64 0, .slice none 0 0] 85)) = w1 at *
 clear hw1
 have l0 := KK.out.2.1.cell 0
 simp only [List.getElem?_cons_zero] at l0
 have sf : ∀ (K' : Kn) (W : World), aK W K' → (K'.k = K.k ∧ K'.q = K.q ∧ K'.s = K.s ∧ K'.pq = K.pq) → Blk W w.heap.size 79 [.int .i64 2, .int .i64 cap, .int .i64 at_, .int .i64 n, .int .i64 to_, .int .i64 on, .slice A m c] → (W.cell? ⟨K.k, 5, none⟩ = some (.pointer (some ⟨K.q, 0, none⟩)) ∧ W.cell? ⟨w.heap.size, 1, none⟩ = some (.int .i64 cap) ∧ W.cell? ⟨w.heap.size, 2, none⟩ = some (.int .i64 at_) ∧ W.cell? ⟨w.heap.size, 6, none⟩ = some (.slice A m c)) := by
  rintro K' W hW ⟨e1, e2, e3, e4⟩ hb
  have cK := hW.c5
  rw [e1, e2] at cK
  exact ⟨cK, hb.cell 1, hb.cell 2, hb.cell 6⟩
 have kd := Keep.nobdrew w1
 have hcl := hcall ss hss w1.drew (KK.out.1.drew)
 have s0 := sf K w1.drew (KK.out.2.2.2.nob kd) ⟨rfl, rfl, rfl, rfl⟩ (KK.out.2.1.nob kd)
 have SF := aa sf
 clear sf hcall hss h hi
 go_wp2_with fail
 go_region_held3 (fun w' => w'.cell? ⟨K.k, 5, none⟩ = some (.pointer (some ⟨K.q, 0, none⟩)) ∧ w'.cell? ⟨w.heap.size, 1, none⟩ = some (.int .i64 cap) ∧ w'.cell? ⟨w.heap.size, 2, none⟩ = some (.int .i64 at_) ∧ w'.cell? ⟨w.heap.size, 6, none⟩ = some (.slice A m c))
  (first | exact s0 | exact SF.out K' _ t1.is (hP K' hp) bc | exact SF.out K' _ (t1.ans ba (by omega) _ _ _).is (hP K' hp) (bc.ans (by omega) _ _ _))
  (first | (go_at_call 81; refine hcl.mono ?_; rintro e w2 ⟨rfl, K', hp, t0⟩; have t1 := (t0.pre kd).pre KK.out.1; have bc := (KK.out.2.2.2.nob kd).offT (KK.out.2.1.nob kd) (by decide) t0.keep; have ba := (KK.out.2.2.2.nob kd).offT (KK.out.2.2.1.nob kd) (by decide) t0.keep; have z0 := ba.cell 0; have z1 := ba.cell 1; have z2 := ba.cell 2; have f0 := ba.frozen 0; have f1 := ba.frozen 1; have f2 := ba.frozen 2; simp only [List.getElem?_cons_zero, List.getElem?_cons_succ] at z0 z1 z2))
 have HB := aa ba
 have fin := aa (t1.ans ba (by omega) (.int .i64 er) (.int .i64 0) (.slice none 0 0))
 clear t1 t0 bc ba
 go_wp2
 (try simp only [Exit.inBlock, Exit.then])
 refine bodyPost_ret (v := .agg #[.int .i64 er, .int .i64 0, .slice none 0 0]) (results_cell_row rfl _ _ (w.heap.size + 1) 85 #[.int .i64 er, .int .i64 0, .slice none 0 0] (0, 0) _ rfl (ans_blk HB.out _ _ _) Tryz.underlying85 rfl infoAns) rfl ?_
 exact ⟨rfl, _, hp, fin.out⟩
theorem do_read (h : aK w K) (i : Nat) (hi : i < K.envs.length) (cap at_ n to_ on : Int) (A : Option Addr) (m c : Nat) (er : Int) (l : Nat) (ys : List UInt8) (hcall : ∀ W, Keep Nob w W → Calls Tryz.prog 80 #[.pointer (some ⟨K.q, 0, none⟩), .int .i64 i, .int .i64 cap, .int .i64 at_, .int .i64 n] W fun e w' => ∃ A' c', e = .returned (.tuple #[.slice A' l c', .int .i64 er]) ∧ ae w' A' l (bytes ys) ∧ (∀ ad, A' = some ad → W.heap.size ≤ ad.block) ∧ Keep Nob W w') :
  Calls Tryz.prog 30 #[.pointer (some ⟨K.k, 0, none⟩), .int .i64 i, fq 1 cap at_ n to_ on A m c] w fun e w' => ∃ A' c', e = .returned (.agg #[.int .i64 er, .int .i64 0, .slice A' l c']) ∧ ae w' A' l (bytes ys) ∧ (∀ ad, A' = some ad → w.heap.size ≤ ad.block) ∧ To w K K w' := by
 have k1 : Keep Nob w ((w.alloc (.cells #[.int .i64 1, .int .i64 cap, .int .i64 at_, .int .i64 n, .int .i64 to_, .int .i64 on, .slice A m c] 79)).alloc (.cells #[.int .i64 0, .int .i64 0, .slice none 0 0] 85)) := ((Keep.refl Nob w).alloc _).alloc _
 have b1 : Blk ((w.alloc (.cells #[.int .i64 1, .int .i64 cap, .int .i64 at_, .int .i64 n, .int .i64 to_, .int .i64 on, .slice A m c] 79)).alloc (.cells #[.int .i64 0, .int .i64 0, .slice none 0 0] 85)) w.heap.size 79 [.int .i64 1, .int .i64 cap, .int .i64 at_, .int .i64 n, .int .i64 to_, .int .i64 on, .slice A m c] := (Blk.new w 79 _).alloc _
 have b2 : Blk ((w.alloc (.cells #[.int .i64 1, .int .i64 cap, .int .i64 at_, .int .i64 n, .int .i64 to_, .int .i64 on, .slice A m c] 79)).alloc (.cells #[.int .i64 0, .int .i64 0, .slice none 0 0] 85)) (w.heap.size + 1) 85 [.int .i64 0, .int .i64 0, .slice none 0 0] := by
  have := Blk.new (w.alloc (.cells #[.int .i64 1, .int .i64 cap, .int .i64 at_, .int .i64 n, .int .i64 to_, .int .i64 on, .slice A m c] 79)) 85 [.int .i64 0, .int .i64 0, .slice none 0 0]
  simpa using this
 have h1 := h.nob k1
 have KK := aa (And.intro k1 (And.intro b1 (And.intro b2 h1)))
 clear k1 b1 b2 h1
 unfold fq
 go_enter Tryz.func30, Tryz.ntmps30
 go_wp2_with fail
 obtain ⟨ss, hss⟩ : ∃ ss, K.envs.getD i 0 = ss := ⟨_, rfl⟩
 refine (jM KK.out.2.2.2 i hi ss hss).mono ?_; rintro e w1 ⟨rfl, rfl⟩
 generalize hw1 : ((w.alloc (.cells #[.int .i64 1, .int .i64 cap, .int .i64 at_, .int .i64 n, .int .i64 to_, .int .i64 on, .slice A m c] 79)).alloc (.cells #[.int .i64 0, .int .i64 0, .slice none 0 0] 85)) = w1 at *
 clear hw1
 have l0 := KK.out.2.1.cell 0
 simp only [List.getElem?_cons_zero] at l0
 have sf : ∀ (K' : Kn) (W : World), aK W K' → (K'.k = K.k ∧ K'.q = K.q ∧ K'.s = K.s ∧ K'.pq = K.pq) → Blk W w.heap.size 79 [.int .i64 1, .int .i64 cap, .int .i64 at_, .int .i64 n, .int .i64 to_, .int .i64 on, .slice A m c] → (W.cell? ⟨K.k, 5, none⟩ = some (.pointer (some ⟨K.q, 0, none⟩)) ∧ W.cell? ⟨w.heap.size, 1, none⟩ = some (.int .i64 cap) ∧ W.cell? ⟨w.heap.size, 2, none⟩ = some (.int .i64 at_) ∧ W.cell? ⟨w.heap.size, 3, none⟩ = some (.int .i64 n)) := by
  rintro K' W hW ⟨e1, e2, e3, e4⟩ hb
  have cK := hW.c5
  rw [e1, e2] at cK
  exact ⟨cK, hb.cell 1, hb.cell 2, hb.cell 3⟩
 have kd := Keep.nobdrew w1
 have hcl := hcall w1.drew (KK.out.1.drew)
 have s0 := sf K w1.drew (KK.out.2.2.2.nob kd) ⟨rfl, rfl, rfl, rfl⟩ (KK.out.2.1.nob kd)
 have SF := aa sf
 clear sf hcall hss h hi
 go_wp2_with fail
 go_region_held3 (fun w' => w'.cell? ⟨K.k, 5, none⟩ = some (.pointer (some ⟨K.q, 0, none⟩)) ∧ w'.cell? ⟨w.heap.size, 1, none⟩ = some (.int .i64 cap) ∧ w'.cell? ⟨w.heap.size, 2, none⟩ = some (.int .i64 at_) ∧ w'.cell? ⟨w.heap.size, 3, none⟩ = some (.int .i64 n))
  (first | exact s0 | exact SF.out K _ (KK.out.2.2.2.nob kx) ⟨rfl, rfl, rfl, rfl⟩ (KK.out.2.1.nob kx))
  (first | (go_at_call 80; refine hcl.mono ?_; rintro e w2 ⟨A', c', rfl, hrd, hfr, k2⟩; have kx := kd.trans k2 (fun _ _ f => f)))
 have ba := KK.out.2.2.1.nob kx
 have z0 := ba.cell 0
 have z1 := ba.cell 1
 have z2 := ba.cell 2
 have f0 := ba.frozen 0
 have f1 := ba.frozen 1
 have f2 := ba.frozen 2
 simp only [List.getElem?_cons_zero, List.getElem?_cons_succ] at z0 z1 z2
 have HB := aa ba
 have fin := aa (((To.still KK.out.2.2.2 kx).pre KK.out.1).ans ba (by omega) (.int .i64 er) (.int .i64 0) (.slice A' l c'))
 have hrd2 : ae (((w2.setCell ⟨w.heap.size + 1, 0, none⟩ (.int .i64 er)).setCell ⟨w.heap.size + 1, 1, none⟩ (.int .i64 0)).setCell ⟨w.heap.size + 1, 2, none⟩ (.slice A' l c')) A' l (bytes ys) := by
  refine hrd.keep (ans_keep w2 (w.heap.size + 1) _ _ _) (fun ad e m => ?_)
  have h2 := hfr ad e
  have h3 := KK.out.2.2.1.lt
  have h4 : w1.drew.heap.size = w1.heap.size := rfl
  have h5 : ad.block = w.heap.size + 1 := m
  omega
 have hfr2 : ∀ ad, A' = some ad → w.heap.size ≤ ad.block := fun ad e => by
  have h2 := hfr ad e
  have h3 := KK.out.2.2.1.lt
  have h4 : w1.drew.heap.size = w1.heap.size := rfl
  omega
 have HR := aa (And.intro hrd2 hfr2)
 clear ba kx k2 hrd hrd2 hfr hfr2 hcl
 go_wp2
 (try simp only [Exit.inBlock, Exit.then])
 refine bodyPost_ret (v := .agg #[.int .i64 er, .int .i64 0, (.slice A' l c')]) (results_cell_row rfl _ _ (w.heap.size + 1) 85 #[.int .i64 er, .int .i64 0, (.slice A' l c')] (0, 0) _ rfl (ans_blk HB.out _ _ _) Tryz.underlying85 rfl infoAns) rfl ?_
 exact ⟨_, _, rfl, HR.out.1, HR.out.2, fin.out⟩
end
end Go.Proofs.YtgcikpgcoemfnaaGreat
