/- Texts Cod0, SltE, FilE, RinE, packed. -/
import Derived.Test.YtifigjccokpcfaaGreatRows
import Derived.BigQuiet
import Derived.Test.YtifigjccokpcfaaGreatPk0
import Derived.Test.YtifigjccokpcfaaGreatPk3
import Derived.Test.YtifigjccokpcfaaGreatPk5
namespace Go.Proofs.YtifigjccokpcfaaGreat.Cd
open Go.RowKit
set_option linter.unusedVariables false
set_option linter.unusedSimpArgs false
set_option maxHeartbeats 1000000 in
theorem rtwo_is (n : Int) (w : World) (h0 : 0 ≤ n) (h1 : n ≤ 65535) : Calls Tryz.prog 75 #[.int .i64 n] w fun e w' => e = .returned (.string (str (two n))) ∧ Keep Nob w w' := by
  have hs : ∀ (g c : Nat) (W : World), Blk W g 5 [.int .u8 (n / 256), .int .u8 (n % 256)] → (convert 34 9 (.slice (some ⟨g, 0, none⟩) 2 c)).run Tryz.prog W = .ok (.string (str (two n))) W := fun g c W hb =>
    run_str (P := Tryz.prog) W 34 9 5 (some ⟨g, 0, none⟩) 2 c _ Tryz.underlying34 Tryz.underlying5 Tryz.underlying9 (by rw [two_cells2 h0 h1]; exact reads_all hb rfl)
  have hs1 := fun c => hs w.heap.size c _ (Blk.new w 5 [.int .u8 (n / 256), .int .u8 (n % 256)])
  go_enter Tryz.func75, Tryz.ntmps75
  go_wp2
  go_ret
  exact ⟨rfl, (Keep.refl _ w).alloc _⟩
end Go.Proofs.YtifigjccokpcfaaGreat.Cd
namespace Go.Proofs.YtifigjccokpcfaaGreat.Cd
open Go.RowKit
set_option linter.unusedVariables false
set_option linter.unusedSimpArgs false
theorem eq_pv (p q : List Int) (hp : p.length = 16) (hq : q.length = 16) (W : World) : (binOp .eql 39 (pv p) (pv q)).run Tryz.prog W = .ok (.bool (decide (p = q))) W := by
  obtain ⟨a0, a1, a2, a3, a4, a5, a6, a7, f0, f1, f2, f3, f4, f5, f6, f7, rfl⟩ := split16 hp
  obtain ⟨b0, b1, b2, b3, b4, b5, b6, b7, g0, g1, g2, g3, g4, g5, g6, g7, rfl⟩ := split16 hq
  have h := fun n => eq_procs n a0 a1 a2 a3 a4 a5 a6 a7 f0 f1 f2 f3 f4 f5 f6 f7 b0 b1 b2 b3 b4 b5 b6 b7 g0 g1 g2 g3 g4 g5 g6 g7 W
  have e : decide ([a0, a1, a2, a3, a4, a5, a6, a7, f0, f1, f2, f3, f4, f5, f6, f7] = [b0, b1, b2, b3, b4, b5, b6, b7, g0, g1, g2, g3, g4, g5, g6, g7]) = (a0 == b0 && (a1 == b1 && (a2 == b2 && (a3 == b3 && (a4 == b4 && (a5 == b5 && (a6 == b6 && (a7 == b7 && (f0 == g0 && (f1 == g1 && (f2 == g2 && (f3 == g3 && (f4 == g4 && (f5 == g5 && (f6 == g6 && (f7 == g7)))))))))))))))) := by
    rw [Bool.eq_iff_iff, decide_eq_true_iff]
    simp only [List.cons.injEq, and_true, Bool.and_eq_true, beq_iff_eq]
  rw [e]
  generalize (a0 == b0 && (a1 == b1 && (a2 == b2 && (a3 == b3 && (a4 == b4 && (a5 == b5 && (a6 == b6 && (a7 == b7 && (f0 == g0 && (f1 == g1 && (f2 == g2 && (f3 == g3 && (f4 == g4 && (f5 == g5 && (f6 == g6 && (f7 == g7)))))))))))))))) = d at *
  have hu := Tryz.underlying39
  simp only [pv, ints, List.map_cons, List.map_nil]
  have h9 := h 9997
  go_simp
end Go.Proofs.YtifigjccokpcfaaGreat.Cd
namespace Go.Proofs.YtifigjccokpcfaaGreat.Fi
open Go.RowKit Cd
set_option linter.unusedVariables false
set_option linter.unusedSimpArgs false
theorem eq_pv (p q : List Int) (hp : p.length = 4) (hq : q.length = 4) (W : World) : (binOp .eql 43 (pv p) (pv q)).run Tryz.prog W = .ok (.bool (decide (p = q))) W := by
  obtain ⟨a0, a1, a2, a3, rfl⟩ := split4 hp
  obtain ⟨b0, b1, b2, b3, rfl⟩ := split4 hq
  have h := fun n => eq_files n a0 a1 a2 a3 b0 b1 b2 b3 W
  have e : decide ([a0, a1, a2, a3] = [b0, b1, b2, b3]) = (a0 == b0 && (a1 == b1 && (a2 == b2 && a3 == b3))) := by
    rw [Bool.eq_iff_iff, decide_eq_true_iff]
    simp only [List.cons.injEq, and_true, Bool.and_eq_true, beq_iff_eq]
  rw [e]
  generalize (a0 == b0 && (a1 == b1 && (a2 == b2 && a3 == b3))) = d at *
  have hu := Tryz.underlying43
  simp only [pv, ints, List.map_cons, List.map_nil]
  have h9 := h 9997
  go_simp
end Go.Proofs.YtifigjccokpcfaaGreat.Fi
namespace Go.Proofs.YtifigjccokpcfaaGreat.Ri
open Go.RowKit Cd
set_option linter.unusedVariables false
set_option linter.unusedSimpArgs false
theorem eq_pv (p q : Pp) (hp : p.d.length = 32) (hq : q.d.length = 32) (v : Bool) (hv : same p q = v) (W : World) : (binOp .eql 48 (pv p) (pv q)).run Tryz.prog W = .ok (.bool v) W := by
  have h := fun n => eq_pipes n p q hp hq W
  rw [hv] at h
  have hu := Tryz.underlying48
  unfold pv at *
  generalize (pc p).toArray = X at *
  generalize (pc q).toArray = Y at *
  have h9 := h 9997
  go_simp
end Go.Proofs.YtifigjccokpcfaaGreat.Ri
