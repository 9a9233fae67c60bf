/- Layer 8 (kern): awake; the walk of KernClock. -/
import Derived.Test.YtompckcnpidbdaaGreatKrn9
import Derived.Test.YtompckcnpidbdaaGreatBits
import Derived.Test.YtompckcnpidbdaaGreatRead
namespace Go.Proofs.YtompckcnpidbdaaGreat
open Go.RowKit
set_option linter.unusedVariables false
set_option linter.unusedSimpArgs false
def at_ (w : World) (i : Nat) : Option Addr := some ⟨w.heap.size + i, 0, none⟩
def LA (w : World) : List (TypeId × List Value) := [(3, [.int .i64 2, .int .i64 2]), (3, [.int .i64 0, .int .i64 1]), (3, [.int .i64 0]), (27, [.slice (some ⟨w.heap.size + 2, 0, none⟩) 1 1]), (3, [.int .i64 0]), (53, [.int .i64 0, .int .i64 0, .int .i64 0, .int .i64 10, .slice (some ⟨w.heap.size + 4, 0, none⟩) 1 1])]
def bA (w : World) : Bt := ⟨[2, 2], some ⟨w.heap.size, 0, none⟩, 2, [0, 1], some ⟨w.heap.size + 1, 0, none⟩, 2, [⟨some ⟨w.heap.size + 2, 0, none⟩, 1, [0]⟩], some ⟨w.heap.size + 3, 0, none⟩, 1, 5, [⟨0, 0, 0, 10, some ⟨w.heap.size + 4, 0, none⟩, 1, [0]⟩], some ⟨w.heap.size + 5, 0, none⟩, 1⟩
theorem isA (w : World) : IsBt (mkw w (LA w)) (bA w) := by
  refine ⟨mkw_reads (l := LA w) 0 rfl 2 rfl, (by dsimp only [bA]; decide), mkw_reads (l := LA w) 1 rfl 2 rfl, mkw_reads (l := LA w) 3 rfl 1 rfl, fun s hs => ?_, mkw_reads (l := LA w) 5 rfl 5 rfl, fun s hs => ?_⟩
  · obtain rfl := List.mem_singleton.1 hs
    exact mkw_reads (l := LA w) 2 rfl 1 rfl
  · obtain rfl := List.mem_singleton.1 hs
    exact mkw_reads (l := LA w) 4 rfl 1 rfl
theorem okA (w : World) : BtOk (bA w) [2, 2] := by
  refine ⟨?_, ?_, ?_, ?_, ?_, ?_, ?_, ?_, ?_, fun s hs => ?_, fun s hs => ?_⟩
  any_goals (first | exact Nat.le_of_ble_eq_true rfl | (dsimp only [bA]; decide))
  · intro x hx
    simp [bA] at hx
    dsimp only [bA]
    rcases hx with rfl | rfl <;> decide
  · obtain rfl := List.mem_singleton.1 hs
    refine ⟨fun x hx => ?_, ?_⟩
    · obtain rfl := List.mem_singleton.1 hx
      dsimp only [bA]
      decide
    · dsimp only
      decide
  · obtain rfl := List.mem_singleton.1 hs
    refine ⟨?_, ?_, ?_, ?_, ?_, ?_, ?_, fun x hx => ?_, ?_⟩
    any_goals (first | exact Nat.le_of_ble_eq_true rfl | (dsimp only; decide))
    obtain rfl := List.mem_singleton.1 hx
    decide
theorem hasA (w : World) (ρ : Rf) (c : Cp) : Has (tOf (csAt (bA w).envs (bA w).shared (bA w).shared.length)) 2 ρ c ↔ ρ = (0, 256) ∧ c = ⟨0, 3, 0, 10, (0, 0)⟩ := by
  rw [row_has (fun e _ => by have := csAt_len (bA w).envs (bA w).shared (bA w).shared.length e; have h1 : (bA w).shared.length = 1 := rfl; omega)]
  have e0 : ∀ e, csAt (bA w).envs (bA w).shared (bA w).shared.length e = if e < 2 ∧ [(0 : Int), 1].getD e 0 ∈ [(0 : Int)] then [(⟨0, 3, 0, 10, (0, 0)⟩ : Cp)] else [] := by
    intro e
    show gave (fun _ => []) [0, 1] [0] _ 2 e = _
    unfold gave
    split <;> rfl
  constructor
  · rintro ⟨e, i, he, rfl, hc⟩
    rw [e0] at hc
    have hcase : e = 0 ∨ e = 1 := by omega
    rcases hcase with rfl | rfl
    · rw [if_pos (by decide)] at hc
      cases i with
      | zero => simp at hc; exact ⟨by simp, hc.symm⟩
      | succ i => simp at hc
    · rw [if_neg (by decide)] at hc
      simp at hc
  · rintro ⟨rfl, rfl⟩
    exact ⟨0, 0, by decide, by simp, by rw [e0, if_pos (by decide)]; rfl⟩
set_option maxRecDepth 100000 in
set_option maxHeartbeats 4000000 in
theorem awake_true (w : World) : Calls Tryz.prog 14 #[] w fun e w' => e = .returned (.bool true) ∧ Keep Nob w w' := by
  go_enter Tryz.func14, Tryz.ntmps14
  go_wp2_with fail
  refine (knew_is (isA w) (okA w)).mono ?_; rintro e w1 ⟨K, rfl, hF, hB⟩
  have h1 := hF.kn0 (mkw_keep (LA w) w)
  have hn : K.envs.length = 2 := by rw [hB.envs]; rfl
  have hT : ∀ ρ c, Has K.T K.envs.length ρ c ↔ ρ = (0, 256) ∧ c = ⟨0, 3, 0, 10, (0, 0)⟩ := by
    rw [hn, hB.T]; exact hasA w
  have hL : K.L = [(0, 10)] := by rw [hB.L]; rfl
  have hx : K.xs = zeros 4 := by rw [hB.xs]; rfl
  have hnow : K.now = 0 := hB.now
  obtain ⟨G, hG, hmay⟩ : ∃ G, K.gates[0]? = some G ∧ G.may = [0] := by
    have := hB.gates
    have h2 := congrArg (·[0]?) this
    simp only [List.getElem?_map] at h2
    cases hg : K.gates[0]? with
    | none => rw [hg] at h2; cases h2
    | some G => rw [hg] at h2; exact ⟨G, rfl, by cases G; simp [bA] at h2 ⊢; exact h2.2⟩
  have hd0 : Has K.T K.envs.length (((0 : Nat) : Int), 256) ⟨0, 3, 0, 10, (0, 0)⟩ := (hT _ _).2 ⟨rfl, rfl⟩
  have hd1 : ∀ c, ¬ Has K.T K.envs.length (((1 : Nat) : Int), 256) c := fun c hc => by
    have := ((hT _ _).1 hc).1
    simp at this
  have HN := Lib.hid hn
  have HG := Lib.hid (And.intro hG hmay)
  have HX := Lib.hid hx
  have HL := Lib.hid hL
  have HW := Lib.hid hnow
  have HE := Lib.hid hB.envs
  have HD := Lib.hid (And.intro hd0 hd1)
  clear hF hB hT hn hG hmay hx hL hnow hd0 hd1
  have kA := (Keep.refl Nob w1).alloc (.cells #[.int .u8 7] 5)
  have h2 := h1.nob kA
  have rA := reads_new w1 5 _ rfl [7] _ rfl
  clear kA h1
  go_wp2_with fail
  refine (k_write h2.is 0 (by rw [HN.out]; decide) 256 0 0 0 0 _ 1 1 0 [7] (.yes _ (0, 10) 0 HD.out.1 (by decide) ⟨by decide, by decide, by decide, by decide, by rw [HL.out]; rfl, by decide⟩ (by decide)) rA (splice K.xs 0 [7]) rfl).mono ?_; rintro e w2 ⟨rfl, t2⟩
  have h3 := (h2.to t2).nob ((Keep.refl Nob w2).alloc (.cells #[.int .i64 0, .int .i64 0, .slice none 0 0] 40))
  have ba := Blk.new w2 40 [.int .i64 0, .int .i64 0, .slice none 0 0]
  clear t2 h2 rA
  go_wp2_with fail
  refine (k_read h3.is 0 (by dsimp only; rw [HN.out]; decide) 256 0 0 0 none 0 0 1 0 (.yes _ (0, 10) 0 HD.out.1 (by decide) ⟨by decide, by decide, by decide, by decide, by dsimp only; rw [HL.out]; rfl, by decide⟩ (by decide)) [7] (by dsimp only; rw [HX.out]; decide) 1 rfl).mono ?_; rintro e w3 ⟨A', c', rfl, hrd, hfr, t3⟩
  have kB := (Keep.refl Nob w3).alloc (.cells #[.int .i64 0, .int .i64 0, .slice A' 1 c'] 40)
  have h4 := (h3.to t3).nob kB
  have ba4 := (h3.is.offT ba (by decide) t3.keep).nob kB
  have bb := Blk.new w3 40 [.int .i64 0, .int .i64 0, .slice A' 1 c']
  have r4 := hrd.nob kB
  have no4 : ∀ ad, A' = some ad → ¬ Turn _ ad.block := fun ad e m => by
    have := h3.is.mine_lt ad.block (.inl m)
    have := hfr ad e
    omega
  clear t3 h3 ba hrd hfr kB
  go_wp2_with fail
  refine (k_read_no h4.is 1 (by dsimp only; rw [HN.out]; decide) 256 0 1 0 0 none 0 0 2 (.nocap HD.out.2) (by decide)).mono ?_; rintro e w4 ⟨A4, c4, rfl, t4⟩
  have kC := (Keep.refl Nob w4).alloc (.cells #[.int .i64 2, .int .i64 0, .slice A4 0 c4] 40)
  have h5 := (h4.to t4).nob kC
  have ba5 := (h4.is.offT ba4 (by decide) t4.keep).nob kC
  have bb5 := (h4.is.offT bb (by decide) t4.keep).nob kC
  have bc := Blk.new w4 40 [.int .i64 2, .int .i64 0, .slice A4 0 c4]
  have r5 := (r4.keep t4.keep no4).nob kC
  clear t4 h4 ba4 bb r4 kC
  go_wp2_with fail
  have hmy : ∀ ys, May { K with xs := ys } 1 0 false := fun ys => by
    have := May.at_ (K := { K with xs := ys }) (ss := 1) 0 G rfl HG.out.1
    rw [HG.out.2] at this
    exact this
  refine (k_enter_no h5.is 1 (by dsimp only; rw [HN.out]; decide) 0 0 0 0 0 none 0 0 1 (by dsimp only; rw [HE.out]; rfl) (hmy _)).mono ?_; rintro e w5 ⟨rfl, t5⟩
  have kD := (Keep.refl Nob w5).alloc (.cells #[.int .i64 8, .int .i64 0, .slice none 0 0] 40)
  have h6 := (h5.to t5).nob kD
  have ba6 := (h5.is.offT ba5 (by decide) t5.keep).nob kD
  have bb6 := (h5.is.offT bb5 (by decide) t5.keep).nob kD
  have bc6 := (h5.is.offT bc (by decide) t5.keep).nob kD
  have bd := Blk.new w5 40 [.int .i64 8, .int .i64 0, .slice none 0 0]
  have r6 := (r5.keep t5.keep no4).nob kD
  clear t5 h5 ba5 bb5 bc r5 kD hmy no4
  have a0 := ba6.cell 0
  have b2 := bb6.cell 2
  have c0 := bc6.cell 0
  have d0 := bd.cell 0
  simp only [List.getElem?_cons_zero, List.getElem?_cons_succ] at a0 b2 c0 d0
  have s1 : (convert 33 9 (.slice A' 1 c')).run Tryz.prog (w5.alloc (.cells #[.int .i64 8, .int .i64 0, .slice none 0 0] 40)) = .ok (.string ⟨#[7]⟩) (w5.alloc (.cells #[.int .i64 8, .int .i64 0, .slice none 0 0] 40)) := run_str (P := Tryz.prog) _ 33 9 5 A' 1 c' [7] Tryz.underlying33 Tryz.underlying5 Tryz.underlying9 r6
  go_wp2_with fail
  refine (now_is h6.is 0 HW.out).mono ?_; rintro e w6 ⟨rfl, rfl⟩
  go_wp2
  go_ret
  exact ⟨rfl, h6.keep.mono (fun k hk m => absurd m (Nat.not_le.2 hk))⟩
end Go.Proofs.YtompckcnpidbdaaGreat
