/- Texts PrU, packed. -/
import Derived.Test.YtgcikpgcoemfnaaGreatRows
import Derived.BigQuiet
import Derived.Lib.TrailingZeros
import Derived.Laws.ResultCell
import Derived.Shelf.Spec.TrailingZeros
import Derived.Deep.QuietTactic
import Derived.BigRegion
import Derived.Deep.RegionHeld3
import Derived.Test.YtgcikpgcoemfnaaGreatPu0
import Derived.Test.YtgcikpgcoemfnaaGreatPvx0
import Derived.Test.YtgcikpgcoemfnaaGreatPvx1
import Derived.Test.YtgcikpgcoemfnaaGreatPu4
import Derived.Test.YtgcikpgcoemfnaaGreatPu18
import Derived.Test.YtgcikpgcoemfnaaGreatPu19
import Derived.Test.YtgcikpgcoemfnaaGreatPu1
import Derived.Test.YtgcikpgcoemfnaaGreatPu7
import Derived.Test.YtgcikpgcoemfnaaGreatPu11
import Derived.Test.YtgcikpgcoemfnaaGreatPu21
import Derived.Test.YtgcikpgcoemfnaaGreatPu22
import Derived.Test.YtgcikpgcoemfnaaGreatPu12
import Derived.Test.YtgcikpgcoemfnaaGreatPvx2
import Derived.Test.YtgcikpgcoemfnaaGreatPu14
import Derived.Test.YtgcikpgcoemfnaaGreatPu13
import Derived.Test.YtgcikpgcoemfnaaGreatPu15
import Derived.Test.YtgcikpgcoemfnaaGreatPu16
import Derived.Test.YtgcikpgcoemfnaaGreatPu24
import Derived.Test.YtgcikpgcoemfnaaGreatPu23
import Derived.Test.YtgcikpgcoemfnaaGreatPu5
import Derived.Test.YtgcikpgcoemfnaaGreatPu8
import Derived.Test.YtgcikpgcoemfnaaGreatPu20
import Derived.Test.YtgcikpgcoemfnaaGreatPu2
import Derived.Test.YtgcikpgcoemfnaaGreatPu9
import Derived.Test.YtgcikpgcoemfnaaGreatPu25
import Derived.Test.YtgcikpgcoemfnaaGreatPu10
import Derived.Test.YtgcikpgcoemfnaaGreatPu27
import Derived.Test.YtgcikpgcoemfnaaGreatPu30
import Derived.Test.YtgcikpgcoemfnaaGreatPu3
import Derived.Test.YtgcikpgcoemfnaaGreatPu32
import Derived.Test.YtgcikpgcoemfnaaGreatPu6
import Derived.Test.YtgcikpgcoemfnaaGreatPu17
import Derived.Test.YtgcikpgcoemfnaaGreatPu29
import Derived.Test.YtgcikpgcoemfnaaGreatPu31
import Derived.Test.YtgcikpgcoemfnaaGreatPu33
namespace Go.Proofs.YtgcikpgcoemfnaaGreat.Pr
open Go.RowKit Co Pn
set_option linter.unusedVariables false
set_option linter.unusedSimpArgs false
/-- The first process, and its descendants, by their Parents. -/
def FullT (ps : List Int) : Sd := SdP ((procF, 1) :: ps.map (fun p => (kid p, 1))) ((ps.length : Int) + 1)
theorem full0_0 : forkT (FullT []) 0 = (FullT [1], 1, 0) := by kernel_rfl
theorem full1_0 (a : Int) : forkT (FullT [a]) 0 = (FullT [a, 1], 2, 0) := by kernel_rfl
theorem full1_1 (a : Int) : forkT (FullT [a]) 1 = (FullT [a, 2], 2, 0) := by kernel_rfl
theorem full2_0 (a b : Int) : forkT (FullT [a, b]) 0 = (FullT [a, b, 1], 3, 0) := by kernel_rfl
theorem full2_1 (a b : Int) : forkT (FullT [a, b]) 1 = (FullT [a, b, 2], 3, 0) := by kernel_rfl
theorem full2_2 (a b : Int) : forkT (FullT [a, b]) 2 = (FullT [a, b, 3], 3, 0) := by kernel_rfl
theorem full3_0 (a b c : Int) : forkT (FullT [a, b, c]) 0 = (FullT [a, b, c, 1], 4, 0) := by kernel_rfl
theorem full3_1 (a b c : Int) : forkT (FullT [a, b, c]) 1 = (FullT [a, b, c, 2], 4, 0) := by kernel_rfl
theorem full3_2 (a b c : Int) : forkT (FullT [a, b, c]) 2 = (FullT [a, b, c, 3], 4, 0) := by kernel_rfl
theorem full3_3 (a b c : Int) : forkT (FullT [a, b, c]) 3 = (FullT [a, b, c, 4], 4, 0) := by kernel_rfl
theorem full4_0 (a b c d : Int) : forkT (FullT [a, b, c, d]) 0 = (FullT [a, b, c, d, 1], 5, 0) := by kernel_rfl
theorem full4_1 (a b c d : Int) : forkT (FullT [a, b, c, d]) 1 = (FullT [a, b, c, d, 2], 5, 0) := by kernel_rfl
theorem full4_2 (a b c d : Int) : forkT (FullT [a, b, c, d]) 2 = (FullT [a, b, c, d, 3], 5, 0) := by kernel_rfl
theorem full4_3 (a b c d : Int) : forkT (FullT [a, b, c, d]) 3 = (FullT [a, b, c, d, 4], 5, 0) := by kernel_rfl
theorem full4_4 (a b c d : Int) : forkT (FullT [a, b, c, d]) 4 = (FullT [a, b, c, d, 5], 5, 0) := by kernel_rfl
theorem full5_0 (a b c d e : Int) : forkT (FullT [a, b, c, d, e]) 0 = (FullT [a, b, c, d, e, 1], 6, 0) := by kernel_rfl
theorem full5_1 (a b c d e : Int) : forkT (FullT [a, b, c, d, e]) 1 = (FullT [a, b, c, d, e, 2], 6, 0) := by kernel_rfl
theorem full5_2 (a b c d e : Int) : forkT (FullT [a, b, c, d, e]) 2 = (FullT [a, b, c, d, e, 3], 6, 0) := by kernel_rfl
theorem full5_3 (a b c d e : Int) : forkT (FullT [a, b, c, d, e]) 3 = (FullT [a, b, c, d, e, 4], 6, 0) := by kernel_rfl
theorem full5_4 (a b c d e : Int) : forkT (FullT [a, b, c, d, e]) 4 = (FullT [a, b, c, d, e, 5], 6, 0) := by kernel_rfl
theorem full5_5 (a b c d e : Int) : forkT (FullT [a, b, c, d, e]) 5 = (FullT [a, b, c, d, e, 6], 6, 0) := by kernel_rfl
theorem full6_0 (a b c d e f : Int) : forkT (FullT [a, b, c, d, e, f]) 0 = (FullT [a, b, c, d, e, f, 1], 7, 0) := by kernel_rfl
theorem full6_1 (a b c d e f : Int) : forkT (FullT [a, b, c, d, e, f]) 1 = (FullT [a, b, c, d, e, f, 2], 7, 0) := by kernel_rfl
theorem full6_2 (a b c d e f : Int) : forkT (FullT [a, b, c, d, e, f]) 2 = (FullT [a, b, c, d, e, f, 3], 7, 0) := by kernel_rfl
theorem full6_3 (a b c d e f : Int) : forkT (FullT [a, b, c, d, e, f]) 3 = (FullT [a, b, c, d, e, f, 4], 7, 0) := by kernel_rfl
theorem full6_4 (a b c d e f : Int) : forkT (FullT [a, b, c, d, e, f]) 4 = (FullT [a, b, c, d, e, f, 5], 7, 0) := by kernel_rfl
theorem full6_5 (a b c d e f : Int) : forkT (FullT [a, b, c, d, e, f]) 5 = (FullT [a, b, c, d, e, f, 6], 7, 0) := by kernel_rfl
theorem full6_6 (a b c d e f : Int) : forkT (FullT [a, b, c, d, e, f]) 6 = (FullT [a, b, c, d, e, f, 7], 7, 0) := by kernel_rfl
theorem full7_0 (a b c d e f g : Int) : forkT (FullT [a, b, c, d, e, f, g]) 0 = (FullT [a, b, c, d, e, f, g], 0, 111) := by kernel_rfl
theorem full7_1 (a b c d e f g : Int) : forkT (FullT [a, b, c, d, e, f, g]) 1 = (FullT [a, b, c, d, e, f, g], 0, 111) := by kernel_rfl
theorem full7_2 (a b c d e f g : Int) : forkT (FullT [a, b, c, d, e, f, g]) 2 = (FullT [a, b, c, d, e, f, g], 0, 111) := by kernel_rfl
theorem full7_3 (a b c d e f g : Int) : forkT (FullT [a, b, c, d, e, f, g]) 3 = (FullT [a, b, c, d, e, f, g], 0, 111) := by kernel_rfl
theorem full7_4 (a b c d e f g : Int) : forkT (FullT [a, b, c, d, e, f, g]) 4 = (FullT [a, b, c, d, e, f, g], 0, 111) := by kernel_rfl
theorem full7_5 (a b c d e f g : Int) : forkT (FullT [a, b, c, d, e, f, g]) 5 = (FullT [a, b, c, d, e, f, g], 0, 111) := by kernel_rfl
theorem full7_6 (a b c d e f g : Int) : forkT (FullT [a, b, c, d, e, f, g]) 6 = (FullT [a, b, c, d, e, f, g], 0, 111) := by kernel_rfl
theorem full7_7 (a b c d e f g : Int) : forkT (FullT [a, b, c, d, e, f, g]) 7 = (FullT [a, b, c, d, e, f, g], 0, 111) := by kernel_rfl
theorem full_step (ps : List Int) (h : ps.length < 7) (i : Nat) (hi : i ≤ ps.length) : forkT (FullT ps) (i : Int) = (FullT (ps ++ [(i : Int) + 1]), (ps.length : Int) + 1, 0) := by
  match ps, h with
  | [], _ =>
    rcases (show i = 0 by simp only [List.length_cons, List.length_nil] at hi; omega) with rfl
    · exact full0_0 
  | [a], _ =>
    rcases (show i = 0 ∨ i = 1 by simp only [List.length_cons, List.length_nil] at hi; omega) with rfl | rfl
    · exact full1_0 a
    · exact full1_1 a
  | [a, b], _ =>
    rcases (show i = 0 ∨ i = 1 ∨ i = 2 by simp only [List.length_cons, List.length_nil] at hi; omega) with rfl | rfl | rfl
    · exact full2_0 a b
    · exact full2_1 a b
    · exact full2_2 a b
  | [a, b, c], _ =>
    rcases (show i = 0 ∨ i = 1 ∨ i = 2 ∨ i = 3 by simp only [List.length_cons, List.length_nil] at hi; omega) with rfl | rfl | rfl | rfl
    · exact full3_0 a b c
    · exact full3_1 a b c
    · exact full3_2 a b c
    · exact full3_3 a b c
  | [a, b, c, d], _ =>
    rcases (show i = 0 ∨ i = 1 ∨ i = 2 ∨ i = 3 ∨ i = 4 by simp only [List.length_cons, List.length_nil] at hi; omega) with rfl | rfl | rfl | rfl | rfl
    · exact full4_0 a b c d
    · exact full4_1 a b c d
    · exact full4_2 a b c d
    · exact full4_3 a b c d
    · exact full4_4 a b c d
  | [a, b, c, d, e], _ =>
    rcases (show i = 0 ∨ i = 1 ∨ i = 2 ∨ i = 3 ∨ i = 4 ∨ i = 5 by simp only [List.length_cons, List.length_nil] at hi; omega) with rfl | rfl | rfl | rfl | rfl | rfl
    · exact full5_0 a b c d e
    · exact full5_1 a b c d e
    · exact full5_2 a b c d e
    · exact full5_3 a b c d e
    · exact full5_4 a b c d e
    · exact full5_5 a b c d e
  | [a, b, c, d, e, f], _ =>
    rcases (show i = 0 ∨ i = 1 ∨ i = 2 ∨ i = 3 ∨ i = 4 ∨ i = 5 ∨ i = 6 by simp only [List.length_cons, List.length_nil] at hi; omega) with rfl | rfl | rfl | rfl | rfl | rfl | rfl
    · exact full6_0 a b c d e f
    · exact full6_1 a b c d e f
    · exact full6_2 a b c d e f
    · exact full6_3 a b c d e f
    · exact full6_4 a b c d e f
    · exact full6_5 a b c d e f
    · exact full6_6 a b c d e f
  | _ :: _ :: _ :: _ :: _ :: _ :: _ :: l, h => exact absurd h (by simp only [List.length_cons]; omega)
theorem full_end (ps : List Int) (h : ps.length = 7) (i : Nat) (hi : i < 8) : forkT (FullT ps) (i : Int) = (FullT ps, 0, 111) := by
  match ps, h with
  | [a, b, c, d, e, f, g], _ =>
    rcases (show i = 0 ∨ i = 1 ∨ i = 2 ∨ i = 3 ∨ i = 4 ∨ i = 5 ∨ i = 6 ∨ i = 7 by omega) with rfl | rfl | rfl | rfl | rfl | rfl | rfl | rfl
    · exact full7_0 a b c d e f g
    · exact full7_1 a b c d e f g
    · exact full7_2 a b c d e f g
    · exact full7_3 a b c d e f g
    · exact full7_4 a b c d e f g
    · exact full7_5 a b c d e f g
    · exact full7_6 a b c d e f g
    · exact full7_7 a b c d e f g
theorem full_file (ps : List Int) : (stOf (FullT ps)).f 0 = ([3, 0, (ps.length : Int) + 1, 0], 1) := rfl
end Go.Proofs.YtgcikpgcoemfnaaGreat.Pr
