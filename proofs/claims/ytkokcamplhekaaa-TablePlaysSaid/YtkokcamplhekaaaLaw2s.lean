/- TablePlays: what holds between two steps of a script; the switch's block. -/
import Derived.Test.YtkokcamplhekaaaLaw2b
import Derived.Test.YtkokcamplhekaaaTabS
import Derived.Test.YtkokcamplhekaaaRef2
import Derived.Deep.DeepCutAuto
import Derived.Deep.CutBlock
namespace Go.Proofs.Ytkokcamplhekaaa
open Go.RowKit
def up {α : Type} (f : Nat → α) (i : Nat) (v : α) (j : Nat) : α := if j = i then v else f j
theorem up_same {α : Type} (f : Nat → α) (i : Nat) (v : α) : up f i v i = v := by simp [up]
/-- The byte of a number, as a string of one. -/
def byt (v : Int) : List UInt8 := [UInt8.ofNat (v % 256).toNat]
theorem byt_cells (v : Int) : bytes (byt v) = [.int .u8 (v % 256)] := by
  have h : (v % 256).toNat < 256 := by omega
  have e : (((UInt8.ofNat (v % 256).toNat).toNat : Nat) : Int) = v % 256 := by rw [UInt8.toNat_ofNat', Nat.mod_eq_of_lt h]; omega
  simp only [byt, bytes, List.map_cons, List.map_nil, e]
def pT (g : Nat → Nat) (o : Nat → Bool) (y : Nat → Int) (i : Nat) : Pl := ⟨g i, o i, [.int .i64 (if o i then y i else 0)]⟩
def pU (g : Nat → Nat) (o : Nat → Bool) (y : Nat → Int) (i : Nat) : Pl := ⟨g i, o i, [.string (if o i then str (byt (y i)) else ByteArray.empty)]⟩
def pN (g : Nat → Nat) (o : Nat → Bool) (i : Nat) : Pl := ⟨g i, o i, []⟩
section
variable {n i : Nat} {g : Nat → Nat} {o : Nat → Bool} {y : Nat → Int}
theorem pT_set (v : Int) : (mk n (pT g o y)).set i ⟨g i, true, [.int .i64 v]⟩ = mk n (pT g (up o i true) (up y i v)) := by
  refine mk_set _ (fun j hj => ?_)
  unfold pT up
  by_cases e : j = i <;> simp [e]
theorem pU_set (v : Int) : (mk n (pU g o y)).set i ⟨g i, true, [.string (str (byt v))]⟩ = mk n (pU g (up o i true) (up y i v)) := by
  refine mk_set _ (fun j hj => ?_)
  unfold pU up
  by_cases e : j = i <;> simp [e]
theorem pN_set : (mk n (pN g o)).set i ⟨g i, true, []⟩ = mk n (pN g (up o i true)) := by
  refine mk_set _ (fun j hj => ?_)
  unfold pN up
  by_cases e : j = i <;> simp [e]
theorem pT_drop : (mk n (pT g o y)).set i ⟨g i + 1, false, [.int .i64 0]⟩ = mk n (pT (up g i (g i + 1)) (up o i false) y) := by
  refine mk_set _ (fun j hj => ?_)
  unfold pT up
  by_cases e : j = i <;> simp [e]
theorem pU_drop : (mk n (pU g o y)).set i ⟨g i + 1, false, [.string ByteArray.empty]⟩ = mk n (pU (up g i (g i + 1)) (up o i false) y) := by
  refine mk_set _ (fun j hj => ?_)
  unfold pU up
  by_cases e : j = i <;> simp [e]
theorem pN_drop : (mk n (pN g o)).set i ⟨g i + 1, false, []⟩ = mk n (pN (up g i (g i + 1)) (up o i false)) := by
  refine mk_set _ (fun j hj => ?_)
  unfold pN up
  by_cases e : j = i <;> simp [e]
theorem up_true (h : o i = true) : up o i true = o := by
  funext j
  unfold up
  by_cases e : j = i
  · subst e; simp [h]
  · simp [e]
theorem vals_set (v : Int) : (mk 256 (fun j => Value.int .i64 (y j))).set i (.int .i64 v) = mk 256 (fun j => Value.int .i64 (up y i v j)) := mk_set _ (fun j hj => by unfold up; split <;> rfl)
theorem least (o : Nat → Bool) : ∀ n : Nat, (∃ i, i < n ∧ o i = false ∧ ∀ j, j < i → o j = true) ∨ (∀ i, i < n → o i = true)
  | 0 => .inr (fun i hi => absurd hi (by omega))
  | n + 1 => by
    rcases least o n with ⟨i, hi, h⟩ | h
    · exact .inl ⟨i, by omega, h⟩
    · cases hn : o n with
      | false => exact .inl ⟨n, by omega, hn, h⟩
      | true =>
        refine .inr (fun i hi => ?_)
        by_cases e : i = n
        · rw [e]; exact hn
        · exact h i (by omega)
/-- Is this name there? -/
def Th (n : Nat) (g : Nat → Nat) (o : Nat → Bool) (nm : Int) (th : Bool) : Prop :=
  (th = true ∧ ∃ i, i < n ∧ o i = true ∧ nm = (i : Int) + 256 * (g i : Int)) ∨ (th = false ∧ ∀ i, i < n → o i = true → nm ≠ (i : Int) + 256 * (g i : Int))
end
/-- Between two steps: both tables and the document's names hold the same places. -/
structure PS (w wx : World) (n p1 r1 p2 r2 q : Nat) (A : Option Addr) (cA gv : Nat) (B : Option Addr) (cB k : Nat) (g : Nat → Nat) (o : Nat → Bool) (y : Nat → Int) (all : List Int) : Prop where
  tt : TabI.Tab wx p1 r1 (mk n (pT g o y))
  uu : TabS.Tab wx p2 r2 (mk n (pU g o y))
  nn : Ref.IsNames wx q A cA (mk n (pN g o))
  vv : Blk wx gv 3 (mk 256 (fun j => Value.int .i64 (y j)))
  aa : Vec wx 3 1 B all.length cB (ints all)
  young : ∀ i, i < n → g i ≤ 1 + k
  few : all.length ≤ k
  keep : Keep (From w.heap.size) w wx
section
variable {w wx wy : World} {n p1 r1 p2 r2 q : Nat} {A : Option Addr} {cA gv : Nat} {B : Option Addr} {cB k : Nat} {g : Nat → Nat} {o : Nat → Bool} {y : Nat → Int} {all : List Int}
theorem PS.nob (h : PS w wx n p1 r1 p2 r2 q A cA gv B cB k g o y all) (e : Keep Nob wx wy) : PS w wy n p1 r1 p2 r2 q A cA gv B cB k g o y all :=
  ⟨h.tt.nob e, h.uu.nob e, h.nn.nob e, h.vv.nob e, h.aa.nob e, h.young, h.few, h.keep.nob e⟩
theorem PS.more (h : PS w wx n p1 r1 p2 r2 q A cA gv B cB k g o y all) : PS w wx n p1 r1 p2 r2 q A cA gv B cB (k + 1) g o y all :=
  ⟨h.tt, h.uu, h.nn, h.vv, h.aa, fun i hi => by have := h.young i hi; omega, by have := h.few; omega, h.keep⟩
theorem noT {x : Int} (h : ∀ i, i < n → o i = true → x ≠ (i : Int) + 256 * (g i : Int)) (i : Nat) (z : Pl) (hq : (mk n (pT g o y))[i]? = some z) (ho : z.on = true) : x ≠ (i : Int) + 256 * (z.gen : Int) := by
  obtain ⟨hi, rfl⟩ := mk_some hq
  exact h i hi ho
theorem noU {x : Int} (h : ∀ i, i < n → o i = true → x ≠ (i : Int) + 256 * (g i : Int)) (i : Nat) (z : Pl) (hq : (mk n (pU g o y))[i]? = some z) (ho : z.on = true) : x ≠ (i : Int) + 256 * (z.gen : Int) := by
  obtain ⟨hi, rfl⟩ := mk_some hq
  exact h i hi ho
theorem noN {x : Int} (h : ∀ i, i < n → o i = true → x ≠ (i : Int) + 256 * (g i : Int)) (i : Nat) (z : Pl) (hq : (mk n (pN g o))[i]? = some z) (ho : z.on = true) : x ≠ (i : Int) + 256 * (z.gen : Int) := by
  obtain ⟨hi, rfl⟩ := mk_some hq
  exact h i hi ho
end
theorem addS {p r : Nat} {w : World} {L : List Pl} (x : ByteArray) (i : Nat) (q : Pl) (v : Int) (L' : List Pl) (h : TabS.Tab w p r L) (hq : L[i]? = some q) (hf : q.free = true) (hb : ∀ (j : Nat) (q : Pl), j < i → L[j]? = some q → q.free = false) (hv : (i : Int) + 256 * (q.gen : Int) = v) (hL : L.set i ⟨q.gen, true, [.string x]⟩ = L') :
    Calls Try.prog 24 #[.pointer (some ⟨p, 0, none⟩), .string x] w fun e w' => e = .returned (.tuple #[.int .i64 v, .bool true]) ∧ TabS.Tab w' p r L' ∧ Keep (· = r) w w' := by
  subst hv hL
  exact (TabS.add_yes x h hq hf hb).mono fun e w' ⟨h1, h2, h3, _⟩ => ⟨h1, h2, h3⟩
theorem addN {q i : Nat} {A : Option Addr} {cap : Nat} {L : List Pl} {w : World} (x : Pl) (v : Int) (L' : List Pl) (h : Ref.IsNames w q A cap L) (hx : L[i]? = some x) (hf : x.free = true) (hb : ∀ (j : Nat) (y : Pl), j < i → L[j]? = some y → y.free = false) (hv : (i : Int) + 256 * (x.gen : Int) = v) (hL : L.set i ⟨x.gen, true, []⟩ = L') :
    Calls Try.prog 25 #[.pointer (some ⟨q, 0, none⟩)] w fun e w' => e = .returned (.tuple #[.int .i64 v, .bool true]) ∧ Ref.IsNames w' q A cap L' ∧ Keep (Own A) w w' := by
  subst hv hL
  exact (Ref.add_yes h hx hf hb).mono fun e w' ⟨h1, h2, h3, _⟩ => ⟨h1, h2, h3⟩
theorem setI {p r : Nat} {a : Int} {w : World} {L : List Pl} (x : Int) (i : Nat) (q : Pl) (L' : List Pl) (h : TabI.Tab w p r L) (hq : L[i]? = some q) (ho : q.on = true) (ha : a = i + 256 * (q.gen : Int)) (hL : L.set i ⟨q.gen, true, [.int .i64 x]⟩ = L') :
    Calls Try.prog 28 #[.pointer (some ⟨p, 0, none⟩), .int .i64 a, .int .i64 x] w fun e w' => e = .returned (.bool true) ∧ TabI.Tab w' p r L' ∧ Keep (· = r) w w' := by
  subst hL
  exact (TabI.set_yes x h hq ho ha).mono fun e w' ⟨h1, h2, h3, _⟩ => ⟨h1, h2, h3⟩
theorem setS {p r : Nat} {a : Int} {w : World} {L : List Pl} (x : ByteArray) (i : Nat) (q : Pl) (L' : List Pl) (h : TabS.Tab w p r L) (hq : L[i]? = some q) (ho : q.on = true) (ha : a = i + 256 * (q.gen : Int)) (hL : L.set i ⟨q.gen, true, [.string x]⟩ = L') :
    Calls Try.prog 29 #[.pointer (some ⟨p, 0, none⟩), .int .i64 a, .string x] w fun e w' => e = .returned (.bool true) ∧ TabS.Tab w' p r L' ∧ Keep (· = r) w w' := by
  subst hL
  exact (TabS.set_yes x h hq ho ha).mono fun e w' ⟨h1, h2, h3, _⟩ => ⟨h1, h2, h3⟩
theorem dropS {p r : Nat} {w : World} {L : List Pl} (a : Int) (i : Nat) (q : Pl) (L' : List Pl) (h : TabS.Tab w p r L) (hq : L[i]? = some q) (ho : q.on = true) (ha : a = i + 256 * (q.gen : Int)) (hg : q.gen ≤ 1000000) (hL : L.set i ⟨q.gen + 1, false, [.string ByteArray.empty]⟩ = L') :
    Calls Try.prog 31 #[.pointer (some ⟨p, 0, none⟩), .int .i64 a] w fun e w' => e = .returned (.bool true) ∧ TabS.Tab w' p r L' ∧ Keep (· = r) w w' := by
  subst hL
  exact (TabS.drop_yes h hq ho ha hg).mono fun e w' ⟨h1, h2, h3, _⟩ => ⟨h1, h2, h3⟩
theorem dropN {q i : Nat} {A : Option Addr} {cap : Nat} {L : List Pl} {w : World} (a : Int) (x : Pl) (L' : List Pl) (h : Ref.IsNames w q A cap L) (hx : L[i]? = some x) (ho : x.on = true) (ha : a = i + 256 * (x.gen : Int)) (hg : x.gen ≤ 1000000) (hL : L.set i ⟨x.gen + 1, false, []⟩ = L') :
    Calls Try.prog 32 #[.pointer (some ⟨q, 0, none⟩), .int .i64 a] w fun e w' => e = .returned (.bool true) ∧ Ref.IsNames w' q A cap L' ∧ Keep (Own A) w w' := by
  subst hL
  exact (Ref.drop_yes h hx ho ha hg).mono fun e w' ⟨h1, h2, h3, _⟩ => ⟨h1, h2, h3⟩
/-- string([]byte{byte(v)}), the bytes in a new block. -/
theorem byte_str (W : World) (v : Int) (c : Nat) : (convert 52 9 (.slice (some ⟨W.heap.size, 0, none⟩) 1 c)).run Try.prog (W.alloc (.cells #[.int .u8 (v % 256)] 5)) = .ok (.string (str (byt v))) (W.alloc (.cells #[.int .u8 (v % 256)] 5)) := by
  have R := reads_all (n := 1) (Blk.new W 5 [.int .u8 (v % 256)]) rfl
  rw [← byt_cells] at R
  have h := run_str (P := Try.prog) (W.alloc (.cells (bytes (byt v)).toArray 5)) 52 9 5 (some ⟨W.heap.size, 0, none⟩) 1 c (byt v) Try.underlying52 Try.underlying5 Try.underlying9 R
  rw [byt_cells] at h
  exact h
noncomputable def sw2 : Code := ((Try.f4.body.bind (blkOf 2)).getD .skip)
set_option maxRecDepth 1000000 in
def Sw2Rel (w : World) (n p1 r1 p2 r2 q : Nat) (A : Option Addr) (cA gv k go : Nat) (nm : Int) (th : Bool) (kind : Int) (x0 x1 x2 x3 x10 x24 x25 x26 x27 x28 x29 x30 x31 x32 x33 x34 x35 x36 x37 x38 x39 x40 x41 x42 x43 x44 x45 x46 x47 x48 x49 x50 x51 x52 x53 x54 x55 x56 x57 x58 x59 x60 x61 x62 x63 x64 x65 x66 x67 x68 x69 x70 x71 x72 x73 x74 x75 x76 x77 x78 x79 x80 x81 x82 x83 x243 x244 x245 x246 x247 x248 x249 x250 x251 x252 x253 x254 x255 x256 x257 x258 x259 x260 x261 x262 x263 x264 : Value) (a' : Act) (w' : World) : Prop :=
  ∃ u4 u14 u15 u16 u17 u18 u19 u20 u21 u22 u23 u85 u86 u87 u88 u89 u90 u91 u92 u93 u94 u95 u96 u97 u98 u99 u100 u101 u102 u103 u104 u105 u106 u107 u108 u109 u110 u111 u112 u113 u114 u115 u116 u117 u118 u119 u120 u121 u122 u123 u124 u125 u126 u127 u128 u129 u130 u131 u132 u133 u134 u135 u136 u137 u138 u139 u140 u141 u142 u143 u144 u145 u146 u147 u148 u149 u150 u151 u152 u153 u154 u155 u156 u157 u158 u159 u160 u161 u162 u163 u164 u165 u166 u167 u168 u169 u170 u171 u172 u173 u174 u175 u176 u177 u178 u179 u180 u181 u182 u183 u184 u185 u186 u187 u188 u189 u190 u191 u192 u193 u194 u195 u196 u197 u198 u199 u200 u201 u202 u203 u204 u205 u206 u207 u208 u209 u210 u211 u212 u213 u214 u215 u216 u217 u218 u219 u220 u221 u222 u223 u224 u225 u226 u227 u228 u229 u230 u231 u232 u233 u234 u235 u236 u237 u238 u239 u240 u241 u242 : Value, ∃ (B2 : Option Addr) (cB2 : Nat) (g2 : Nat → Nat) (o2 : Nat → Bool) (y2 : Nat → Int) (all2 : List Int), PS w w' n p1 r1 p2 r2 q A cA gv B2 cB2 (k + 1) g2 o2 y2 all2 ∧ (∀ b, Own B2 b → gv < b) ∧ a' = ⟨#[x0, x1, x2, x3, u4, .pointer (some ⟨p1, 0, none⟩), .pointer (some ⟨p2, 0, none⟩), .pointer (some ⟨q, 0, none⟩), .slice (some ⟨gv, 0, none⟩) 256 256, .slice B2 all2.length cB2, x10, .pointer (some ⟨go, 0, none⟩), .int .i64 nm, .bool th, u14, u15, u16, u17, u18, u19, u20, u21, u22, u23, x24, x25, x26, x27, x28, x29, x30, x31, x32, x33, x34, x35, x36, x37, x38, x39, x40, x41, x42, x43, x44, x45, x46, x47, x48, x49, x50, x51, x52, x53, x54, x55, x56, x57, x58, x59, x60, x61, x62, x63, x64, x65, x66, x67, x68, x69, x70, x71, x72, x73, x74, x75, x76, x77, x78, x79, x80, x81, x82, x83, .int .i64 kind, u85, u86, u87, u88, u89, u90, u91, u92, u93, u94, u95, u96, u97, u98, u99, u100, u101, u102, u103, u104, u105, u106, u107, u108, u109, u110, u111, u112, u113, u114, u115, u116, u117, u118, u119, u120, u121, u122, u123, u124, u125, u126, u127, u128, u129, u130, u131, u132, u133, u134, u135, u136, u137, u138, u139, u140, u141, u142, u143, u144, u145, u146, u147, u148, u149, u150, u151, u152, u153, u154, u155, u156, u157, u158, u159, u160, u161, u162, u163, u164, u165, u166, u167, u168, u169, u170, u171, u172, u173, u174, u175, u176, u177, u178, u179, u180, u181, u182, u183, u184, u185, u186, u187, u188, u189, u190, u191, u192, u193, u194, u195, u196, u197, u198, u199, u200, u201, u202, u203, u204, u205, u206, u207, u208, u209, u210, u211, u212, u213, u214, u215, u216, u217, u218, u219, u220, u221, u222, u223, u224, u225, u226, u227, u228, u229, u230, u231, u232, u233, u234, u235, u236, u237, u238, u239, u240, u241, u242, x243, x244, x245, x246, x247, x248, x249, x250, x251, x252, x253, x254, x255, x256, x257, x258, x259, x260, x261, x262, x263, x264], []⟩
end Go.Proofs.Ytkokcamplhekaaa
