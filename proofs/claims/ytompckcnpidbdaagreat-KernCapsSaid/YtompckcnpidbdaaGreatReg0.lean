/- Contracts of package region (layer 5): ranges of a Mem, reached by the Caps of a Space. -/
import Derived.Test.YtompckcnpidbdaaGreatMem
import Derived.Test.YtompckcnpidbdaaGreatCaps1
namespace Go.Proofs.YtompckcnpidbdaaGreat
open Go.RowKit
set_option linter.unusedVariables false
set_option linter.unusedSimpArgs false
theorem rpart_is (lo n all : Int) (w : World) (v : Bool) (h1 : 0 ≤ all) (h2 : all ≤ 131072) (hv : (decide (0 ≤ lo) && (decide (0 ≤ n) && (decide (n ≤ all) && decide (lo ≤ all - n)))) = v) :
    Calls Tryz.prog 78 #[.int .i64 lo, .int .i64 n, .int .i64 all] w fun e w' => e = .returned (.bool v) ∧ w = w' := by
  by_cases a1 : 0 ≤ lo
  · by_cases a2 : 0 ≤ n
    · by_cases a3 : n ≤ all
      · obtain rfl : v = decide (lo ≤ all - n) := by rw [← hv]; simp [a1, a2, a3]
        clear hv
        go_enter Tryz.func78, Tryz.ntmps78
        go_wp2
        go_ret
        exact ⟨rfl, rfl⟩
      · obtain rfl : v = false := by rw [← hv]; simp [a3]
        clear hv
        go_enter Tryz.func78, Tryz.ntmps78
        go_wp2
        go_ret
        exact ⟨rfl, rfl⟩
    · obtain rfl : v = false := by rw [← hv]; simp [a2]
      clear hv
      go_enter Tryz.func78, Tryz.ntmps78
      go_wp2
      go_ret
      exact ⟨rfl, rfl⟩
  · obtain rfl : v = false := by rw [← hv]; simp [a1]
    clear hv
    go_enter Tryz.func78, Tryz.ntmps78
    go_wp2
    go_ret
    exact ⟨rfl, rfl⟩
/-- q points at the Regions L over the Mem m (bytes xs) and the Space s. -/
structure Reg (w : World) (q m mr s B n : Nat) (p r : Nat → Nat) (A : Option Addr) (cap : Nat) (xs : List UInt8) (T : St) (L : List Rf) : Prop where
  mem : IsMem w m mr xs
  sp : IsSp w s B n p r T
  inv : Inv T n
  obj : Blk w q 126 [.pointer (some ⟨m, 0, none⟩), .pointer (some ⟨s, 0, none⟩), .slice A L.length cap]
  row : Vec w 149 2 A L.length cap (refs L)
  ok : ∀ x ∈ L, 0 ≤ x.1 ∧ 0 ≤ x.2 ∧ x.1 + x.2 ≤ xs.length
  le : L.length ≤ 32
section
variable {w w' : World} {q m mr s B n : Nat} {p r : Nat → Nat} {A : Option Addr} {cap : Nat} {xs : List UInt8} {T : St} {L : List Rf}
theorem Reg.keep {M : Nat → Prop} (h : Reg w q m mr s B n p r A cap xs T L) (k : Keep M w w') (h1 : ¬ M q) (h2 : ¬ M m) (h3 : ¬ M mr) (h4 : ¬ M s) (h5 : ¬ M B) (h6 : ∀ i, i < n → ¬ M (p i) ∧ ¬ M (r i)) (h7 : ∀ g, Own A g → ¬ M g) : Reg w' q m mr s B n p r A cap xs T L :=
  ⟨h.mem.keep k h2 h3, h.sp.keep k h4 h5 h6, h.inv, h.obj.keep k h1, h.row.keep k h7, h.ok, h.le⟩
theorem Reg.nob (h : Reg w q m mr s B n p r A cap xs T L) (k : Keep Nob w w') : Reg w' q m mr s B n p r A cap xs T L :=
  h.keep k (fun f => f) (fun f => f) (fun f => f) (fun f => f) (fun f => f) (fun _ _ => ⟨fun f => f, fun f => f⟩) (fun _ _ f => f)
/-- The bytes were turned. -/
theorem Reg.bytes_ (h : Reg w q m mr s B n p r A cap xs T L) {ys : List UInt8} (hm : IsMem w' m mr ys) (k : Keep (· = mr) w w') (hl : ys.length = xs.length) : Reg w' q m mr s B n p r A cap ys T L := by
  refine ⟨hm, h.sp.keep k (h.sp.obj.ne_ h.mem.row (by decide)) (h.sp.row.ne_ h.mem.row (by decide)) (fun i hi => ⟨(h.sp.tab i hi).obj.ne_ h.mem.row (by decide), (h.sp.tab i hi).row.ne_ h.mem.row (by decide)⟩), h.inv, h.obj.keep k (h.obj.ne_ h.mem.row (by decide)),
    h.row.keep k (fun g hg => by obtain ⟨cur, hc⟩ := h.row.blk hg; exact hc.ne_ h.mem.row (by decide)), by rw [hl]; exact h.ok, h.le⟩
/-- The Space was turned. -/
theorem Reg.space (h : Reg w q m mr s B n p r A cap xs T L) {T' : St} (hs : IsSp w' s B n p r T') (I : Inv T' n) (k : Keep (Rows_ n r) w w') : Reg w' q m mr s B n p r A cap xs T' L := by
  have off : ∀ {g : Nat} {t : TypeId} {cs : List Value}, Blk w g t cs → t ≠ 144 → Blk w' g t cs := fun hb ht => hb.keep k (fun ⟨i, hi, e⟩ => hb.ne_ (h.sp.tab i hi).row ht e)
  exact ⟨⟨off h.mem.obj (by decide), off h.mem.row (by decide), h.mem.len⟩, hs, I, off h.obj (by decide), h.row.keep k (fun g ho ⟨i, hi, e1⟩ => by obtain ⟨cur, hc⟩ := h.row.blk ho; exact hc.ne_ (h.sp.tab i hi).row (by decide) e1), h.ok, h.le⟩
theorem rhas_is (h : Reg w q m mr s B n p r A cap xs T L) (k : Int) (b : Bool) (hb : b = (decide (0 ≤ k) && decide (k < L.length))) :
    Calls Tryz.prog 82 #[.pointer (some ⟨q, 0, none⟩), .int .i64 k] w fun e w' => e = .returned (.bool b) ∧ w = w' := by
  have hc : w.cell? ⟨q, 2, none⟩ = some (.slice A L.length cap) := h.obj.cell 2
  by_cases h0 : 0 ≤ k
  · obtain rfl : b = decide (k < L.length) := by rw [hb]; simp [h0]
    clear hb
    go_enter Tryz.func82, Tryz.ntmps82
    go_wp2
    go_ret
    exact ⟨rfl, rfl⟩
  · obtain rfl : b = false := by rw [hb]; simp [h0]
    clear hb
    go_enter Tryz.func82, Tryz.ntmps82
    go_wp2
    go_ret
    exact ⟨rfl, rfl⟩
end
/-- From at on k bytes of the Cap c's range lie in its region x. -/
def Fits (L : List Rf) (c : Cp) (at_ k : Int) (x : Rf) : Prop := 0 ≤ at_ ∧ 0 ≤ k ∧ at_ + k ≤ c.n ∧ 0 ≤ c.obj ∧ L[c.obj.toNat]? = some x ∧ c.lo + at_ + k ≤ x.2
/-- What reach answers. -/
inductive Reach (T : St) (n : Nat) (L : List Rf) (env name right at_ k : Int) : Int → Int → Prop
  | nocap : (∀ c, ¬ Has T n (env, name) c) → Reach T n L env name right at_ k 0 2
  | noright (c : Cp) : Has T n (env, name) c → (bits .and .i64 c.rights right == 0) = true → Reach T n L env name right at_ k 0 3
  | noarg (c : Cp) : Has T n (env, name) c → (bits .and .i64 c.rights right == 0) = false → (∀ x, ¬ Fits L c at_ k x) → Reach T n L env name right at_ k 0 1
  | yes (c : Cp) (x : Rf) (v : Int) : Has T n (env, name) c → (bits .and .i64 c.rights right == 0) = false → Fits L c at_ k x → v = x.1 + c.lo + at_ → Reach T n L env name right at_ k v 0
section
variable {w w' : World} {q m mr s B n : Nat} {p r : Nat → Nat} {A : Option Addr} {cap : Nat} {xs : List UInt8} {T : St} {L : List Rf}
theorem Reach.range (h : Reg w q m mr s B n p r A cap xs T L) {env name right at_ k v : Int} (hv : Reach T n L env name right at_ k v 0) : 0 ≤ v ∧ 0 ≤ k ∧ v + k ≤ xs.length := by
  generalize he : (0 : Int) = er at hv
  cases hv with
  | nocap _ => cases he
  | noright _ _ _ => cases he
  | noarg _ _ _ _ => cases he
  | yes c x _ h1 _ h3 h4 =>
    obtain ⟨a1, a2, a3, a4, a5, a6⟩ := h3
    have hx := h.ok x (List.mem_of_getElem? a5)
    have hc := h.inv.cap _ _ h1
    omega
set_option maxRecDepth 100000 in
set_option maxHeartbeats 2000000 in
theorem reach_is (h : Reg w q m mr s B n p r A cap xs T L) {env name right at_ k v er : Int} (hv : Reach T n L env name right at_ k v er) :
    Calls Tryz.prog 59 #[.pointer (some ⟨q, 0, none⟩), .int .i64 env, .int .i64 name, .int .i64 right, .int .i64 at_, .int .i64 k] w fun e w' => e = .returned (.tuple #[.int .i64 v, .int .i64 er]) ∧ Keep Nob w w' := by
  have ho : w.cell? ⟨q, 1, none⟩ = some (.pointer (some ⟨s, 0, none⟩)) := h.obj.cell 1
  cases hv with
  | nocap hn =>
    go_enter Tryz.func59, Tryz.ntmps59
    go_wp2_with fail
    refine (sget_no h.sp hn).mono ?_; rintro e w1 ⟨rfl, k1⟩
    unfold cval zcap
    go_wp2
    go_ret2
    exact ⟨rfl, k1.alloc _⟩
  | noright c hc hb =>
    go_enter Tryz.func59, Tryz.ntmps59
    go_wp2_with fail
    refine (sget_yes h.sp c hc).mono ?_; rintro e w1 ⟨rfl, k1⟩
    unfold cval
    go_wp2
    go_ret2
    exact ⟨rfl, k1.alloc _⟩
  | noarg c hc hb hno =>
    have hcc := h.inv.cap _ _ hc
    go_enter Tryz.func59, Tryz.ntmps59
    go_wp2_with fail
    refine (sget_yes h.sp c hc).mono ?_; rintro e w1 ⟨rfl, k1⟩
    unfold cval
    have kA := k1.alloc (.cells #[.int .i64 c.obj, .int .i64 c.rights, .int .i64 c.lo, .int .i64 c.n, .int .i64 c.root.1, .int .i64 c.root.2] 61)
    have hA := h.nob kA
    by_cases hpart : 0 ≤ at_ ∧ 0 ≤ k ∧ k ≤ c.n ∧ at_ ≤ c.n - k
    · by_cases hobj : 0 ≤ c.obj ∧ c.obj < L.length
      · obtain ⟨i, hi⟩ := Int.eq_ofNat_of_zero_le hobj.1
        have hil : i < L.length := by omega
        obtain ⟨x, hx⟩ : ∃ x, L[i]? = some x := ⟨_, List.getElem?_eq_getElem hil⟩
        have hok := h.ok x (List.mem_of_getElem? hx)
        have hml := h.mem.len
        obtain ⟨g, rfl, e0, e1⟩ := hA.row.rf hx
        have ho2 : (w1.alloc (.cells #[.int .i64 c.obj, .int .i64 c.rights, .int .i64 c.lo, .int .i64 c.n, .int .i64 c.root.1, .int .i64 c.root.2] 61)).cell? ⟨q, 2, none⟩ = some (.slice (some ⟨g, 0, none⟩) L.length cap) := hA.obj.cell 2
        have hZ := hA.nob ((Keep.refl Nob _).alloc (.cells #[.int .i64 0, .int .i64 0] 149))
        have ho3 : ((w1.alloc (.cells #[.int .i64 c.obj, .int .i64 c.rights, .int .i64 c.lo, .int .i64 c.n, .int .i64 c.root.1, .int .i64 c.root.2] 61)).alloc (.cells #[.int .i64 0, .int .i64 0] 149)).cell? ⟨q, 2, none⟩ = some (.slice (some ⟨g, 0, none⟩) L.length cap) := hZ.obj.cell 2
        obtain ⟨g', hg', e2, e3⟩ := hZ.row.rf hx
        cases hg'
        clear hZ
        have hlast : (decide (0 ≤ c.lo + at_) && (decide (0 ≤ k) && (decide (k ≤ x.2) && decide (c.lo + at_ ≤ x.2 - k)))) = false := by
          have := hno x
          unfold Fits at this
          rw [hi, Int.toNat_natCast] at this
          rw [Bool.eq_false_iff]
          intro hh
          simp at hh
          exact this ⟨hpart.1, hpart.2.1, by omega, by omega, hx, by omega⟩
        obtain ⟨q1, q2, q3, q4⟩ := hpart
        have hw : -9223372036854775808 ≤ c.lo + at_ ∧ c.lo + at_ ≤ 9223372036854775807 := by omega
        have HX := Lib.hid hok
        have HN := Lib.hid hno
        have HHas := Lib.hid hc
        clear hok hno hc hobj
        generalize c.lo = clo at *
        generalize c.n = cn at *
        generalize c.rights = cr at *
        generalize c.root.1 = c4 at *
        generalize c.root.2 = c5 at *
        generalize c.obj = co at *
        subst hi
        go_wp2_with fail
        refine (rpart_is at_ k cn _ true hcc.2.2.2.1 (by omega) (by simp; omega)).mono ?_; rintro e w2 ⟨rfl, rfl⟩
        go_wp2_with fail
        refine (rhas_is hA i true (by simp; omega)).mono ?_; rintro e w2 ⟨rfl, rfl⟩
        go_wp2_with fail
        go_region
        go_wp2_with fail
        refine (rpart_is (clo + at_) k x.2 _ false HX.out.2.1 (by have := HX.out; omega) hlast).mono ?_; rintro e w2 ⟨rfl, rfl⟩
        go_wp2
        go_ret2
        exact ⟨rfl, kA.drew.alloc _⟩
      · have hobj' : (decide (0 ≤ c.obj) && decide (c.obj < L.length)) = false := by rw [Bool.eq_false_iff]; intro hh; simp at hh; exact hobj ⟨hh.1, by omega⟩
        go_wp2_with fail
        refine (rpart_is at_ k c.n _ true hcc.2.2.2.1 (by omega) (by simp; omega)).mono ?_; rintro e w2 ⟨rfl, rfl⟩
        go_wp2_with fail
        refine (rhas_is hA c.obj false hobj'.symm).mono ?_; rintro e w2 ⟨rfl, rfl⟩
        go_wp2
        go_ret2
        exact ⟨rfl, kA⟩
    · have hp : (decide (0 ≤ at_) && (decide (0 ≤ k) && (decide (k ≤ c.n) && decide (at_ ≤ c.n - k)))) = false := by rw [Bool.eq_false_iff]; intro hh; simp at hh; exact hpart ⟨hh.1, hh.2.1, hh.2.2.1, hh.2.2.2⟩
      go_wp2_with fail
      refine (rpart_is at_ k c.n _ false hcc.2.2.2.1 (by omega) hp).mono ?_; rintro e w2 ⟨rfl, rfl⟩
      go_wp2
      go_ret2
      exact ⟨rfl, kA⟩
  | yes c x _ hc hb hf hve =>
    have hcc := h.inv.cap _ _ hc
    obtain ⟨q1, q2, q3, q4, q5, q6⟩ := hf
    obtain ⟨i, hi⟩ := Int.eq_ofNat_of_zero_le q4
    rw [hi, Int.toNat_natCast] at q5
    have hil := get_lt q5
    have hok := h.ok x (List.mem_of_getElem? q5)
    have hml := h.mem.len
    go_enter Tryz.func59, Tryz.ntmps59
    go_wp2_with fail
    refine (sget_yes h.sp c hc).mono ?_; rintro e w1 ⟨rfl, k1⟩
    unfold cval
    have kA := k1.alloc (.cells #[.int .i64 c.obj, .int .i64 c.rights, .int .i64 c.lo, .int .i64 c.n, .int .i64 c.root.1, .int .i64 c.root.2] 61)
    have hA := h.nob kA
    obtain ⟨g, rfl, e0, e1⟩ := hA.row.rf q5
    have ho2 : (w1.alloc (.cells #[.int .i64 c.obj, .int .i64 c.rights, .int .i64 c.lo, .int .i64 c.n, .int .i64 c.root.1, .int .i64 c.root.2] 61)).cell? ⟨q, 2, none⟩ = some (.slice (some ⟨g, 0, none⟩) L.length cap) := hA.obj.cell 2
    have hZ := hA.nob ((Keep.refl Nob _).alloc (.cells #[.int .i64 0, .int .i64 0] 149))
    have ho3 : ((w1.alloc (.cells #[.int .i64 c.obj, .int .i64 c.rights, .int .i64 c.lo, .int .i64 c.n, .int .i64 c.root.1, .int .i64 c.root.2] 61)).alloc (.cells #[.int .i64 0, .int .i64 0] 149)).cell? ⟨q, 2, none⟩ = some (.slice (some ⟨g, 0, none⟩) L.length cap) := hZ.obj.cell 2
    obtain ⟨g', hg', e2, e3⟩ := hZ.row.rf q5
    cases hg'
    clear hZ
    have HHas := Lib.hid hc
    clear hc
    generalize c.lo = clo at *
    generalize c.n = cn at *
    generalize c.rights = cr at *
    generalize c.root.1 = c4 at *
    generalize c.root.2 = c5 at *
    generalize c.obj = co at *
    subst hi
    have HV := Lib.hid hve
    clear hve
    have t1 : clo + at_ ≤ 131072 := by omega
    go_wp2_with fail
    refine (rpart_is at_ k cn _ true hcc.2.2.2.1 (by omega) (by simp; omega)).mono ?_; rintro e w2 ⟨rfl, rfl⟩
    go_wp2_with fail
    refine (rhas_is hA i true (by simp; omega)).mono ?_; rintro e w2 ⟨rfl, rfl⟩
    go_wp2_with fail
    go_region
    go_wp2_with fail
    refine (rpart_is (clo + at_) k x.2 _ true hok.2.1 (by omega) (by simp; omega)).mono ?_; rintro e w2 ⟨rfl, rfl⟩
    go_wp2
    go_ret2
    have hv1 := HV.out
    subst hv1
    exact ⟨rfl, kA.drew.alloc _⟩
theorem Reach.er_ {env name right at_ k v er : Int} (hv : Reach T n L env name right at_ k v er) : er = 0 ∨ er = 1 ∨ er = 2 ∨ er = 3 := by
  cases hv <;> simp
theorem read_yes (h : Reg w q m mr s B n p r A cap xs T L) {env name at_ : Int} {k a : Nat} (hv : Reach T n L env name 1 at_ k a 0) :
    Calls Tryz.prog 31 #[.pointer (some ⟨q, 0, none⟩), .int .i64 env, .int .i64 name, .int .i64 at_, .int .i64 k] w (GotBytes ((xs.drop a).take k) w) := by
  have hr := hv.range h
  go_enter Tryz.func31, Tryz.ntmps31
  go_wp2_with fail
  refine (reach_is h hv).mono ?_; rintro e w1 ⟨rfl, k1⟩
  have h1 := h.nob k1
  have ho : w1.cell? ⟨q, 0, none⟩ = some (.pointer (some ⟨m, 0, none⟩)) := h1.obj.cell 0
  go_wp2_with fail
  refine (load_yes m mr a k xs w1 h1.mem (by omega)).mono ?_; rintro e w2 ⟨g, he, hb, hg, k2⟩
  have hl : ((xs.drop a).take k).length = k := by simp; omega
  rw [hl] at he
  subst he
  have HL := Lib.hid hl
  clear hl
  go_wp2
  go_ret2
  exact ⟨g, by rw [HL.out]; rfl, hb, Nat.le_trans k1.size hg, k1.nobt k2⟩
theorem read_no (h : Reg w q m mr s B n p r A cap xs T L) {env name at_ k v er : Int} (hv : Reach T n L env name 1 at_ k v er) (he : er ≠ 0) :
    Calls Tryz.prog 31 #[.pointer (some ⟨q, 0, none⟩), .int .i64 env, .int .i64 name, .int .i64 at_, .int .i64 k] w fun e w' => e = .returned (.tuple #[.slice none 0 0, .int .i64 er]) ∧ Keep Nob w w' := by
  have hr := reach_is h hv
  rcases hv.er_ with rfl | rfl | rfl | rfl
  · exact absurd rfl he
  all_goals
    clear hv
    go_enter Tryz.func31, Tryz.ntmps31
    go_wp2_with fail
    refine hr.mono ?_; rintro e w1 ⟨rfl, k1⟩
    go_wp2
    go_ret2
    exact ⟨rfl, k1⟩
theorem write_yes (h : Reg w q m mr s B n p r A cap xs T L) {env name at_ : Int} {k a c : Nat} {A' : Option Addr} {bs : List UInt8} (hv : Reach T n L env name 2 at_ k a 0) (hb : Reads w A' k (bytes bs)) :
    Calls Tryz.prog 32 #[.pointer (some ⟨q, 0, none⟩), .int .i64 env, .int .i64 name, .int .i64 at_, .slice A' k c] w fun e w' => e = .returned (.int .i64 0) ∧ Reg w' q m mr s B n p r A cap (splice xs a bs) T L ∧ Keep (· = mr) w w' := by
  have hr := hv.range h
  have hbl : bs.length = k := by have := hb.1; simpa using this
  have HB := Lib.hid hbl
  clear hbl
  go_enter Tryz.func32, Tryz.ntmps32
  go_wp2_with fail
  refine (reach_is h hv).mono ?_; rintro e w1 ⟨rfl, k1⟩
  have h1 := h.nob k1
  have ho : w1.cell? ⟨q, 0, none⟩ = some (.pointer (some ⟨m, 0, none⟩)) := h1.obj.cell 0
  have hb1 := hb.nob k1
  go_wp2_with fail
  refine (store_yes m mr a k c A' xs bs w1 h1.mem HB.out hb1 (by omega)).mono ?_; rintro e w2 ⟨rfl, hm2, k2, -⟩
  have h2 := h1.bytes_ hm2 k2 (splice_len _ _ _ (by rw [HB.out]; omega))
  go_wp2
  go_ret
  exact ⟨rfl, h2, (k1.mono (fun _ _ f => f.elim)).trans k2 (fun _ _ e => e)⟩
theorem write_no (h : Reg w q m mr s B n p r A cap xs T L) {env name at_ v er : Int} {k c : Nat} {A' : Option Addr} (hv : Reach T n L env name 2 at_ k v er) (he : er ≠ 0) :
    Calls Tryz.prog 32 #[.pointer (some ⟨q, 0, none⟩), .int .i64 env, .int .i64 name, .int .i64 at_, .slice A' k c] w fun e w' => e = .returned (.int .i64 er) ∧ Keep Nob w w' := by
  have hr := reach_is h hv
  rcases hv.er_ with rfl | rfl | rfl | rfl
  · exact absurd rfl he
  all_goals
    clear hv
    go_enter Tryz.func32, Tryz.ntmps32
    go_wp2_with fail
    refine hr.mono ?_; rintro e w1 ⟨rfl, k1⟩
    go_wp2
    go_ret
    exact ⟨rfl, k1⟩
theorem rcopy_yes (h : Reg w q m mr s B n p r A cap xs T L) {env x at_ y on : Int} {k a b : Nat} (hv : Reach T n L env x 1 at_ k a 0) (hv2 : Reach T n L env y 2 on k b 0) :
    Calls Tryz.prog 33 #[.pointer (some ⟨q, 0, none⟩), .int .i64 env, .int .i64 x, .int .i64 at_, .int .i64 y, .int .i64 on, .int .i64 k] w fun e w' => e = .returned (.int .i64 0) ∧ Reg w' q m mr s B n p r A cap (splice xs b ((xs.drop a).take k)) T L ∧ Keep (· = mr) w w' := by
  have hr := hv.range h
  have hl : ((xs.drop a).take k).length = k := by simp; omega
  have HL := Lib.hid hl
  clear hl
  go_enter Tryz.func33, Tryz.ntmps33
  go_wp2_with fail
  refine (read_yes h hv).mono ?_; rintro e w1 ⟨g, rfl, hb, -, k1⟩
  rw [HL.out]
  have h1 := h.nob k1
  go_wp2_with fail
  refine (write_yes h1 hv2 (reads_all hb (by simp [HL.out]))).mono ?_; rintro e w2 ⟨rfl, h2, k2⟩
  go_wp2
  go_ret
  exact ⟨rfl, h2, (k1.mono (fun _ _ f => f.elim)).trans k2 (fun _ _ e => e)⟩
theorem rcopy_no1 (h : Reg w q m mr s B n p r A cap xs T L) {env x at_ y on k v er : Int} (hv : Reach T n L env x 1 at_ k v er) (he : er ≠ 0) :
    Calls Tryz.prog 33 #[.pointer (some ⟨q, 0, none⟩), .int .i64 env, .int .i64 x, .int .i64 at_, .int .i64 y, .int .i64 on, .int .i64 k] w fun e w' => e = .returned (.int .i64 er) ∧ Keep Nob w w' := by
  have hr := read_no h hv he
  rcases hv.er_ with rfl | rfl | rfl | rfl
  · exact absurd rfl he
  all_goals
    clear hv
    go_enter Tryz.func33, Tryz.ntmps33
    go_wp2_with fail
    refine hr.mono ?_; rintro e w1 ⟨rfl, k1⟩
    go_wp2
    go_ret
    exact ⟨rfl, k1⟩
theorem rcopy_no2 (h : Reg w q m mr s B n p r A cap xs T L) {env x at_ y on v er : Int} {k a : Nat} (hv : Reach T n L env x 1 at_ k a 0) (hv2 : Reach T n L env y 2 on k v er) (he : er ≠ 0) :
    Calls Tryz.prog 33 #[.pointer (some ⟨q, 0, none⟩), .int .i64 env, .int .i64 x, .int .i64 at_, .int .i64 y, .int .i64 on, .int .i64 k] w fun e w' => e = .returned (.int .i64 er) ∧ Keep Nob w w' := by
  have hr := hv.range h
  have hl : ((xs.drop a).take k).length = k := by simp; omega
  have HL := Lib.hid hl
  clear hl
  go_enter Tryz.func33, Tryz.ntmps33
  go_wp2_with fail
  refine (read_yes h hv).mono ?_; rintro e w1 ⟨g, rfl, hb, -, k1⟩
  rw [HL.out]
  have h1 := h.nob k1
  go_wp2_with fail
  refine (write_no h1 hv2 he).mono ?_; rintro e w2 ⟨rfl, k2⟩
  go_wp2
  go_ret
  exact ⟨rfl, k1.nobt k2⟩
theorem radd_no (h : Reg w q m mr s B n p r A cap xs T L) {lo k : Int} (hno : ¬ (0 ≤ lo ∧ 0 ≤ k ∧ lo + k ≤ xs.length)) :
    Calls Tryz.prog 56 #[.pointer (some ⟨q, 0, none⟩), .int .i64 lo, .int .i64 k] w fun e w' => e = .returned (.tuple #[.int .i64 0, .int .i64 1]) ∧ w = w' := by
  have ho : w.cell? ⟨q, 0, none⟩ = some (.pointer (some ⟨m, 0, none⟩)) := h.obj.cell 0
  have hml := h.mem.len
  have hp : (decide (0 ≤ lo) && (decide (0 ≤ k) && (decide (k ≤ xs.length) && decide (lo ≤ xs.length - k)))) = false := by
    rw [Bool.eq_false_iff]; intro hh; simp at hh; exact hno ⟨hh.1, hh.2.1, by omega⟩
  clear hno
  go_enter Tryz.func56, Tryz.ntmps56
  go_wp2_with fail
  refine (size_any m mr xs w h.mem).mono ?_; rintro e w1 ⟨rfl, rfl⟩
  go_wp2_with fail
  refine (rpart_is lo k xs.length _ false (by omega) (by omega) hp).mono ?_; rintro e w1 ⟨rfl, rfl⟩
  go_wp2
  go_ret2
  exact ⟨rfl, rfl⟩
theorem radd_full (h : Reg w q m mr s B n p r A cap xs T L) {lo k : Int} (hok : 0 ≤ lo ∧ 0 ≤ k ∧ lo + k ≤ xs.length) (hl : L.length = 32) :
    Calls Tryz.prog 56 #[.pointer (some ⟨q, 0, none⟩), .int .i64 lo, .int .i64 k] w fun e w' => e = .returned (.tuple #[.int .i64 0, .int .i64 4]) ∧ w = w' := by
  have ho : w.cell? ⟨q, 0, none⟩ = some (.pointer (some ⟨m, 0, none⟩)) := h.obj.cell 0
  have ho2 : w.cell? ⟨q, 2, none⟩ = some (.slice A L.length cap) := h.obj.cell 2
  rw [hl] at ho2
  have hml := h.mem.len
  have hp : (decide (0 ≤ lo) && (decide (0 ≤ k) && (decide (k ≤ xs.length) && decide (lo ≤ xs.length - k)))) = true := by simp; omega
  go_enter Tryz.func56, Tryz.ntmps56
  go_wp2_with fail
  refine (size_any m mr xs w h.mem).mono ?_; rintro e w1 ⟨rfl, rfl⟩
  go_wp2_with fail
  refine (rpart_is lo k xs.length _ true (by omega) (by omega) hp).mono ?_; rintro e w1 ⟨rfl, rfl⟩
  go_wp2
  go_ret2
  exact ⟨rfl, rfl⟩
theorem infospan : (Tryz.prog.info? 149).map (fun i => (i.zero, i.size, i.bytes)) = some (some (.agg #[.int .i64 0, .int .i64 0]), 2, 16) := by kernel_rfl
set_option maxHeartbeats 1000000 in
theorem radd_yes (h : Reg w q m mr s B n p r A cap xs T L) {lo k : Int} (hok : 0 ≤ lo ∧ 0 ≤ k ∧ lo + k ≤ xs.length) (hl : L.length < 32) :
    Calls Tryz.prog 56 #[.pointer (some ⟨q, 0, none⟩), .int .i64 lo, .int .i64 k] w fun e w' => ∃ A' cap', e = .returned (.tuple #[.int .i64 L.length, .int .i64 0]) ∧ Reg w' q m mr s B n p r A' cap' xs T (L ++ [(lo, k)]) ∧
      Keep (fun b => b = q ∨ Own A b) w w' ∧ (∀ g, Own A' g → Own A g ∨ w.heap.size ≤ g) := by
  have ho : w.cell? ⟨q, 0, none⟩ = some (.pointer (some ⟨m, 0, none⟩)) := h.obj.cell 0
  have ho2 : w.cell? ⟨q, 2, none⟩ = some (.slice A L.length cap) := h.obj.cell 2
  have hml := h.mem.len
  have hp : (decide (0 ≤ lo) && (decide (0 ≤ k) && (decide (k ≤ xs.length) && decide (lo ≤ xs.length - k)))) = true := by simp; omega
  have kA := (Keep.refl Nob w).alloc (.cells #[.int .i64 lo, .int .i64 k] 149)
  have hA := h.nob kA
  have bN : Blk (w.alloc (.cells #[.int .i64 lo, .int .i64 k] 149)) w.heap.size 149 [.int .i64 lo, .int .i64 k] := Blk.new w _ _
  have hq := h.obj.lt
  have Hok := Lib.hid hok
  clear hok
  go_enter Tryz.func56, Tryz.ntmps56
  go_wp2_with fail
  refine (size_any m mr xs w h.mem).mono ?_; rintro e w1 ⟨rfl, rfl⟩
  go_wp2_with fail
  refine (rpart_is lo k xs.length _ true (by omega) (by have := Hok.out; omega) hp).mono ?_; rintro e w1 ⟨rfl, rfl⟩
  clear hp
  go_wp2_with (refine wpList_ap rfl _ _ 124 rfl 149 2 16 (.agg #[.int .i64 0, .int .i64 0]) Tryz.underlying124 infospan rfl (by decide) A L.length cap (refs L) rfl hA.row (some ⟨w.heap.size, 0, none⟩) 1 1 (refs [(lo, k)]) rfl 2 rfl (reads_all bN rfl) (refs_one _) (by simp [maxLen]; omega) (by omega) ?_; intro A' cap' w2 hv2 hk2 hown2; have ob2 := hA.obj.keep hk2 (fun ⟨a, ha, e⟩ => by obtain ⟨cur, hc⟩ := hA.row.blk ⟨a, ha, rfl⟩; exact hA.obj.ne_ hc (by decide) e.symm); have oc2 := ob2.cell 2; have of2 := ob2.frozen 2; simp only [List.getElem?_cons_zero, List.getElem?_cons_succ] at oc2)
  have hnq : ∀ {g : Nat} {t : TypeId} {cs : List Value}, Blk (w.alloc (.cells #[.int .i64 lo, .int .i64 k] 149)) g t cs → t ≠ 126 → t ≠ 149 → Blk (w2.setCell ⟨q, 2, none⟩ (.slice A' (L.length + 1) cap')) g t cs := fun hb h1 h2 =>
    (hb.keep hk2 (fun ho => by obtain ⟨cur, hc⟩ := hA.row.blk ho; exact hb.ne_ hc h2 rfl)).far (hb.ne_ hA.obj h1) _
  have hqA : ∀ g, Own A' g → g ≠ q := fun g ho e => by obtain ⟨cur, hc⟩ := hv2.blk ho; subst e; exact hc.ne_ ob2 (by decide) rfl
  have fin : Reg (w2.setCell ⟨q, 2, none⟩ (.slice A' (L.length + 1) cap')) q m mr s B n p r A' cap' xs T (L ++ [(lo, k)]) := by
    refine ⟨⟨hnq hA.mem.obj (by decide) (by decide), hnq hA.mem.row (by decide) (by decide), hA.mem.len⟩, ⟨hnq hA.sp.obj (by decide) (by decide), hnq hA.sp.row (by decide) (by decide), fun i hi => ?_, hA.sp.pinj, hA.sp.rinj⟩, hA.inv, ?_, ?_, ?_, by simp; omega⟩
    · have ht := hA.sp.tab i hi
      exact ⟨hnq ht.obj (by decide) (by decide), hnq ht.row (by decide) (by decide), ht.pl, ht.ne⟩
    · have := ob2.setCell 2 (.slice A' (L.length + 1) cap')
      simpa using this
    · rw [List.length_append]
      have e1 : refs (L ++ [(lo, k)]) = refs L ++ refs [(lo, k)] := refs_append _ _
      rw [e1]
      exact hv2.keep ((Keep.refl (· = q) _).setCell _ _ (fun _ => rfl)) hqA
    · intro x hx
      rcases List.mem_append.1 hx with hx | hx
      · exact hA.ok x hx
      · simp at hx
        subst hx
        exact Hok.out
  have kf : Keep (fun b => b = q ∨ Own A b) w (w2.setCell ⟨q, 2, none⟩ (.slice A' (L.length + 1) cap')) :=
    ((kA.mono (fun _ _ f => f.elim)).trans hk2 (fun _ _ m => .inr m)).setCell _ _ (fun _ => .inl rfl)
  have Fin := Lib.hid fin
  clear fin hnq hv2 hqA hA
  go_wp2_with fail
  go_ret2
  exact ⟨A', cap', rfl, Fin.out, kf, fun g hg => (hown2 g hg).imp id (fun e => by subst e; simp)⟩
theorem rnew_is {xs : List UInt8} {T : St} (hm : IsMem w m mr xs) (hs : IsSp w s B n p r T) (I : Inv T n) :
    Calls Tryz.prog 26 #[.pointer (some ⟨m, 0, none⟩), .pointer (some ⟨s, 0, none⟩)] w fun e w' => ∃ q, e = .returned (.pointer (some ⟨q, 0, none⟩)) ∧ Reg w' q m mr s B n p r none 0 xs T [] ∧ w.heap.size ≤ q ∧ Keep Nob w w' := by
  have k1 := (Keep.refl Nob w).alloc (.cells #[.pointer (some ⟨m, 0, none⟩), .pointer (some ⟨s, 0, none⟩), .slice none 0 0] 126)
  have b1 : Blk (w.alloc (.cells #[.pointer (some ⟨m, 0, none⟩), .pointer (some ⟨s, 0, none⟩), .slice none 0 0] 126)) w.heap.size 126 [.pointer (some ⟨m, 0, none⟩), .pointer (some ⟨s, 0, none⟩), .slice none 0 0] := Blk.new w _ _
  go_enter Tryz.func26, Tryz.ntmps26
  go_wp2
  go_ret
  exact ⟨_, rfl, ⟨hm.keep k1 (fun f => f) (fun f => f), hs.nob k1, I, b1, Vec.nil _ _ _, by simp, by simp⟩, Nat.le_refl _, k1⟩
end
end Go.Proofs.YtompckcnpidbdaaGreat
