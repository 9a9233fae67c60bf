/- Contracts of package caps: Revoke. -/
import Derived.Test.YtompckcnpidbdaaGreatCaps5
namespace Go.Proofs.YtompckcnpidbdaaGreat
open Go.RowKit
set_option linter.unusedVariables false
set_option linter.unusedSimpArgs false
/-- The Refs of l are gone. -/
def goneQ (l : List Rf) (e i : Nat) (q : Q) : Q := if q.on = true ∧ ((e : Int), (i : Int) + 256 * (q.gen : Int)) ∈ l then ⟨q.gen + 1, false, zcap⟩ else q
def gone (T : St) (l : List Rf) : St := fun e => (T e).mapIdx (goneQ l e)
theorem gone_get {T : St} {l : List Rf} {e i : Nat} : (gone T l e)[i]? = ((T e)[i]?).map (goneQ l e i) := by simp [gone]
theorem gone_nil (T : St) : gone T [] = T := by
  funext e
  apply List.ext_getElem?
  intro i
  rw [gone_get]
  cases (T e)[i]? <;> simp [goneQ]
theorem gone_len (T : St) (l : List Rf) (e : Nat) : (gone T l e).length = (T e).length := by simp [gone]
theorem gone_has {T : St} {n : Nat} {l : List Rf} {ρ : Rf} {c : Cp} : Has (gone T l) n ρ c ↔ Has T n ρ c ∧ ρ ∉ l := by
  constructor
  · rintro ⟨e, i, q, h1, h2, h3, h4, h5⟩
    rw [gone_get] at h3
    obtain ⟨q0, hq0, rfl⟩ := Option.map_eq_some_iff.1 h3
    unfold goneQ at h1 h4 h5
    split at h4
    · cases h4
    · rename_i hn
      rw [if_neg hn] at h1 h5
      exact ⟨⟨e, i, q0, h1, h2, hq0, h4, h5⟩, fun hm => hn ⟨h4, h1 ▸ hm⟩⟩
  · rintro ⟨⟨e, i, q, h1, h2, h3, h4, h5⟩, hn⟩
    have : goneQ l e i q = q := by
      unfold goneQ
      rw [if_neg (fun hm => hn (h1 ▸ hm.2))]
    exact ⟨e, i, q, h1, h2, by rw [gone_get, h3]; exact congrArg some this, h4, h5⟩
theorem gone_up {T : St} {n : Nat} {l : List Rf} {e i : Nat} {q : Q} (hl : ∀ e, e < n → (T e).length ≤ 256) (he : e < n) (hq : (T e)[i]? = some q) (ho : q.on = true) (hn : ((e : Int), (i : Int) + 256 * (q.gen : Int)) ∉ l) :
    up (gone T l) e i ⟨q.gen + 1, false, zcap⟩ = gone T (l ++ [((e : Int), (i : Int) + 256 * (q.gen : Int))]) := by
  funext j
  unfold up
  by_cases hj : j = e
  · subst hj
    rw [if_pos rfl]
    apply List.ext_getElem?
    intro k
    rw [List.getElem?_set, gone_get, gone_get, gone_len]
    by_cases hk : i = k
    · subst hk
      rw [if_pos rfl, if_pos (get_lt hq), hq]
      simp [goneQ, ho]
    · rw [if_neg hk]
      cases hT : (T j)[k]? with
      | none => rfl
      | some y =>
        simp only [Option.map_some, Option.some.injEq]
        unfold goneQ
        have hne : ((j : Int), (k : Int) + 256 * (y.gen : Int)) ≠ ((j : Int), (i : Int) + 256 * (q.gen : Int)) := by
          intro e1
          have h1 := congrArg Prod.snd e1
          have h2 := get_lt hT
          have h3 := get_lt hq
          have h4 := hl j he
          simp only at h1
          omega
        simp [hne]
  · rw [if_neg hj]
    apply List.ext_getElem?
    intro k
    rw [gone_get, gone_get]
    cases hT : (T j)[k]? with
    | none => rfl
    | some y =>
      simp only [Option.map_some, Option.some.injEq]
      unfold goneQ
      have hne : ((j : Int), (k : Int) + 256 * (y.gen : Int)) ≠ ((e : Int), (i : Int) + 256 * (q.gen : Int)) := by
        intro e1
        have h1 := congrArg Prod.fst e1
        simp only at h1
        omega
      simp [hne]
theorem Inv.gone {T : St} {n : Nat} (I : Inv T n) {top : Rf} {l : List Rf} (hl : ∀ ρ, ρ ∈ l ↔ Desc T n top ρ) (ht : ∃ c, Has T n top c) : Inv (gone T (top :: l)) n := by
  refine ⟨I.n40, fun e he => by rw [gone_len]; exact I.len e he, ?_, ?_, ?_, ?_⟩
  · intro e i q he hq
    rw [gone_get] at hq
    obtain ⟨q0, hq0, rfl⟩ := Option.map_eq_some_iff.1 hq
    have := I.gen e i q0 he hq0
    unfold goneQ
    split
    · exact ⟨Nat.succ_pos _, fun h => by cases h⟩
    · exact this
  · intro ρ c h
    exact I.cap ρ c (gone_has.1 h).1
  · intro ρ c h
    obtain ⟨h1, h2⟩ := gone_has.1 h
    rcases I.root ρ c h1 with h3 | ⟨c', h3⟩
    · exact .inl h3
    · refine .inr ⟨c', gone_has.2 ⟨h3, fun hm => h2 ?_⟩⟩
      rcases List.mem_cons.1 hm with e | hm
      · exact List.mem_cons_of_mem _ ((hl ρ).2 (.child h1 e))
      · exact List.mem_cons_of_mem _ ((hl ρ).2 (.step ((hl _).1 hm) h1 rfl))
  · obtain ⟨rk, hrk⟩ := I.rank
    exact ⟨rk, fun ρ c h h0 => hrk ρ c (gone_has.1 h).1 h0⟩
theorem drop_is {w : World} {s B n : Nat} {p r : Nat → Nat} {T : St} {l : List Rf} {e : Nat} {b : Int} {c : Cp} (h : IsSp w s B n p r (gone T l)) (I : Inv T n) (hh : Has T n ((e : Int), b) c) (hn : ((e : Int), b) ∉ l) :
    Calls Tryz.prog 66 #[.pointer (some ⟨p e, 0, none⟩), .int .i64 b] w fun e' w' => e' = .returned (.bool true) ∧ IsSp w' s B n p r (gone T (l ++ [((e : Int), b)])) ∧ Keep (· = r e) w w' := by
  obtain ⟨e1, i, q, h1, he, hq, ho, hc⟩ := hh
  have ha := congrArg Prod.fst h1
  have hb := congrArg Prod.snd h1
  simp only at ha hb
  obtain rfl : e = e1 := by omega
  subst hb
  have hg : (gone T l e)[i]? = some q := by
    rw [gone_get, hq]
    have : goneQ l e i q = q := by
      unfold goneQ
      rw [if_neg (fun hm => hn hm.2)]
    exact congrArg some this
  have g := (I.gen e i q he hq).2 ho
  refine (TabC.drop_yes (h.tab e he) (h.cells hg) ho rfl g).mono ?_
  rintro e' w' ⟨rfl, ht, hk, _⟩
  refine ⟨rfl, ?_, hk⟩
  have := h.put (q := ⟨q.gen + 1, false, zcap⟩) he hk ht
  rwa [gone_up I.len256 he hq ho hn] at this
theorem Has.env {T : St} {n : Nat} {ρ : Rf} {c : Cp} (h : Has T n ρ c) : ∃ e : Nat, e < n ∧ ρ = ((e : Int), ρ.2) := by
  obtain ⟨e, i, q, h1, he, _⟩ := h
  exact ⟨e, he, by rw [h1]⟩
theorem Keep.rows {n : Nat} {r : Nat → Nat} {e : Nat} {w w' : World} (he : e < n) (k : Keep (· = r e) w w') : Keep (Rows_ n r) w w' := k.mono (fun _ _ e1 => ⟨e, he, e1⟩)
set_option maxRecDepth 100000 in
set_option maxHeartbeats 4000000 in
theorem revoke_yes {w : World} {s B n : Nat} {p r : Nat → Nat} {T : St} {a b : Int} (h : IsSp w s B n p r T) (I : Inv T n) (c : Cp) (hc : Has T n (a, b) c) :
    Calls Tryz.prog 36 #[.pointer (some ⟨s, 0, none⟩), .int .i64 a, .int .i64 b] w fun e w' => ∃ U : List Rf, e = .returned (.tuple #[.int .i64 (1 + (U.length : Int)), .int .i64 0]) ∧ U.Nodup ∧ (∀ ρ, ρ ∈ U ↔ Desc T n (a, b) ρ) ∧
      IsSp w' s B n p r (gone T ((a, b) :: U)) ∧ Inv (gone T ((a, b) :: U)) n ∧ Keep (Rows_ n r) w w' := by
  have hn40 := I.n40
  have hN := all_le I.len n (Nat.le_refl _)
  go_enter Tryz.func36, Tryz.ntmps36
  go_wp2_with fail
  refine (under_yes h I c hc).mono ?_; rintro e w1 ⟨A, cap, U, rfl, hnd, hmem, _, hv, hk1⟩
  have hUl : U.length ≤ 1280 := by
    have h1 : ∀ ρ ∈ U, ρ ∈ (all T n).map (·.1) := fun ρ hr => by
      obtain ⟨c', hc'⟩ := ((hmem ρ).1 hr).has
      exact List.mem_map.2 ⟨(ρ, c'), (all_mem n).2 hc', rfl⟩
    have := nodup_le hnd h1
    rw [List.length_map] at this
    omega
  have h1 := h.nob hk1
  rw [← gone_nil T] at h1
  obtain ⟨e, he, hae⟩ := hc.env
  have ha := congrArg Prod.fst hae
  simp only at ha
  clear hae
  subst ha
  have hdr := drop_is h1 I hc (by simp)
  have hp := h1.ptr he
  have hh := h1.head
  go_wp2_with fail
  refine hdr.mono ?_; rintro e' w2 ⟨rfl, h2, hk2⟩
  have hv2 := hv.far (h1.tab e he).row (by decide) hk2
  have K2 := (hk1.mono (M' := Rows_ n r) (fun _ _ f => f.elim)).trans (hk2.rows he) (fun _ _ m => m)
  have htop : ((e : Int), b) ∉ U := fun hm => by
    obtain ⟨rk, hrk⟩ := I.rank
    have key : ∀ τ, Desc T n ((e : Int), b) τ → rk ((e : Int), b) < rk τ := by
      intro τ hd
      induction hd with
      | child h1 h2 =>
        have := hrk _ _ h1 (by rw [h2]; exact I.not0 hc)
        rwa [h2] at this
      | step h1 h2 h3 ih =>
        obtain ⟨c', hc'⟩ := h1.has
        have := hrk _ _ h2 (by rw [h3]; exact I.not0 hc')
        rw [h3] at this
        omega
    have := key _ ((hmem _).1 hm)
    omega
  clear hdr hp hh hk2 hv h1
  go_wp2
  go_loopw [33] (fun s33 wx => ∃ j : Nat, j ≤ U.length ∧ s33 = .int .i64 j ∧ IsSp wx s B n p r (gone T (((e : Int), b) :: U.take j)) ∧ Vec wx 59 2 A U.length cap (refs U) ∧ Keep (Rows_ n r) w wx) (fun s33 _ => U.length - (intOf s33).toNat)
  case atStart => exact ⟨0, Nat.zero_le _, rfl, h2, hv2, K2⟩
  case round =>
    obtain ⟨j, hj, rfl, hx, hv, hK⟩ := hrel
    by_cases hjl : j < U.length
    · obtain ⟨ρ, hρ⟩ : ∃ ρ, U[j]? = some ρ := ⟨_, List.getElem?_eq_getElem hjl⟩
      have htake : U.take (j + 1) = U.take j ++ [ρ] := by rw [List.take_add_one, hρ]; rfl
      have hρm := List.mem_of_getElem? hρ
      obtain ⟨cρ, hcρ⟩ := ((hmem ρ).1 hρm).has
      have hno : ρ ∉ ((e : Int), b) :: U.take j := by
        rw [List.mem_cons, not_or]
        refine ⟨fun e1 => htop (e1 ▸ hρm), fun hm => ?_⟩
        obtain ⟨i, hi1, hi2⟩ := List.mem_take_iff_getElem.1 hm
        have h1 : U[i] = U[j] := by rw [hi2]; exact (List.getElem?_eq_some_iff.1 hρ).2.symm
        have := (List.getElem_inj hnd).1 h1
        omega
      obtain ⟨g, rfl, e0, e1⟩ := hv.rf hρ
      obtain ⟨f, hf, hρe⟩ := hcρ.env
      obtain ⟨ρ1, ρ2⟩ := ρ
      have hρ1 := congrArg Prod.fst hρe
      simp only at hρ1 e0 e1
      clear hρe
      subst hρ1
      have kV := (Keep.refl Nob wr).alloc (.cells #[.int .i64 f, .int .i64 ρ2] 59)
      have bV := Blk.new wr 59 [.int .i64 f, .int .i64 ρ2]
      have hV := hx.nob kV
      have hrow := (hV.tab f hf).row
      have hrlt := (hx.tab f hf).row.lt
      have n1 := hV.obj.ne_ hrow (by decide)
      have n2 := hV.row.ne_ hrow (by decide)
      have sf : ∀ W, Keep (· = r f) (wr.alloc (.cells #[.int .i64 f, .int .i64 ρ2] 59)) W → (W.cell? ⟨s, 0, none⟩ = some (.slice (some ⟨B, 0, none⟩) n n) ∧ W.cell? ⟨B, f, none⟩ = some (.pointer (some ⟨p f, 0, none⟩)) ∧ W.cell? ⟨wr.heap.size, 0, none⟩ = some (.int .i64 f) ∧ W.cell? ⟨wr.heap.size, 1, none⟩ = some (.int .i64 ρ2)) := by
        intro W k
        have b := bV.keep k (by omega)
        exact ⟨(hV.obj.keep k n1).cell 0, by rw [(hV.row.keep k n2).cell, mk_get hf], b.cell 0, b.cell 1⟩
      have kd : Keep (· = r f) (wr.alloc (.cells #[.int .i64 f, .int .i64 ρ2] 59)) (wr.alloc (.cells #[.int .i64 f, .int .i64 ρ2] 59)).drew := (Keep.refl _ _).drew
      have hcl := drop_is (hV.nob (Keep.nobdrew _)) I hcρ hno
      have hvV := (hv.nob kV).nob (Keep.nobdrew _)
      have hrow2 := hrow.nob (Keep.nobdrew _)
      have hfit : f < n := hf
      clear hV hrow bV
      go_wp2_with fail
      go_region_held3 (fun w' => w'.cell? ⟨s, 0, none⟩ = some (.slice (some ⟨B, 0, none⟩) n n) ∧ w'.cell? ⟨B, f, none⟩ = some (.pointer (some ⟨p f, 0, none⟩)) ∧ w'.cell? ⟨wr.heap.size, 0, none⟩ = some (.int .i64 f) ∧ w'.cell? ⟨wr.heap.size, 1, none⟩ = some (.int .i64 ρ2))
        (first | exact sf _ kd | exact sf _ k1)
        (first | (go_at_call 66; refine hcl.mono ?_; rintro e' w' ⟨rfl, hR, hk⟩; have k1 := kd.trans hk (fun _ _ e => e)))
      have hv3 := hvV.far hrow2 (by decide) hk
      have K3 := (hK.trans kV (fun _ _ f => f.elim)).trans (k1.rows hf) (fun _ _ m => m)
      rw [List.cons_append, ← htake] at hR
      go_wp2
      go_roundw
      case rel => exact ⟨j + 1, by omega, by go_num, hR, hv3, K3⟩
      case measure => simp [intOf]; omega
    · obtain rfl : j = U.length := by omega
      rw [List.take_of_length_le (Nat.le_refl _)] at hx
      go_wp2
      go_ret2
      exact ⟨U, rfl, hnd, hmem, hx, I.gone hmem ⟨c, hc⟩, hK⟩
theorem revoke_no {w : World} {s B n : Nat} {p r : Nat → Nat} {T : St} {a b : Int} (h : IsSp w s B n p r T) (hc : ∀ c, ¬ Has T n (a, b) c) :
    Calls Tryz.prog 36 #[.pointer (some ⟨s, 0, none⟩), .int .i64 a, .int .i64 b] w fun e w' => e = .returned (.tuple #[.int .i64 0, .int .i64 2]) ∧ Keep Nob w w' := by
  go_enter Tryz.func36, Tryz.ntmps36
  go_wp2_with fail
  refine (under_no h hc).mono ?_; rintro e w1 ⟨rfl, hk1⟩
  go_wp2
  go_ret2
  exact ⟨rfl, hk1⟩
end Go.Proofs.YtompckcnpidbdaaGreat
