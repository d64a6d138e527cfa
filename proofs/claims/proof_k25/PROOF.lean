import PyProof.Rows.All
import HandS.ForMost
import HandS.StrMore
import HandS.Style
import HandS.Codes
import HandS.ReplaceList
import HandS.ReplaceLit
import HandS.WideBits
import HandS.ReplaceDef
import HandS.IntHex
import HandS.Dict
import KE.KDictDisplayH
import HandS.DictTup
import HandS.Conv
import HandS.IsInst
import PyProof.StrOps2
import KE.GoesMore
import PyProof.ReprRoads
import HandS.Defaults
import PySem.Challenge.RW_anchorpages_k25_texts_of_literal_scalars
set_option Elab.async false
set_option linter.all false
set_option maxRecDepth 100000
set_option maxHeartbeats 4000000
namespace DJ
open PySem PySem.Spec PyProof.Rows L2
/-! ### data, what stands for them -/
abbrev tx (l : List Nat) : Str := ⟨l.toArray⟩
inductive Dt where
  | non | bl (b : Bool) | int (i : Int) | str (x : List Nat) | lst (xs : List Dt) | tup (xs : List Dt) | raw (v : V) | ext (φ : Hp → V → Prop)
mutual
def Rp (K : PySem.W.Frag) (H : Hp) : Dt → V → Prop
  | .non, v => v = .non
  | .bl b, v => v = .bl b
  | .int i, v => v = .int i
  | .str x, v => v = .str (tx x)
  | .lst xs, v => ∃ a vs, v = .ref a ∧ SqL K H a vs ∧ RpL K H xs vs
  | .tup xs, v => ∃ a vs, v = .ref a ∧ SqT K H a vs ∧ RpL K H xs vs
  | .raw u, v => v = u
  | .ext φ, v => ∀ H', Same H H' → φ H' v
def RpL (K : PySem.W.Frag) (H : Hp) : List Dt → List V → Prop
  | [], vs => vs = []
  | d :: ds, vs => ∃ v r, vs = v :: r ∧ Rp K H d v ∧ RpL K H ds r
end
theorem same_t {K : PySem.W.Frag} {H H' : Hp} {a : Addr} {xs : List V} (e : Same H H') (h : SqT K H a xs) : SqT K H' a xs := by
  rcases h with (h | ⟨o, h⟩) | h
  · exact .inl (.inl (e _ _ h))
  · exact .inl (.inr ⟨o, e _ _ h⟩)
  · exact .inr h
mutual
theorem Rp.mono {K : PySem.W.Frag} {H H' : Hp} (e : Same H H') : ∀ (d : Dt) (v : V), Rp K H d v → Rp K H' d v
  | .non, _, h => h
  | .bl _, _, h => h
  | .int _, _, h => h
  | .str _, _, h => h
  | .raw _, _, h => h
  | .ext _, _, h => fun H' e' => h H' (e.trans e')
  | .lst xs, v, h => by
    obtain ⟨a, vs, e1, h1, h2⟩ := h
    exact ⟨a, vs, e1, e.seq h1, RpL.mono e xs vs h2⟩
  | .tup xs, v, h => by
    obtain ⟨a, vs, e1, h1, h2⟩ := h
    exact ⟨a, vs, e1, same_t e h1, RpL.mono e xs vs h2⟩
theorem RpL.mono {K : PySem.W.Frag} {H H' : Hp} (e : Same H H') : ∀ (ds : List Dt) (vs : List V), RpL K H ds vs → RpL K H' ds vs
  | [], _, h => h
  | d :: ds, vs, h => by
    obtain ⟨v, r, e1, h1, h2⟩ := h
    exact ⟨v, r, e1, Rp.mono e d v h1, RpL.mono e ds r h2⟩
end
theorem RpL.len {K : PySem.W.Frag} {H : Hp} : ∀ {ds : List Dt} {vs : List V}, RpL K H ds vs → vs.length = ds.length
  | [], _, h => by rw [show _ = [] from h]; rfl
  | d :: ds, _, ⟨v, r, e, _, h⟩ => by rw [e, List.length_cons, List.length_cons, RpL.len h]
theorem RpL.get {K : PySem.W.Frag} {H : Hp} : ∀ {ds : List Dt} {vs : List V} {i : Nat} {d : Dt}, RpL K H ds vs → ds[i]? = some d → ∃ v, vs[i]? = some v ∧ Rp K H d v
  | [], _, _, _, _, h => by simp at h
  | d :: ds, _, 0, x, ⟨v, r, e, h1, _⟩, h => by
    subst e
    simp at h
    subst h
    exact ⟨v, rfl, h1⟩
  | d :: ds, _, i + 1, x, ⟨v, r, e, _, h2⟩, h => by
    subst e
    obtain ⟨v', e', q⟩ := RpL.get (i := i) h2 (by simpa using h)
    exact ⟨v', by simpa using e', q⟩
theorem RpL.append {K : PySem.W.Frag} {H : Hp} : ∀ {ds es : List Dt} {vs us : List V}, RpL K H ds vs → RpL K H es us → RpL K H (ds ++ es) (vs ++ us)
  | [], _, _, _, h, q => by rw [show _ = [] from h]; exact q
  | d :: ds, _, _, _, ⟨v, r, e, h1, h2⟩, q => by
    subst e
    exact ⟨v, _, rfl, h1, RpL.append h2 q⟩
theorem RpL.one {K : PySem.W.Frag} {H : Hp} {d : Dt} {v : V} (h : Rp K H d v) : RpL K H [d] [v] := ⟨v, [], rfl, h, rfl⟩
theorem RpL.take {K : PySem.W.Frag} {H : Hp} : ∀ {ds : List Dt} {vs : List V} (n : Nat), RpL K H ds vs → RpL K H (ds.take n) (vs.take n)
  | _, _, 0, _ => rfl
  | [], _, n + 1, h => by rw [show _ = [] from h]; rfl
  | d :: ds, _, n + 1, ⟨v, r, e, h1, h2⟩ => by
    subst e
    exact ⟨v, _, rfl, h1, RpL.take n h2⟩
theorem RpL.drop {K : PySem.W.Frag} {H : Hp} : ∀ {ds : List Dt} {vs : List V} (n : Nat), RpL K H ds vs → RpL K H (ds.drop n) (vs.drop n)
  | _, _, 0, h => h
  | [], _, n + 1, h => by rw [show _ = [] from h]; rfl
  | d :: ds, _, n + 1, ⟨v, r, e, h1, h2⟩ => by
    subst e
    exact RpL.drop n h2
theorem RpL.set {K : PySem.W.Frag} {H : Hp} {x : Dt} {u : V} (hx : Rp K H x u) : ∀ {ds : List Dt} {vs : List V} (n : Nat), RpL K H ds vs → RpL K H (ds.set n x) (vs.set n u)
  | [], _, _, h => by rw [show _ = [] from h]; rfl
  | d :: ds, _, 0, ⟨v, r, e, h1, h2⟩ => by
    subst e
    exact ⟨u, _, rfl, hx, h2⟩
  | d :: ds, _, n + 1, ⟨v, r, e, h1, h2⟩ => by
    subst e
    exact ⟨v, _, rfl, h1, RpL.set hx n h2⟩
theorem RpL.reverse {K : PySem.W.Frag} {H : Hp} : ∀ {ds : List Dt} {vs : List V}, RpL K H ds vs → RpL K H ds.reverse vs.reverse
  | [], _, h => by rw [show _ = [] from h]; rfl
  | d :: ds, _, ⟨v, r, e, h1, h2⟩ => by
    subst e
    rw [List.reverse_cons, List.reverse_cons]
    exact RpL.append (RpL.reverse h2) (RpL.one h1)
theorem RpL.strs {K : PySem.W.Frag} {H : Hp} : ∀ {xs : List (List Nat)} {vs : List V}, RpL K H (xs.map Dt.str) vs → vs = (xs.map tx).map V.str
  | [], _, h => h
  | x :: xs, _, ⟨v, r, e, h1, h2⟩ => by
    subst e
    rw [show v = V.str (tx x) from h1, RpL.strs h2]
    rfl
theorem RpL.strs_of {K : PySem.W.Frag} {H : Hp} : ∀ (xs : List (List Nat)), RpL K H (xs.map Dt.str) ((xs.map tx).map V.str)
  | [] => rfl
  | x :: xs => ⟨_, _, rfl, rfl, RpL.strs_of xs⟩
theorem RpL.bls {K : PySem.W.Frag} {H : Hp} : ∀ {xs : List Bool} {vs : List V}, RpL K H (xs.map Dt.bl) vs → vs = xs.map V.bl
  | [], _, h => h
  | x :: xs, _, ⟨v, r, e, h1, h2⟩ => by
    subst e
    rw [show v = V.bl x from h1, RpL.bls h2]
    rfl
theorem RpL.ints {K : PySem.W.Frag} {H : Hp} : ∀ {xs : List Int} {vs : List V}, RpL K H (xs.map Dt.int) vs → vs = xs.map V.int
  | [], _, h => h
  | x :: xs, _, ⟨v, r, e, h1, h2⟩ => by
    subst e
    rw [show v = V.int x from h1, RpL.ints h2]
    rfl
/-! ### slots, owned objects, states -/
inductive Sl where
  | d (x : Dt) | o (k : Nat)
inductive MO where
  | gone | lst (xs : List Dt) | hob (o : HO) | box (φ : Hp → HO → Prop)
def MoR (K : PySem.W.Frag) (B H : Hp) (a : Addr) : MO → Prop
  | .gone => True
  | .lst xs => ∃ vs, H a = some (.lst vs) ∧ RpL K B xs vs
  | .hob o => H a = some o ∧ ∀ vs, o ≠ .tup vs
  | .box φ => ∃ o, H a = some o ∧ (∀ vs, o ≠ .tup vs) ∧ ∀ B', Same B B' → φ B' o
def SlR (K : PySem.W.Frag) (B : Hp) (as : List Addr) : Sl → V → Prop
  | .d x, v => Rp K B x v
  | .o k, v => ∃ a, as[k]? = some a ∧ v = .ref a
def SlL (K : PySem.W.Frag) (B : Hp) (as : List Addr) : List Sl → List V → Prop
  | [], vs => vs = []
  | s :: ss, vs => ∃ v r, vs = v :: r ∧ SlR K B as s v ∧ SlL K B as ss r
def Px (as as' : List Addr) : Prop := ∃ t, as' = as ++ t
theorem Px.refl (as : List Addr) : Px as as := ⟨[], (List.append_nil _).symm⟩
theorem Px.trans {a b c : List Addr} (h : Px a b) (q : Px b c) : Px a c := by
  obtain ⟨t, rfl⟩ := h
  obtain ⟨u, rfl⟩ := q
  exact ⟨t ++ u, List.append_assoc _ _ _⟩
theorem Px.get {as as' : List Addr} {k : Nat} {a : Addr} (h : Px as as') (e : as[k]? = some a) : as'[k]? = some a := by
  obtain ⟨t, rfl⟩ := h
  rw [List.getElem?_append_left (List.getElem?_eq_some_iff.mp e).1]
  exact e
/-- framed, and no tuple -/
def Kp (o : Option HO) : Prop := o ≠ none ∧ ∀ vs, o ≠ some (.tup vs)
def Gr (F B B' : Hp) : Prop := Same B B' ∧ ∀ a, Kp (F a) → B a = none → B' a = none
theorem Gr.refl (F B : Hp) : Gr F B B := ⟨Same.refl B, fun _ _ h => h⟩
theorem Gr.trans {F B C D : Hp} (h : Gr F B C) (q : Gr F C D) : Gr F B D := ⟨h.1.trans q.1, fun a e n => q.2 a e (h.2 a e n)⟩
theorem SlR.mono {K : PySem.W.Frag} {B B' : Hp} {as as' : List Addr} (e : Same B B') (p : Px as as') : ∀ {s : Sl} {v : V}, SlR K B as s v → SlR K B' as' s v
  | .d x, v, h => Rp.mono e x v h
  | .o k, v, ⟨a, h, q⟩ => ⟨a, p.get h, q⟩
theorem SlL.mono {K : PySem.W.Frag} {B B' : Hp} {as as' : List Addr} (e : Same B B') (p : Px as as') : ∀ {ss : List Sl} {vs : List V}, SlL K B as ss vs → SlL K B' as' ss vs
  | [], _, h => h
  | s :: ss, _, ⟨v, r, e1, h1, h2⟩ => ⟨v, r, e1, SlR.mono e p h1, SlL.mono e p h2⟩
theorem SlL.len {K : PySem.W.Frag} {B : Hp} {as : List Addr} : ∀ {ss : List Sl} {vs : List V}, SlL K B as ss vs → vs.length = ss.length
  | [], _, h => by rw [show _ = [] from h]; rfl
  | s :: ss, _, ⟨v, r, e, _, h⟩ => by rw [e, List.length_cons, List.length_cons, SlL.len h]
theorem SlL.data {K : PySem.W.Frag} {B : Hp} {as : List Addr} : ∀ {ds : List Dt} {vs : List V}, SlL K B as (ds.map Sl.d) vs → RpL K B ds vs
  | [], _, h => h
  | d :: ds, _, ⟨v, r, e, h1, h2⟩ => ⟨v, r, e, h1, SlL.data h2⟩
theorem SlL.of_data {K : PySem.W.Frag} {B : Hp} {as : List Addr} : ∀ {ds : List Dt} {vs : List V}, RpL K B ds vs → SlL K B as (ds.map Sl.d) vs
  | [], _, h => h
  | d :: ds, _, ⟨v, r, e, h1, h2⟩ => ⟨v, r, e, h1, SlL.of_data h2⟩
theorem MoR.mono {K : PySem.W.Frag} {B B' H H' : Hp} {a : Addr} (e : Same B B') (eh : H' a = H a) : ∀ {m : MO}, MoR K B H a m → MoR K B' H' a m
  | .gone, h => h
  | .lst xs, ⟨vs, h, q⟩ => ⟨vs, eh.trans h, RpL.mono e xs vs q⟩
  | .hob _, ⟨h, q⟩ => ⟨eh.trans h, q⟩
  | .box _, ⟨o, h, q, p⟩ => ⟨o, eh.trans h, q, fun B2 e2 => p B2 (e.trans e2)⟩
theorem kp_lst {vs : List V} : Kp (some (.lst vs)) := ⟨fun z => (nomatch z), fun _ z => (nomatch z)⟩
theorem Kp.same {F H : Hp} {a : Addr} (k : Kp (F a)) (e : Same F H) : Kp (H a) := by
  cases h : F a with
  | none => exact absurd h k.1
  | some o =>
    rw [e a o h]
    exact ⟨fun z => (nomatch z), fun vs z => k.2 vs (h.trans z)⟩
theorem kp_mor {K : PySem.W.Frag} {B H : Hp} {a : Addr} : ∀ {m : MO}, m ≠ .gone → MoR K B H a m → Kp (H a)
  | .gone, n, _ => absurd rfl n
  | .lst xs, _, ⟨vs, h, _⟩ => by rw [h]; exact kp_lst
  | .hob o, _, ⟨h, q⟩ => by rw [h]; exact ⟨fun z => (nomatch z), fun vs z => q vs (Option.some.inj z)⟩
  | .box _, _, ⟨o, h, q, _⟩ => by rw [h]; exact ⟨fun z => (nomatch z), fun vs z => q vs (Option.some.inj z)⟩
theorem nodup_ix2 : ∀ {l : List Addr}, l.Nodup → ∀ {i j : Nat} (hi : i < l.length) (hj : j < l.length), l[i] = l[j] → i = j
  | [], _, i, _, hi, _, _ => absurd hi (by simp)
  | a :: l, n, 0, 0, _, _, _ => rfl
  | a :: l, n, 0, j + 1, _, hj, e => absurd (by rw [show a = l[j]'(Nat.lt_of_succ_lt_succ hj) from e]; exact List.getElem_mem _) (List.nodup_cons.mp n).1
  | a :: l, n, i + 1, 0, hi, _, e => absurd (by rw [show a = l[i]'(Nat.lt_of_succ_lt_succ hi) from e.symm]; exact List.getElem_mem _) (List.nodup_cons.mp n).1
  | a :: l, n, i + 1, j + 1, hi, hj, e => congrArg (· + 1) (nodup_ix2 (List.nodup_cons.mp n).2 (Nat.lt_of_succ_lt_succ hi) (Nat.lt_of_succ_lt_succ hj) e)
structure Ow (K : PySem.W.Frag) (F B : Hp) (as : List Addr) (M : List MO) (H : Hp) : Prop where
  fb : Same F H
  bb : Same B H
  len : as.length = M.length
  nd : as.Nodup
  al : ∀ a ∈ as, H a ≠ none
  fa : ∀ a ∈ as, F a = none
  own : ∀ (k : Nat) (a : Addr) (m : MO), as[k]? = some a → M[k]? = some m → m ≠ .gone → F a = none ∧ B a = none ∧ MoR K B H a m
def Slt (K : PySem.W.Frag) (B : Hp) (as : List Addr) (G : List (Option Sl)) (σ : L2.St) : Prop :=
  σ.length = G.length ∧ ∀ (i : Nat) (s : Sl), G[i]? = some (some s) → ∃ v, σ[i]? = some (some v) ∧ SlR K B as s v
theorem Slt.mono {K : PySem.W.Frag} {B B' : Hp} {as as' : List Addr} {G : List (Option Sl)} {σ : L2.St} (h : Slt K B as G σ) (e : Same B B') (p : Px as as') : Slt K B' as' G σ :=
  ⟨h.1, fun i s q => let ⟨v, e1, h1⟩ := h.2 i s q; ⟨v, e1, SlR.mono e p h1⟩⟩
theorem Slt.set {K : PySem.W.Frag} {B : Hp} {as : List Addr} {G : List (Option Sl)} {σ : L2.St} {s : Sl} {v : V} (h : Slt K B as G σ) (i : Nat) (r : SlR K B as s v) : Slt K B as (G.set i (some s)) (σ.set i (some v)) := by
  refine ⟨by rw [List.length_set, List.length_set]; exact h.1, fun j s' q => ?_⟩
  by_cases e : i = j
  · subst e
    have hl : i < G.length := by
      rcases Nat.lt_or_ge i G.length with z | z
      · exact z
      · rw [List.getElem?_eq_none (by rw [List.length_set]; exact z)] at q
        cases q
    rw [List.getElem?_set_self hl] at q
    cases q
    exact ⟨v, by rw [List.getElem?_set_self (by rw [h.1]; exact hl)], r⟩
  · rw [List.getElem?_set_ne e] at q
    obtain ⟨v', e1, h1⟩ := h.2 j s' q
    exact ⟨v', by rw [List.getElem?_set_ne e]; exact e1, h1⟩
section
variable {K : PySem.W.Frag} {F B H : Hp} {as : List Addr} {M : List MO} {p : Addr}
theorem Ow.fresh (h : Ow K F B as M H) (hp : H p = none) : F p = none ∧ B p = none ∧ p ∉ as := by
  refine ⟨h.fb.free hp, h.bb.free hp, fun z => h.al p z hp⟩
theorem Ow.gr (h : Ow K F B as M H) (hp : H p = none) (o : HO) : Gr F B (upd B p o) := by
  obtain ⟨h1, h2, _⟩ := h.fresh hp
  refine ⟨fun a u e => ?_, fun a f n => ?_⟩
  · rw [upd_ne (ne_of_none e h2)]; exact e
  · rw [upd_ne (fun e => f.1 (by rw [e]; exact h1))]; exact n
/-- a new thing that never changes -/
theorem Ow.new (h : Ow K F B as M H) (hp : H p = none) (o : HO) : Ow K F (upd B p o) as M (upd H p o) := by
  obtain ⟨h1, h2, h3⟩ := h.fresh hp
  have hg := h.gr hp o
  refine ⟨fun a u e => ?_, fun a u e => ?_, h.len, h.nd, fun a ha => ?_, h.fa, fun k a m e1 e2 hm => ?_⟩
  · rw [upd_ne (ne_of_none e h1)]; exact h.fb _ _ e
  · by_cases ea : a = p
    · subst ea; rw [upd_same] at e ⊢; exact e
    · rw [upd_ne ea] at e ⊢; exact h.bb _ _ e
  · rw [upd_ne (fun e : a = p => h3 (e ▸ ha))]; exact h.al a ha
  · have ha : a ∈ as := List.mem_of_getElem? e1
    have ne : a ≠ p := fun e : a = p => h3 (e ▸ ha)
    obtain ⟨q1, q2, q3⟩ := h.own k a m e1 e2 hm
    exact ⟨q1, by rw [upd_ne ne]; exact q2, MoR.mono hg.1 (upd_ne ne) q3⟩
/-- a new thing that is owned -/
theorem Ow.newO (h : Ow K F B as M H) (hp : H p = none) {o : HO} {m : MO} (hm : MoR K B (upd H p o) p m) : Ow K F B (as ++ [p]) (M ++ [m]) (upd H p o) := by
  obtain ⟨h1, h2, h3⟩ := h.fresh hp
  refine ⟨fun a u e => ?_, fun a u e => ?_, by rw [List.length_append, List.length_append, h.len]; rfl, ?_, fun a ha => ?_, fun a ha => ?_, fun k a m' e1 e2 hm' => ?_⟩
  · rw [upd_ne (ne_of_none e h1)]; exact h.fb _ _ e
  · rw [upd_ne (ne_of_none e h2)]; exact h.bb _ _ e
  · refine List.nodup_append.mpr ⟨h.nd, by simp, fun a ha b hb => ?_⟩
    obtain rfl : b = p := by simpa using hb
    exact fun e => h3 (e ▸ ha)
  · rcases List.mem_append.mp ha with ha | ha
    · rw [upd_ne (fun e : a = p => h3 (e ▸ ha))]; exact h.al a ha
    · obtain rfl : a = p := by simpa using ha
      rw [upd_same]; exact fun z => nomatch z
  · rcases List.mem_append.mp ha with ha | ha
    · exact h.fa a ha
    · obtain rfl : a = p := by simpa using ha
      exact h1
  · by_cases hk : k < as.length
    · rw [List.getElem?_append_left hk] at e1
      rw [List.getElem?_append_left (by rw [← h.len]; exact hk)] at e2
      have ne : a ≠ p := fun e : a = p => h3 (e ▸ List.mem_of_getElem? e1)
      obtain ⟨q1, q2, q3⟩ := h.own k a m' e1 e2 hm'
      exact ⟨q1, q2, MoR.mono (Same.refl B) (upd_ne ne) q3⟩
    · have hl : k = as.length := by
        have := (List.getElem?_eq_some_iff.mp e1).1
        rw [List.length_append, List.length_singleton] at this
        omega
      subst hl
      rw [List.getElem?_append_right (Nat.le_refl _), Nat.sub_self] at e1
      rw [h.len, List.getElem?_append_right (Nat.le_refl _), Nat.sub_self] at e2
      obtain rfl : p = a := Option.some.inj e1
      obtain rfl : m = m' := Option.some.inj e2
      exact ⟨h1, h2, hm⟩
/-- what is owned changes -/
theorem Ow.put (h : Ow K F B as M H) {k : Nat} {a : Addr} {m m' : MO} {o : HO} (e1 : as[k]? = some a) (e2 : M[k]? = some m) (hm : m ≠ .gone) (hm' : MoR K B (upd H a o) a m') : Ow K F B as (M.set k m') (upd H a o) := by
  obtain ⟨f, b, _⟩ := h.own k a m e1 e2 hm
  refine ⟨fun c u e => ?_, fun c u e => ?_, by rw [List.length_set]; exact h.len, h.nd, fun c hc => ?_, h.fa, fun j c n q1 q2 hn => ?_⟩
  · rw [upd_ne (ne_of_none e f)]; exact h.fb _ _ e
  · rw [upd_ne (ne_of_none e b)]; exact h.bb _ _ e
  · by_cases z : c = a
    · rw [z, upd_same]; exact fun z => nomatch z
    · rw [upd_ne z]; exact h.al c hc
  · by_cases z : k = j
    · subst z
      rw [e1] at q1
      obtain rfl : a = c := Option.some.inj q1
      rw [List.getElem?_set_self (List.getElem?_eq_some_iff.mp e2).1] at q2
      obtain rfl : m' = n := Option.some.inj q2
      exact ⟨f, b, hm'⟩
    · rw [List.getElem?_set_ne z] at q2
      have ne : c ≠ a := fun e => by
        subst e
        exact z (by
          have h1 := (List.getElem?_eq_some_iff.mp e1)
          have h2 := (List.getElem?_eq_some_iff.mp q1)
          obtain ⟨l1, g1⟩ := h1
          obtain ⟨l2, g2⟩ := h2
          exact nodup_ix2 h.nd l1 l2 (g1.trans g2.symm))
      obtain ⟨r1, r2, r3⟩ := h.own j c n q1 q2 hn
      exact ⟨r1, r2, MoR.mono (Same.refl B) (upd_ne ne) r3⟩
/-- what is owned becomes data -/
theorem Ow.freeze (h : Ow K F B as M H) {k : Nat} {a : Addr} {xs : List Dt} (e1 : as[k]? = some a) (e2 : M[k]? = some (.lst xs)) : ∃ B', Gr F B B' ∧ Ow K F B' as (M.set k .gone) H ∧ Rp K B' (.lst xs) (.ref a) := by
  obtain ⟨f, b, vs, hv, hr⟩ := h.own k a _ e1 e2 (fun z => nomatch z)
  have sm : Same B (upd B a (.lst vs)) := fun c u e => by rw [upd_ne (ne_of_none e b)]; exact e
  refine ⟨upd B a (.lst vs), ⟨sm, fun c z n => ?_⟩, ⟨h.fb, fun c u e => ?_, by rw [List.length_set]; exact h.len, h.nd, h.al, h.fa, fun j c n q1 q2 hn => ?_⟩, ⟨a, vs, rfl, .inl (.inl upd_same), RpL.mono sm xs vs hr⟩⟩
  · rw [upd_ne (fun e => z.1 (by rw [e]; exact f))]; exact n
  · by_cases z : c = a
    · subst z; rw [upd_same] at e; rw [← e]; exact hv
    · rw [upd_ne z] at e; exact h.bb _ _ e
  · by_cases z : k = j
    · subst z
      rw [List.getElem?_set_self (List.getElem?_eq_some_iff.mp e2).1] at q2
      exact absurd (Option.some.inj q2).symm hn
    · rw [List.getElem?_set_ne z] at q2
      have ne : c ≠ a := fun e => by
        subst e
        obtain ⟨l1, g1⟩ := List.getElem?_eq_some_iff.mp e1
        obtain ⟨l2, g2⟩ := List.getElem?_eq_some_iff.mp q1
        exact z (nodup_ix2 h.nd l1 l2 (g1.trans g2.symm))
      obtain ⟨r1, r2, r3⟩ := h.own j c n q1 q2 hn
      exact ⟨r1, by rw [upd_ne ne]; exact r2, MoR.mono sm rfl r3⟩
theorem Ow.freezeO (h : Ow K F B as M H) {k : Nat} {a : Addr} {o : HO} (e1 : as[k]? = some a) (e2 : M[k]? = some (.hob o)) : Gr F B (upd B a o) ∧ Ow K F (upd B a o) as (M.set k .gone) H := by
  obtain ⟨f, b, hv, _⟩ := h.own k a _ e1 e2 (fun z => nomatch z)
  have hv : H a = some o := hv
  have sm : Same B (upd B a o) := fun c u e => by rw [upd_ne (ne_of_none e b)]; exact e
  refine ⟨⟨sm, fun c z n => ?_⟩, ⟨h.fb, fun c u e => ?_, by rw [List.length_set]; exact h.len, h.nd, h.al, h.fa, fun j c n q1 q2 hn => ?_⟩⟩
  · rw [upd_ne (fun e => z.1 (by rw [e]; exact f))]; exact n
  · by_cases z : c = a
    · subst z; rw [upd_same] at e; rw [← e]; exact hv
    · rw [upd_ne z] at e; exact h.bb _ _ e
  · by_cases z : k = j
    · subst z
      rw [List.getElem?_set_self (List.getElem?_eq_some_iff.mp e2).1] at q2
      exact absurd (Option.some.inj q2).symm hn
    · rw [List.getElem?_set_ne z] at q2
      have ne : c ≠ a := fun e => by
        subst e
        obtain ⟨l1, g1⟩ := List.getElem?_eq_some_iff.mp e1
        obtain ⟨l2, g2⟩ := List.getElem?_eq_some_iff.mp q1
        exact z (nodup_ix2 h.nd l1 l2 (g1.trans g2.symm))
      obtain ⟨r1, r2, r3⟩ := h.own j c n q1 q2 hn
      exact ⟨r1, by rw [upd_ne ne]; exact r2, MoR.mono sm rfl r3⟩
/-- the last ones are let go -/
theorem Ow.drop {as : List Addr} {M X : List MO} (h : Ow K F B as (M ++ X) H) : Ow K F B (as.take M.length) M H := by
  refine ⟨h.fb, h.bb, ?_, h.nd.sublist (List.take_sublist _ _), fun a ha => h.al a (List.mem_of_mem_take ha), fun a ha => h.fa a (List.mem_of_mem_take ha), fun k a m e1 e2 hm => ?_⟩
  · have := h.len
    rw [List.length_append] at this
    rw [List.length_take]
    omega
  · have hk : k < M.length := (List.getElem?_eq_some_iff.mp e2).1
    rw [List.getElem?_take_of_lt hk] at e1
    exact h.own k a m e1 (by rw [List.getElem?_append_left hk]; exact e2) hm
end
/-! ### what evaluates to what -/
section
variable (K : PySem.W.Frag)
def EvE (te : TE) (G : List (Option Sl)) (M : List MO) (r : Sl) (M' : List MO) : Prop :=
  ∀ F B as σ H, Ow K F B as M H → Slt K B as G σ → ∀ Q : VK, (∀ v B' as' H', Gr F B B' → Px as as' → Ow K F B' as' M' H' → SlR K B' as' r v → Q v H') → te σ H Q
def EvT (tt : TT) (G : List (Option Sl)) (M : List MO) (b : Bool) (M' : List MO) : Prop :=
  ∀ F B as σ H, Ow K F B as M H → Slt K B as G σ → ∀ Q : Bool → Hp → Prop, (∀ B' as' H', Gr F B B' → Px as as' → Ow K F B' as' M' H' → Q b H') → tt σ H Q
def EvA (ta : TA) (G : List (Option Sl)) (M : List MO) (rs : List Sl) (M' : List MO) : Prop :=
  ∀ F B as σ H, Ow K F B as M H → Slt K B as G σ → ∀ Q : List V → Hp → Prop, (∀ vs B' as' H', Gr F B B' → Px as as' → Ow K F B' as' M' H' → SlL K B' as' rs vs → Q vs H') → ta σ H Q
def EvO (to : TO) (G : List (Option Sl)) (M : List MO) (o : Option Int) (M' : List MO) : Prop :=
  ∀ F B as σ H, Ow K F B as M H → Slt K B as G σ → ∀ Q : Option Int → Hp → Prop, (∀ B' as' H', Gr F B B' → Px as as' → Ow K F B' as' M' H' → Q o H') → to σ H Q
/-- an operation on data -/
def RO (r : R2) (x y z : Dt) : Prop := ∀ F B as M H v u Q, Ow K F B as M H → Rp K B x v → Rp K B y u → (∀ w B' H', Gr F B B' → Ow K F B' as M H' → Rp K B' z w → Q w H') → r v u H Q
def RU (r : V → Hp → VK → Prop) (x z : Dt) : Prop := ∀ F B as M H v Q, Ow K F B as M H → Rp K B x v → (∀ w B' H', Gr F B B' → Ow K F B' as M H' → Rp K B' z w → Q w H') → r v H Q
def RC (r : List V → Hp → VK → Prop) (xs : List Dt) (z : Dt) : Prop := ∀ F B as M H vs Q, Ow K F B as M H → RpL K B xs vs → (∀ w B' H', Gr F B B' → Ow K F B' as M H' → Rp K B' z w → Q w H') → r vs H Q
def RM (r : V → List V → Hp → VK → Prop) (x : Dt) (xs : List Dt) (z : Dt) : Prop := ∀ F B as M H v vs Q, Ow K F B as M H → Rp K B x v → RpL K B xs vs → (∀ w B' H', Gr F B B' → Ow K F B' as M H' → Rp K B' z w → Q w H') → r v vs H Q
end
section
variable {K : PySem.W.Frag} {G : List (Option Sl)} {M M1 M2 M3 : List MO} {s : Sl} {ta tb te : TE} {t u : TT} {x y z : Dt} {r : R2} {b : Bool}
theorem ev_var {i : Nat} (h : G[i]? = some (some s)) : EvE K (tVar i) G M s M := fun F B as σ H o sl Q q => by
  obtain ⟨v, e, r⟩ := sl.2 i s h
  exact ⟨v, e, q v B as H (Gr.refl F B) (Px.refl as) o r⟩
theorem ev_c {v : V} (h : ∀ B, Rp K B x v) : EvE K (tC v) G M (.d x) M := fun F B as σ H o sl Q q => q v B as H (Gr.refl F B) (Px.refl as) o (h B)
theorem ev_int {i : Int} : EvE K (tC (.int i)) G M (.d (.int i)) M := ev_c fun _ => rfl
theorem ev_bl {i : Bool} : EvE K (tC (.bl i)) G M (.d (.bl i)) M := ev_c fun _ => rfl
theorem ev_non : EvE K (tC .non) G M (.d .non) M := ev_c fun _ => rfl
theorem ev_str {c : Str} (l : List Nat) (h : c = tx l := by rfl) : EvE K (tC (.str c)) G M (.d (.str l)) M := ev_c fun _ => by rw [h]; rfl
theorem ev_is {s' : Sl} (h : EvE K te G M s M1) (e : s = s') : EvE K te G M s' M1 := e ▸ h
theorem ev_isD (h : EvE K te G M (.d x) M1) (e : x = y) : EvE K te G M (.d y) M1 := e ▸ h
theorem ev_bind {te : TE} (ha : EvE K ta G M s M1) (hk : ∀ F B as σ H v, Ow K F B as M1 H → Slt K B as G σ → SlR K B as s v → ∀ Q : VK, (∀ w B' as' H', Gr F B B' → Px as as' → Ow K F B' as' M2 H' → SlR K B' as' (.d z) w → Q w H') → te σ H Q → te σ H Q) : True := trivial
theorem ev_op (ha : EvE K ta G M (.d x) M1) (hb : EvE K tb G M1 (.d y) M2) (hr : RO K r x y z) : EvE K (tOp r ta tb) G M (.d z) M2 := fun F B as σ H o sl Q q =>
  ha F B as σ H o sl _ fun v B1 as1 H1 g1 p1 o1 r1 => hb F B1 as1 σ H1 o1 (sl.mono g1.1 p1) _ fun w B2 as2 H2 g2 p2 o2 r2 =>
    hr F B2 as2 M2 H2 v w Q o2 (Rp.mono g2.1 _ _ r1) r2 fun w' B3 H3 g3 o3 r3 => q w' B3 as2 H3 (g1.trans (g2.trans g3)) (p1.trans p2) o3 r3
theorem ev_un {r : V → Hp → VK → Prop} (ha : EvE K ta G M (.d x) M1) (hr : RU K r x z) : EvE K (tUn r ta) G M (.d z) M1 := fun F B as σ H o sl Q q =>
  ha F B as σ H o sl _ fun v B1 as1 H1 g1 p1 o1 r1 => hr F B1 as1 M1 H1 v Q o1 r1 fun w' B3 H3 g3 o3 r3 => q w' B3 as1 H3 (g1.trans g3) p1 o3 r3
theorem ea_nil : EvA K tNil G M [] M := fun F B as σ H o sl Q q => q [] B as H (Gr.refl F B) (Px.refl as) o rfl
theorem ea_cons {tr : TA} {rs : List Sl} (ha : EvE K ta G M s M1) (hr : EvA K tr G M1 rs M2) : EvA K (tCons ta tr) G M (s :: rs) M2 := fun F B as σ H o sl Q q =>
  ha F B as σ H o sl _ fun v B1 as1 H1 g1 p1 o1 r1 => hr F B1 as1 σ H1 o1 (sl.mono g1.1 p1) _ fun vs B2 as2 H2 g2 p2 o2 r2 =>
    q (v :: vs) B2 as2 H2 (g1.trans g2) (p1.trans p2) o2 ⟨v, vs, rfl, SlR.mono g2.1 p2 r1, r2⟩
theorem ev_cb {r : List V → Hp → VK → Prop} {tr : TA} {xs : List Dt} (ha : EvA K tr G M (xs.map Sl.d) M1) (hr : RC K r xs z) : EvE K (tCB r tr) G M (.d z) M1 := fun F B as σ H o sl Q q =>
  ha F B as σ H o sl _ fun vs B1 as1 H1 g1 p1 o1 r1 => hr F B1 as1 M1 H1 vs Q o1 (SlL.data r1) fun w' B3 H3 g3 o3 r3 => q w' B3 as1 H3 (g1.trans g3) p1 o3 r3
theorem et_test (h : EvE K te G M (.d (.bl b)) M1) : EvT K (tTest te) G M b M1 := fun F B as σ H o sl Q q => h F B as σ H o sl _ fun v B1 as1 H1 g1 p1 o1 r1 => ⟨b, r1, q B1 as1 H1 g1 p1 o1⟩
theorem et_B (h : EvE K te G M (.d (.bl b)) M1) : EvT K (tB te) G M b M1 := fun F B as σ H o sl Q q => h F B as σ H o sl _ fun v B1 as1 H1 g1 p1 o1 r1 => ⟨b, r1, q B1 as1 H1 g1 p1 o1⟩
theorem et_and {c : Bool} (h1 : EvT K t G M b M1) (h2 : b = true → EvT K u G M1 c M2) (h3 : b = false → M1 = M2) : EvT K (tAnd t u) G M (b && c) M2 := fun F B as σ H o sl Q q => h1 F B as σ H o sl _ fun B1 as1 H1 g1 p1 o1 => by
  cases b with
  | true => exact h2 rfl F B1 as1 σ H1 o1 (sl.mono g1.1 p1) _ fun B2 as2 H2 g2 p2 o2 => q B2 as2 H2 (g1.trans g2) (p1.trans p2) o2
  | false => exact q B1 as1 H1 g1 p1 (h3 rfl ▸ o1)
theorem et_or {c : Bool} (h1 : EvT K t G M b M1) (h2 : b = false → EvT K u G M1 c M2) (h3 : b = true → M1 = M2) : EvT K (tOr t u) G M (b || c) M2 := fun F B as σ H o sl Q q => h1 F B as σ H o sl _ fun B1 as1 H1 g1 p1 o1 => by
  cases b with
  | false => exact h2 rfl F B1 as1 σ H1 o1 (sl.mono g1.1 p1) _ fun B2 as2 H2 g2 p2 o2 => q B2 as2 H2 (g1.trans g2) (p1.trans p2) o2
  | true => exact q B1 as1 H1 g1 p1 (h3 rfl ▸ o1)
theorem et_not (h1 : EvT K t G M b M1) : EvT K (tNot t) G M (!b) M1 := fun F B as σ H o sl Q q => h1 F B as σ H o sl _ q
theorem et_is {c : Bool} (h : EvT K t G M b M1) (e : b = c) : EvT K t G M c M1 := e ▸ h
theorem ev_andV {a c : Bool} (h1 : EvE K ta G M (.d (.bl a)) M1) (h2 : a = true → EvE K tb G M1 (.d (.bl c)) M2) (h3 : a = false → M1 = M2) : EvE K (tAndV ta tb) G M (.d (.bl (a && c))) M2 := fun F B as σ H o sl Q q =>
  h1 F B as σ H o sl _ fun v B1 as1 H1 g1 p1 o1 r1 => ⟨a, r1, by
    cases a with
    | true => exact h2 rfl F B1 as1 σ H1 o1 (sl.mono g1.1 p1) _ fun w B2 as2 H2 g2 p2 o2 r2 => q w B2 as2 H2 (g1.trans g2) (p1.trans p2) o2 r2
    | false => exact q (.bl false) B1 as1 H1 g1 p1 (h3 rfl ▸ o1) rfl⟩
theorem ev_orV {a c : Bool} (h1 : EvE K ta G M (.d (.bl a)) M1) (h2 : a = false → EvE K tb G M1 (.d (.bl c)) M2) (h3 : a = true → M1 = M2) : EvE K (tOrV ta tb) G M (.d (.bl (a || c))) M2 := fun F B as σ H o sl Q q =>
  h1 F B as σ H o sl _ fun v B1 as1 H1 g1 p1 o1 r1 => ⟨a, r1, by
    cases a with
    | false => exact h2 rfl F B1 as1 σ H1 o1 (sl.mono g1.1 p1) _ fun w B2 as2 H2 g2 p2 o2 r2 => q w B2 as2 H2 (g1.trans g2) (p1.trans p2) o2 r2
    | true => exact q (.bl true) B1 as1 H1 g1 p1 (h3 rfl ▸ o1) rfl⟩
theorem ev_notV {a : Bool} (h1 : EvE K ta G M (.d (.bl a)) M1) : EvE K (tNotV ta) G M (.d (.bl (!a))) M1 := fun F B as σ H o sl Q q =>
  h1 F B as σ H o sl _ fun v B1 as1 H1 g1 p1 o1 r1 => ⟨a, r1, q _ B1 as1 H1 g1 p1 o1 rfl⟩
theorem ev_if (h : EvT K t G M b M1) (h1 : b = true → EvE K ta G M1 s M2) (h2 : b = false → EvE K tb G M1 s M2) : EvE K (tIf t ta tb) G M s M2 := fun F B as σ H o sl Q q => h F B as σ H o sl _ fun B1 as1 H1 g1 p1 o1 => by
  cases b with
  | true => exact h1 rfl F B1 as1 σ H1 o1 (sl.mono g1.1 p1) _ fun w B2 as2 H2 g2 p2 o2 r2 => q w B2 as2 H2 (g1.trans g2) (p1.trans p2) o2 r2
  | false => exact h2 rfl F B1 as1 σ H1 o1 (sl.mono g1.1 p1) _ fun w B2 as2 H2 g2 p2 o2 r2 => q w B2 as2 H2 (g1.trans g2) (p1.trans p2) o2 r2
/-- a written list, a written tuple: data -/
theorem ev_tup {tr : TA} {xs : List Dt} (ha : EvA K tr G M (xs.map Sl.d) M1) (hl : xs.length ≤ 1000) : EvE K (tTup tr) G M (.d (.tup xs)) M1 := fun F B as σ H o sl Q q =>
  ha F B as σ H o sl _ fun vs B1 as1 H1 g1 p1 o1 r1 => ⟨by rw [r1.len, List.length_map]; exact Nat.le_trans hl (by decide), fun p hp => by
    have g2 := o1.gr hp (.tup vs)
    exact q _ _ as1 _ (g1.trans g2) p1 (o1.new hp _) ⟨p, vs, rfl, .inl (.inl upd_same), RpL.mono g2.1 _ _ (SlL.data r1)⟩⟩
theorem ev_lst {tr : TA} {xs : List Dt} (ha : EvA K tr G M (xs.map Sl.d) M1) (hl : xs.length ≤ 1000) : EvE K (tLst tr) G M (.d (.lst xs)) M1 := fun F B as σ H o sl Q q =>
  ha F B as σ H o sl _ fun vs B1 as1 H1 g1 p1 o1 r1 => ⟨by rw [r1.len, List.length_map]; exact Nat.le_trans hl (by decide), fun p hp => by
    have g2 := o1.gr hp (.lst vs)
    exact q _ _ as1 _ (g1.trans g2) p1 (o1.new hp _) ⟨p, vs, rfl, .inl (.inl upd_same), RpL.mono g2.1 _ _ (SlL.data r1)⟩⟩
/-- a written list that will change -/
theorem ev_lstO {tr : TA} {xs : List Dt} (ha : EvA K tr G M (xs.map Sl.d) M1) (hl : xs.length ≤ 1000) : EvE K (tLst tr) G M (.o M1.length) (M1 ++ [.lst xs]) := fun F B as σ H o sl Q q =>
  ha F B as σ H o sl _ fun vs B1 as1 H1 g1 p1 o1 r1 => ⟨by rw [r1.len, List.length_map]; exact Nat.le_trans hl (by decide), fun p hp => by
    refine q _ B1 (as1 ++ [p]) _ g1 (p1.trans ⟨[p], rfl⟩) (o1.newO hp ⟨vs, upd_same, SlL.data r1⟩) ⟨p, ?_, rfl⟩
    rw [← o1.len, List.getElem?_append_right (Nat.le_refl _), Nat.sub_self]
    rfl⟩
end
end DJ
namespace DJ
open PySem PySem.Spec PyProof.Rows L2
/-! ### statements -/
inductive Out where
  | nx (G : List (Option Sl)) (M : List MO) | rt (r : Sl) (M : List MO) | bk (G : List (Option Sl)) (M : List MO) | ct (G : List (Option Sl)) (M : List MO)
def Gd (K : PySem.W.Frag) (F B : Hp) (as : List Addr) (D : Ends) : Out → Prop
  | .nx G M => ∀ B' as' σ' H', Gr F B B' → Px as as' → Ow K F B' as' M H' → Slt K B' as' G σ' → D.nx σ' H'
  | .rt r M => ∀ v B' as' H', Gr F B B' → Px as as' → Ow K F B' as' M H' → SlR K B' as' r v → D.rt v H'
  | .bk G M => ∀ B' as' σ' H', Gr F B B' → Px as as' → Ow K F B' as' M H' → Slt K B' as' G σ' → D.bk σ' H'
  | .ct G M => ∀ B' as' σ' H', Gr F B B' → Px as as' → Ow K F B' as' M H' → Slt K B' as' G σ' → D.ct σ' H'
def EvS (K : PySem.W.Frag) (ts : TS) (G : List (Option Sl)) (M : List MO) (o : Out) : Prop :=
  ∀ F B as σ H, Ow K F B as M H → Slt K B as G σ → ∀ D : Ends, Gd K F B as D o → ts D σ H
section
variable {K : PySem.W.Frag} {F B B1 : Hp} {as as1 : List Addr} {D : Ends} {o : Out} {G G1 G2 G' : List (Option Sl)} {M M1 M2 M' : List MO} {t u : TS} {te ta tb to ti : TE} {s : Sl} {b : Bool} {tt : TT} {x y z : Dt}
theorem Gd.later (g : Gr F B B1) (p : Px as as1) (h : Gd K F B as D o) : Gd K F B1 as1 D o := by
  cases o with
  | nx G M => exact fun B' as' σ' H' g' p' => h B' as' σ' H' (g.trans g') (p.trans p')
  | rt r M => exact fun v B' as' H' g' p' => h v B' as' H' (g.trans g') (p.trans p')
  | bk G M => exact fun B' as' σ' H' g' p' => h B' as' σ' H' (g.trans g') (p.trans p')
  | ct G M => exact fun B' as' σ' H' g' p' => h B' as' σ' H' (g.trans g') (p.trans p')
theorem es_seq (h1 : EvS K t G M (.nx G1 M1)) (h2 : EvS K u G1 M1 o) : EvS K (tSeq t u) G M o := fun F B as σ H ow sl D gd =>
  h1 F B as σ H ow sl { D with nx := u D } fun B' as' σ' H' g p o' s' => h2 F B' as' σ' H' o' s' D (gd.later g p)
theorem es_seqR {r : Sl} (h1 : EvS K t G M (.rt r M1)) : EvS K (tSeq t u) G M (.rt r M1) := fun F B as σ H ow sl D gd => h1 F B as σ H ow sl { D with nx := u D } gd
theorem es_seqB (h1 : EvS K t G M (.bk G1 M1)) : EvS K (tSeq t u) G M (.bk G1 M1) := fun F B as σ H ow sl D gd => h1 F B as σ H ow sl { D with nx := u D } gd
theorem es_seqC (h1 : EvS K t G M (.ct G1 M1)) : EvS K (tSeq t u) G M (.ct G1 M1) := fun F B as σ H ow sl D gd => h1 F B as σ H ow sl { D with nx := u D } gd
theorem es_next : EvS K tNext G M (.nx G M) := fun F B as σ H ow sl D gd => gd B as σ H (Gr.refl F B) (Px.refl as) ow sl
theorem es_brk : EvS K tBreak G M (.bk G M) := fun F B as σ H ow sl D gd => gd B as σ H (Gr.refl F B) (Px.refl as) ow sl
theorem es_cont : EvS K tCont G M (.ct G M) := fun F B as σ H ow sl D gd => gd B as σ H (Gr.refl F B) (Px.refl as) ow sl
theorem es_asg {i : Nat} (h : EvE K te G M s M1) : EvS K (tAsg te (gName i)) G M (.nx (G.set i (some s)) M1) := fun F B as σ H ow sl D gd =>
  h F B as σ H ow sl _ fun v B' as' H' g p o' r => gd B' as' _ H' g p o' ((sl.mono g.1 p).set i r)
theorem es_drop (h : EvE K te G M s M1) : EvS K (tDrop te) G M (.nx G M1) := fun F B as σ H ow sl D gd =>
  h F B as σ H ow sl _ fun v B' as' H' g p o' r => gd B' as' _ H' g p o' (sl.mono g.1 p)
theorem es_ret (h : EvE K te G M s M1) : EvS K (tRet te) G M (.rt s M1) := fun F B as σ H ow sl D gd =>
  h F B as σ H ow sl _ fun v B' as' H' g p o' r => gd v B' as' H' g p o' r
theorem es_retN : EvS K tRetN G M (.rt (.d .non) M) := fun F B as σ H ow sl D gd => gd .non B as H (Gr.refl F B) (Px.refl as) ow rfl
theorem es_if (h : EvT K tt G M b M1) (h1 : b = true → EvS K t G M1 o) (h2 : b = false → EvS K u G M1 o) : EvS K (tIfS tt t u) G M o := fun F B as σ H ow sl D gd =>
  h F B as σ H ow sl _ fun B' as' H' g p o' => by
    cases b with
    | true => exact h1 rfl F B' as' σ H' o' (sl.mono g.1 p) D (gd.later g p)
    | false => exact h2 rfl F B' as' σ H' o' (sl.mono g.1 p) D (gd.later g p)
/-- fewer slots known -/
def Lg (G G' : List (Option Sl)) : Prop := G.length = G'.length ∧ ∀ (i : Nat) (s : Sl), G'[i]? = some (some s) → G[i]? = some (some s)
theorem Lg.refl (G : List (Option Sl)) : Lg G G := ⟨rfl, fun _ _ h => h⟩
theorem Slt.weak {σ : L2.St} (h : Slt K B as G σ) (l : Lg G G') : Slt K B as G' σ := ⟨h.1.trans l.1, fun i s q => h.2 i s (l.2 i s q)⟩
theorem es_pre (l : Lg G G') (h : EvS K t G' M o) : EvS K t G M o := fun F B as σ H ow sl D gd => h F B as σ H ow (sl.weak l) D gd
theorem es_nxw (h : EvS K t G M (.nx G1 M1)) (l : Lg G1 G2) : EvS K t G M (.nx G2 M1) := fun F B as σ H ow sl D gd => h F B as σ H ow sl D fun B' as' σ' H' g p o' s' => gd B' as' σ' H' g p o' (s'.weak l)
theorem lg_cons {a c : Option Sl} (h : Lg G G') (e : c = a ∨ c = none) : Lg (a :: G) (c :: G') := by
  refine ⟨by rw [List.length_cons, List.length_cons, h.1], fun i s q => ?_⟩
  cases i with
  | zero =>
    rcases e with e | e
    · rw [e] at q; exact q
    · rw [e] at q; cases q
  | succ i => exact h.2 i s q
theorem lg_nil : Lg [] [] := Lg.refl _
/-- a changing list becomes data -/
def frz (k : Nat) (xs : List Dt) : Option Sl → Option Sl
  | some (.o j) => if j = k then some (.d (.lst xs)) else some (.o j)
  | s => s
theorem es_freeze {k : Nat} {xs : List Dt} (hm : M[k]? = some (.lst xs)) (h : EvS K t (G.map (frz k xs)) (M.set k .gone) o) : EvS K t G M o := fun F B as σ H ow sl D gd => by
  have hk : k < as.length := by rw [ow.len]; exact (List.getElem?_eq_some_iff.mp hm).1
  obtain ⟨B', g, ow', rp⟩ := ow.freeze (List.getElem?_eq_getElem hk) hm
  refine h F B' as σ H ow' ⟨by rw [List.length_map]; exact sl.1, fun i s q => ?_⟩ D (gd.later g (Px.refl as))
  rw [List.getElem?_map] at q
  cases e : G[i]? with
  | none => rw [e] at q; cases q
  | some c =>
    rw [e] at q
    have q : frz k xs c = some s := Option.some.inj q
    cases c with
    | none => cases q
    | some c =>
      obtain ⟨v, hv, hr⟩ := sl.2 i c e
      refine ⟨v, hv, ?_⟩
      cases c with
      | d x =>
        cases q
        exact Rp.mono g.1 x v hr
      | o j =>
        unfold frz at q
        by_cases hj : j = k
        · simp only [if_pos hj] at q
          cases q
          subst hj
          obtain ⟨a, ha, rfl⟩ := hr
          rw [List.getElem?_eq_getElem hk] at ha
          cases ha
          exact rp
        · simp only [if_neg hj] at q
          cases q
          exact SlR.mono g.1 (Px.refl as) (s := .o j) hr
/-- what is returned is data by then -/
theorem ev_freeze {k : Nat} {xs : List Dt} (h : EvE K te G M (.o k) M1) (hm : M1[k]? = some (.lst xs)) : EvE K te G M (.d (.lst xs)) (M1.set k .gone) := fun F B as σ H ow sl Q q =>
  h F B as σ H ow sl _ fun v B1 as1 H1 g p o1 r => by
    obtain ⟨a, ha, rfl⟩ := r
    obtain ⟨B', g', ow', rp⟩ := o1.freeze ha hm
    exact q _ B' as1 H1 (g.trans g') p ow' rp
/-! ### targets -/
def EvG (K : PySem.W.Frag) (g : TG) (G : List (Option Sl)) (x : Sl) (G' : List (Option Sl)) : Prop :=
  ∀ F B as M σ H v, Ow K F B as M H → Slt K B as G σ → SlR K B as x v → ∀ Q : L2.St → Hp → Prop, (∀ B' as' σ' H', Gr F B B' → Px as as' → Ow K F B' as' M H' → Slt K B' as' G' σ' → Q σ' H') → g v σ H Q
theorem eg_name {i : Nat} : EvG K (gName i) G s (G.set i (some s)) := fun F B as M σ H v ow sl r Q q => q B as _ H (Gr.refl F B) (Px.refl as) ow (sl.set i r)
def EvGs (K : PySem.W.Frag) (g : TGs) (G : List (Option Sl)) (xs : List Dt) (G' : List (Option Sl)) : Prop :=
  ∀ F B as M σ H vs, Ow K F B as M H → Slt K B as G σ → RpL K B xs vs → ∀ Q : L2.St → Hp → Prop, (∀ B' as' σ' H', Gr F B B' → Px as as' → Ow K F B' as' M H' → Slt K B' as' G' σ' → Q σ' H') → g vs σ H Q
theorem egs_nil : EvGs K gNil G [] G := fun F B as M σ H vs ow sl r Q q => ⟨r, q B as _ H (Gr.refl F B) (Px.refl as) ow sl⟩
theorem egs_cons {t : TG} {u : TGs} {xs : List Dt} (h1 : EvG K t G (.d x) G1) (h2 : EvGs K u G1 xs G2) : EvGs K (gCons t u) G (x :: xs) G2 := fun F B as M σ H vs ow sl r Q q => by
  obtain ⟨v, r', e, r1, r2⟩ := r
  exact ⟨v, r', e, h1 F B as M σ H v ow sl r1 _ fun B1 as1 σ1 H1 g1 p1 o1 s1 => h2 F B1 as1 M σ1 H1 r' o1 s1 (RpL.mono g1.1 _ _ r2) _ fun B2 as2 σ2 H2 g2 p2 o2 s2 => q B2 as2 σ2 H2 (g1.trans g2) (p1.trans p2) o2 s2⟩
theorem eg_tup {t : TGs} {xs : List Dt} {n : Nat} (h : EvGs K t G xs G1) (hn : xs.length = n) : EvG K (gTup K n t) G (.d (.tup xs)) G1 := fun F B as M σ H v ow sl r Q q => by
  obtain ⟨a, vs, e, h1, h2⟩ := r
  exact ⟨a, vs, e, same_t ow.bb h1, h2.len.trans hn, h F B as M σ H vs ow sl h2 Q q⟩
theorem es_asgG {g : TG} (h : EvE K te G M s M1) (hg : EvG K g G s G1) : EvS K (tAsg te g) G M (.nx G1 M1) := fun F B as σ H ow sl D gd =>
  h F B as σ H ow sl _ fun v B' as' H' g p o' r => hg F B' as' M1 σ H' v o' (sl.mono g.1 p) r _ fun B2 as2 σ2 H2 g2 p2 o2 s2 => gd B2 as2 σ2 H2 (g.trans g2) (p.trans p2) o2 s2
theorem es_par {i j : Nat} {t : TA} {x y : Sl} (h : EvA K t G M [x, y] M1) : EvS K (tPar i j t) G M (.nx ((G.set i (some x)).set j (some y)) M1) := fun F B as σ H ow sl D gd =>
  h F B as σ H ow sl _ fun vs B' as' H' g p o' r => by
    obtain ⟨v, r1, e1, h1, w, r2, e2, h2, e3⟩ := r
    have e3 : r2 = [] := e3
    subst e3; subst e2; subst e1
    exact ⟨v, w, rfl, gd B' as' _ H' g p o' (((sl.mono g.1 p).set i h1).set j h2)⟩
/-! ### what is walked -/
def Yl (K : PySem.W.Frag) (B0 : Hp) (J : It) (xs : List Dt) : Prop :=
  ∀ F B as M H (i : Nat), Same B0 B → Ow K F B as M H → (∀ x, xs[i]? = some x → J.go i H ∧ ∀ v H', J.yld i H v H' → ∃ B', Gr F B B' ∧ Ow K F B' as M H' ∧ Rp K B' x v) ∧ (xs.length ≤ i → J.stop i H)
def EvI (K : PySem.W.Frag) (wi : TI) (G : List (Option Sl)) (M : List MO) (xs : List Dt) (M' : List MO) : Prop :=
  ∀ F B as σ H, Ow K F B as M H → Slt K B as G σ → ∀ R : It → Hp → Prop, (∀ J B' as' H', Gr F B B' → Px as as' → Ow K F B' as' M' H' → Yl K B' J xs → R J H') → wi σ H R
theorem yl_list {a : Addr} {vs : List V} {xs : List Dt} (h : SqL K B a vs) (r : RpL K B xs vs) : Yl K B (Itl K a) xs := fun F B' as M H i e ow => by
  have h1 : SqL K H a vs := ow.bb.seq (e.seq h)
  refine ⟨fun x hx => ?_, fun hi => ⟨vs, h1, by rw [r.len]; exact hi⟩⟩
  obtain ⟨v, hv, hr⟩ := r.get hx
  refine ⟨⟨vs, v, h1, hv⟩, fun w H' y => ?_⟩
  obtain ⟨rfl, y⟩ := y
  have e2 : v = w := Option.some.inj (hv.symm.trans (y vs h1))
  exact ⟨B', Gr.refl F B', ow, e2 ▸ Rp.mono e _ _ hr⟩
theorem yl_tup {a : Addr} {vs : List V} {xs : List Dt} (h : SqT K B a vs) (r : RpL K B xs vs) : Yl K B (Itt K a) xs := fun F B' as M H i e ow => by
  have h1 : SqT K H a vs := same_t ow.bb (same_t e h)
  refine ⟨fun x hx => ?_, fun hi => ⟨vs, h1, by rw [r.len]; exact hi⟩⟩
  obtain ⟨v, hv, hr⟩ := r.get hx
  refine ⟨⟨vs, v, h1, hv⟩, fun w H' y => ?_⟩
  obtain ⟨rfl, y⟩ := y
  have e2 : v = w := Option.some.inj (hv.symm.trans (y vs h1))
  exact ⟨B', Gr.refl F B', ow, e2 ▸ Rp.mono e _ _ hr⟩
theorem yl_str {l : List Nat} : Yl K B (Its (tx l)) (l.map fun c => .str [c]) := fun F B' as M H i e ow => by
  refine ⟨fun x hx => ?_, fun hi => ?_⟩
  · rw [List.getElem?_map] at hx
    cases hc : l[i]? with
    | none => rw [hc] at hx; cases hx
    | some c =>
      rw [hc] at hx
      have hx : Dt.str [c] = x := Option.some.inj hx
      subst hx
      refine ⟨?_, fun v H' y => ?_⟩
      · show i < l.toArray.size
        rw [List.size_toArray]
        exact (List.getElem?_eq_some_iff.mp hc).1
      · obtain ⟨rfl, c', h1, rfl⟩ := y
        refine ⟨B', Gr.refl F B', ow, ?_⟩
        have h2 : l[i]? = some c' := by
          rw [show (tx l).cps = l.toArray from rfl, List.getElem?_toArray] at h1
          exact h1
        rw [hc] at h2
        cases h2
        rfl
  · show l.toArray.size ≤ i
    rw [List.size_toArray]
    rw [List.length_map] at hi
    exact hi
theorem yl_rng {lo : Int} {n : Nat} : Yl K B (Itr lo n) ((List.range n).map fun (i : Nat) => .int (lo + i)) := fun F B' as M H i e ow => by
  refine ⟨fun x hx => ?_, fun hi => ?_⟩
  · rw [List.getElem?_map] at hx
    by_cases hi : i < n
    · rw [List.getElem?_range hi] at hx
      have hx : Dt.int (lo + i) = x := Option.some.inj hx
      subst hx
      refine ⟨hi, fun v H' y => ?_⟩
      obtain ⟨rfl, rfl⟩ := y
      exact ⟨B', Gr.refl F B', ow, rfl⟩
    · rw [List.getElem?_eq_none (by rw [List.length_range]; omega)] at hx
      cases hx
  · rw [List.length_map, List.length_range] at hi
    exact hi
/-- the pairs of a walk with numbers -/
def enumD (n : Nat) : List Dt → List Dt
  | [] => []
  | x :: xs => .tup [.int (n : Nat), x] :: enumD (n + 1) xs
theorem enumD_get : ∀ (xs : List Dt) (n i : Nat), (enumD n xs)[i]? = (xs[i]?).map fun x => .tup [.int ((n + i : Nat) : Nat), x]
  | [], n, i => by simp [enumD]
  | x :: xs, n, 0 => by simp [enumD]
  | x :: xs, n, i + 1 => by
    rw [enumD, List.getElem?_cons_succ, List.getElem?_cons_succ, enumD_get xs (n + 1) i, Nat.add_right_comm]
    rfl
theorem enumD_len : ∀ (xs : List Dt) (n : Nat), (enumD n xs).length = xs.length
  | [], _ => rfl
  | x :: xs, n => by rw [enumD, List.length_cons, List.length_cons, enumD_len]
theorem yl_enum {a : Addr} {vs : List V} {xs : List Dt} (h : SqL K B a vs) (r : RpL K B xs vs) : Yl K B (Ite K a) (enumD 0 xs) := fun F B' as M H i e ow => by
  have h1 : SqL K H a vs := ow.bb.seq (e.seq h)
  refine ⟨fun x hx => ?_, fun hi => ⟨vs, h1, by rw [r.len]; rw [enumD_len] at hi; exact hi⟩⟩
  rw [enumD_get] at hx
  cases hy : xs[i]? with
  | none => rw [hy] at hx; cases hx
  | some y =>
    rw [hy] at hx
    have hx : Dt.tup [.int ((0 + i : Nat) : Nat), y] = x := Option.some.inj hx
    subst hx
    obtain ⟨v, hv, hr⟩ := r.get hy
    refine ⟨⟨vs, v, h1, hv⟩, fun w H' yl => ?_⟩
    obtain ⟨T, u, rfl, hT, rfl, hu⟩ := yl
    have e2 : v = u := Option.some.inj (hv.symm.trans (hu vs h1))
    subst e2
    have hg := ow.gr hT (.tup [.int (i : Nat), v])
    refine ⟨_, hg, ow.new hT _, T, _, rfl, .inl (.inl upd_same), _, _, rfl, ?_, _, _, rfl, Rp.mono (e.trans hg.1) _ _ hr, rfl⟩
    rw [Nat.zero_add]
    rfl
theorem ei_list {xs : List Dt} (h : EvE K te G M (.d (.lst xs)) M1) : EvI K (iList K te) G M xs M1 := fun F B as σ H ow sl R q =>
  h F B as σ H ow sl _ fun v B' as' H' g p o' r => by
    obtain ⟨a, vs, e, h1, h2⟩ := r
    exact ⟨a, e, ⟨vs, o'.bb.seq h1⟩, q _ B' as' H' g p o' (yl_list h1 h2)⟩
theorem ei_tup {xs : List Dt} (h : EvE K te G M (.d (.tup xs)) M1) : EvI K (iTup K te) G M xs M1 := fun F B as σ H ow sl R q =>
  h F B as σ H ow sl _ fun v B' as' H' g p o' r => by
    obtain ⟨a, vs, e, h1, h2⟩ := r
    exact ⟨a, e, ⟨vs, same_t o'.bb h1⟩, q _ B' as' H' g p o' (yl_tup h1 h2)⟩
theorem ei_str {l : List Nat} (h : EvE K te G M (.d (.str l)) M1) : EvI K (iStr te) G M (l.map fun c => .str [c]) M1 := fun F B as σ H ow sl R q =>
  h F B as σ H ow sl _ fun v B' as' H' g p o' r => ⟨tx l, r, q _ B' as' H' g p o' yl_str⟩
theorem ei_rng1 {ta : TA} {n : Int} (h : EvA K ta G M [.d (.int n)] M1) (hn : -(2 ^ 62) ≤ n ∧ n < 2 ^ 62) : EvI K (iRng1 ta) G M ((List.range n.toNat).map fun (i : Nat) => .int (0 + i)) M1 := fun F B as σ H ow sl R q =>
  h F B as σ H ow sl _ fun vs B' as' H' g p o' r => by
    obtain ⟨v, r1, e1, h1, e2⟩ := r
    have e2 : r1 = [] := e2
    subst e2; subst e1
    have h1 : v = V.int n := h1
    subst h1
    exact ⟨n, rfl, hn.1, hn.2, q _ B' as' H' g p o' yl_rng⟩
theorem ei_rng2 {ta : TA} {m n : Int} (h : EvA K ta G M [.d (.int m), .d (.int n)] M1) (hn : (-(2 ^ 62) ≤ m ∧ m < 2 ^ 62) ∧ -(2 ^ 62) ≤ n ∧ n < 2 ^ 62) : EvI K (iRng2 ta) G M ((List.range (n - m).toNat).map fun (i : Nat) => .int (m + i)) M1 := fun F B as σ H ow sl R q =>
  h F B as σ H ow sl _ fun vs B' as' H' g p o' r => by
    obtain ⟨v, r1, e1, h1, w, r2, e2, h2, e3⟩ := r
    have e3 : r2 = [] := e3
    subst e3; subst e2; subst e1
    have h1 : v = V.int m := h1
    have h2 : w = V.int n := h2
    subst h1; subst h2
    exact ⟨m, n, rfl, ⟨hn.1.1, hn.1.2, hn.2.1, hn.2.2⟩, q _ B' as' H' g p o' yl_rng⟩
theorem ei_enum {ta : TA} {xs : List Dt} (h : EvA K ta G M [.d (.lst xs)] M1) : EvI K (iEnum K ta) G M (enumD 0 xs) M1 := fun F B as σ H ow sl R q =>
  h F B as σ H ow sl _ fun vs B' as' H' g p o' r => by
    obtain ⟨v, r1, e1, h1, e2⟩ := r
    have e2 : r1 = [] := e2
    subst e2; subst e1
    obtain ⟨a, us, e, q1, q2⟩ := h1
    subst e
    exact ⟨a, us, rfl, o'.bb.seq q1, q _ B' as' H' g p o' (yl_enum q1 q2)⟩
/-! ### for -/
def loopF {α β : Type} (step : α → β → α ⊕ Out) : List β → α → α ⊕ Out
  | [], a => .inl a
  | x :: xs, a => match step a x with
    | .inl a' => loopF step xs a'
    | .inr o => .inr o
theorem loopF_take {α β : Type} (step : α → β → α ⊕ Out) : ∀ (xs : List β) (i : Nat) (a0 a : α) (x : β), xs[i]? = some x → loopF step (xs.take i) a0 = .inl a →
    loopF step (xs.take (i + 1)) a0 = step a x ∧ (∀ o, step a x = .inr o → loopF step xs a0 = .inr o)
  | [], i, a0, a, x, h, _ => by simp at h
  | y :: ys, 0, a0, a, x, h, h2 => by
    have e1 : y = x := by simpa using h
    have e2 : a0 = a := by simpa [loopF] using h2
    subst e1; subst e2
    refine ⟨?_, fun o ho => ?_⟩
    · simp only [List.take_succ_cons, List.take_zero, loopF]
      cases step a0 y <;> rfl
    · simp only [loopF, ho]
  | y :: ys, i + 1, a0, a, x, h, h2 => by
    simp only [List.take_succ_cons, loopF] at h2 ⊢
    cases e : step a0 y with
    | inr o => rw [e] at h2; cases h2
    | inl a1 =>
      rw [e] at h2
      exact loopF_take step ys i a1 a x (by simpa using h) h2
def outF {α : Type} (enc : α → List (Option Sl)) (encM : α → List MO) : α ⊕ Out → Out
  | .inl a => .nx (enc a) (encM a)
  | .inr o => o
/-- a turn's end: on, or out -/
def Turns (K : PySem.W.Frag) {α : Type} (enc : α → List (Option Sl)) (encM : α → List MO) (tb : TS) (G : List (Option Sl)) (M : List MO) : α ⊕ Out → Prop
  | .inl a => EvS K tb G M (.nx (enc a) (encM a)) ∨ EvS K tb G M (.ct (enc a) (encM a))
  | .inr (.nx G' M') => EvS K tb G M (.bk G' M')
  | .inr (.rt r M') => EvS K tb G M (.rt r M')
  | .inr (.bk _ _) => False
  | .inr (.ct _ _) => False
theorem es_for {α β : Type} {wi : TI} {g : TG} {tb : TS} (xs : List β) (en : β → Dt) (enc : α → List (Option Sl)) (encM : α → List MO) (step : α → β → α ⊕ Out) (a0 : α)
    (hI : EvI K wi G M (xs.map en) (encM a0)) (h0 : Lg G (enc a0)) (turn : ∀ a x, x ∈ xs → ∃ G1, EvG K g (enc a) (.d (en x)) G1 ∧ Turns K enc encM tb G1 (encM a) (step a x)) :
    EvS K (tFor wi g tb) G M (outF enc encM (loopF step xs a0)) := fun F B as σ H ow sl D gd => by
  refine hI F B as σ H ow sl _ fun J B1 as1 H1 g1 p1 o1 yl => ?_
  refine ⟨fun i m σ' H' => ∃ B' as' a, m = xs.length - i ∧ i ≤ xs.length ∧ loopF step (xs.take i) a0 = .inl a ∧ Gr F B1 B' ∧ Px as1 as' ∧ Ow K F B' as' (encM a) H' ∧ Slt K B' as' (enc a) σ', ⟨xs.length, B1, as1, a0, by simp, Nat.zero_le _, by simp [loopF], Gr.refl F B1, Px.refl as1, o1, (sl.mono g1.1 p1).weak h0⟩, fun i m σ' H' w => ?_⟩
  obtain ⟨B', as', a, rfl, hi, hl, g', p', o', s'⟩ := w
  obtain ⟨y1, y2⟩ := yl F B' as' (encM a) H' i g'.1 o'
  by_cases hlt : i < xs.length
  · have hx : xs[i]? = some xs[i] := List.getElem?_eq_getElem hlt
    obtain ⟨go, yld⟩ := y1 (en xs[i]) (by rw [List.getElem?_map, hx] <;> rfl)
    obtain ⟨l1, l2⟩ := loopF_take step xs i a0 a _ hx hl
    refine .inr ⟨go, fun σ2 H2 => ∃ B' as' a, i + 1 ≤ xs.length ∧ loopF step (xs.take (i + 1)) a0 = .inl a ∧ Gr F B1 B' ∧ Px as1 as' ∧ Ow K F B' as' (encM a) H2 ∧ Slt K B' as' (enc a) σ2, fun σ2 H2 n2 => ?_, fun v H2 yv => ?_⟩
    · obtain ⟨B2, as2, a2, q1, q2, q3, q4, q5, q6⟩ := n2
      exact ⟨xs.length - (i + 1), by omega, B2, as2, a2, rfl, q1, q2, q3, q4, q5, q6⟩
    · obtain ⟨B2, g2, o2, r2⟩ := yld v H2 yv
      obtain ⟨G1, hg, ht⟩ := turn a xs[i] (List.getElem_mem hlt)
      refine hg F B2 as' (encM a) σ' H2 v o2 (s'.mono g2.1 (Px.refl as')) r2 _ fun B3 as3 σ3 H3 g3 p3 o3 s3 => ?_
      have gg : Gr F B1 B3 := g'.trans (g2.trans g3)
      have pp : Px as1 as3 := p'.trans p3
      cases e : step a xs[i] with
      | inl a' =>
        rw [e] at ht l1
        rcases ht with ht | ht
        · exact ht F B3 as3 σ3 H3 o3 s3 _ fun B4 as4 σ4 H4 g4 p4 o4 s4 => ⟨B4, as4, a', hlt, l1, gg.trans g4, pp.trans p4, o4, s4⟩
        · exact ht F B3 as3 σ3 H3 o3 s3 _ fun B4 as4 σ4 H4 g4 p4 o4 s4 => ⟨B4, as4, a', hlt, l1, gg.trans g4, pp.trans p4, o4, s4⟩
      | inr o =>
        rw [e] at ht
        rw [l2 o e] at gd
        cases o with
        | nx G' M' => exact ht F B3 as3 σ3 H3 o3 s3 _ fun B4 as4 σ4 H4 g4 p4 o4 s4 => gd B4 as4 σ4 H4 (g1.trans (gg.trans g4)) (p1.trans (pp.trans p4)) o4 s4
        | rt r M' => exact ht F B3 as3 σ3 H3 o3 s3 _ fun v B4 as4 H4 g4 p4 o4 s4 => gd v B4 as4 H4 (g1.trans (gg.trans g4)) (p1.trans (pp.trans p4)) o4 s4
        | bk _ _ => exact ht.elim
        | ct _ _ => exact ht.elim
  · have e : i = xs.length := by omega
    subst e
    rw [List.take_length] at hl
    rw [hl] at gd
    exact .inl ⟨y2 (by rw [List.length_map]; exact Nat.le_refl _), gd B' as' σ' H' (g1.trans g') (p1.trans p') o' s'⟩
/-! ### while -/
theorem es_while {α : Type} {tb : TS} (enc : α → List (Option Sl)) (encM : α → List MO) (P : α → Prop) (c : α → Bool) (f : α → α ⊕ Out) (μ : α → Nat) (w : α → α ⊕ Out) (a0 : α) (hp : P a0)
    (hw : ∀ a, P a → w a = if c a = true then (match f a with | .inl a' => w a' | .inr o => .inr o) else .inl a)
    (h0 : Lg G (enc a0)) (hM : M = encM a0) (test : ∀ a, P a → EvT K tt (enc a) (encM a) (c a) (encM a))
    (turn : ∀ a, P a → c a = true → Turns K enc encM tb (enc a) (encM a) (f a) ∧ ∀ a', f a = .inl a' → P a' ∧ μ a' < μ a) :
    EvS K (tWhile tt tb) G M (outF enc encM (w a0)) := fun F B as σ H ow sl D gd => by
  subst hM
  refine ⟨fun m σ' H' => ∃ B' as' a, m = μ a ∧ P a ∧ w a = w a0 ∧ Gr F B B' ∧ Px as as' ∧ Ow K F B' as' (encM a) H' ∧ Slt K B' as' (enc a) σ', ⟨μ a0, B, as, a0, rfl, hp, rfl, Gr.refl F B, Px.refl as, ow, sl.weak h0⟩, fun m σ' H' q => ?_⟩
  obtain ⟨B1, as1, a, rfl, pa, wa, g1, p1, o1, s1⟩ := q
  refine test a pa F B1 as1 σ' H' o1 s1 _ fun B2 as2 H2 g2 p2 o2 => ?_
  have hwa := hw a pa
  cases ec : c a with
  | false =>
    rw [ec] at hwa
    rw [if_neg Bool.false_ne_true] at hwa ⊢
    rw [← wa, hwa] at gd
    exact gd B2 as2 σ' H2 (g1.trans g2) (p1.trans p2) o2 (s1.mono g2.1 p2)
  | true =>
    rw [ec] at hwa
    rw [if_pos rfl] at hwa ⊢
    obtain ⟨ht, hd⟩ := turn a pa ec
    refine ⟨fun σ3 H3 => ∃ B' as' a', f a = .inl a' ∧ Gr F B B' ∧ Px as as' ∧ Ow K F B' as' (encM a') H3 ∧ Slt K B' as' (enc a') σ3, fun σ3 H3 n3 => ?_, ?_⟩
    · obtain ⟨B3, as3, a', e, q1, q2, q3, q4⟩ := n3
      obtain ⟨pa', lt⟩ := hd a' e
      rw [e] at hwa
      exact ⟨μ a', lt, B3, as3, a', rfl, pa', hwa.symm.trans wa, q1, q2, q3, q4⟩
    · have gg := g1.trans g2
      have pp := p1.trans p2
      cases e : f a with
      | inl a' =>
        rw [e] at ht
        rcases ht with ht | ht
        · exact ht F B2 as2 σ' H2 o2 (s1.mono g2.1 p2) _ fun B4 as4 σ4 H4 g4 p4 o4 s4 => ⟨B4, as4, a', rfl, gg.trans g4, pp.trans p4, o4, s4⟩
        · exact ht F B2 as2 σ' H2 o2 (s1.mono g2.1 p2) _ fun B4 as4 σ4 H4 g4 p4 o4 s4 => ⟨B4, as4, a', rfl, gg.trans g4, pp.trans p4, o4, s4⟩
      | inr o =>
        rw [e] at ht hwa
        rw [← wa, hwa] at gd
        cases o with
        | nx G' M' => exact ht F B2 as2 σ' H2 o2 (s1.mono g2.1 p2) _ fun B4 as4 σ4 H4 g4 p4 o4 s4 => gd B4 as4 σ4 H4 (gg.trans g4) (pp.trans p4) o4 s4
        | rt r M' => exact ht F B2 as2 σ' H2 o2 (s1.mono g2.1 p2) _ fun v B4 as4 H4 g4 p4 o4 s4 => gd v B4 as4 H4 (gg.trans g4) (pp.trans p4) o4 s4
        | bk _ _ => exact ht.elim
        | ct _ _ => exact ht.elim
end
end DJ
namespace DJ
open PySem PySem.Spec PyProof.Rows L2
/-! ### comprehensions -/
def wipeG (G : List (Option Sl)) : List Nat → List (Option Sl)
  | [] => G
  | v :: vs => (wipeG G vs).set v none
theorem slt_none {K : PySem.W.Frag} {B : Hp} {as : List Addr} {G : List (Option Sl)} {σ : L2.St} (h : Slt K B as G σ) (i : Nat) (o : Option V) : Slt K B as (G.set i none) (σ.set i o) := by
  refine ⟨by rw [List.length_set, List.length_set]; exact h.1, fun j s' q => ?_⟩
  by_cases e : i = j
  · subst e
    rw [List.getElem?_set] at q
    simp at q
  · rw [List.getElem?_set_ne e] at q
    obtain ⟨v', e1, h1⟩ := h.2 j s' q
    exact ⟨v', by rw [List.getElem?_set_ne e]; exact e1, h1⟩
theorem slt_wipe {K : PySem.W.Frag} {B : Hp} {as : List Addr} {G : List (Option Sl)} {σ : L2.St} (h : Slt K B as G σ) : ∀ vs : List Nat, Slt K B as (wipeG G vs) (wipe σ vs)
  | [] => h
  | v :: vs => slt_none (slt_wipe h vs) v none
/-- the targets' slots are wiped again -/
def GW (g : TG) (vs : List Nat) : Prop := ∀ v σ H Q, g v σ H (fun σ2 H2 => (wipe σ2 vs = wipe σ vs → Q σ2 H2)) → g v σ H Q
theorem wipe_len (σ : L2.St) (vs : List Nat) : (wipe σ vs).length = σ.length := wipe_length σ vs
theorem wipe_get (σ : L2.St) : ∀ (vs : List Nat) (i : Nat), (wipe σ vs)[i]? = if i ∈ vs then (if i < σ.length then some none else none) else σ[i]?
  | [], i => by simp [wipe]
  | v :: vs, i => by
    unfold wipe
    rw [List.getElem?_set, wipe_len, wipe_get σ vs i]
    by_cases e : v = i
    · subst e; simp
    · have : ¬ i = v := fun z => e z.symm
      simp [e, this]
theorem wipe_set {σ : L2.St} {vs : List Nat} {j : Nat} {x : Option V} (hj : j ∈ vs) : wipe (σ.set j x) vs = wipe σ vs := by
  refine List.ext_getElem? fun i => ?_
  rw [wipe_get, wipe_get, List.length_set]
  by_cases e : i ∈ vs
  · simp [e]
  · have : j ≠ i := fun z => e (z ▸ hj)
    simp only [e, if_false]
    rw [List.getElem?_set_ne this]
theorem wipe_wipe (σ : L2.St) (vs : List Nat) : wipe (wipe σ vs) vs = wipe σ vs := by
  refine List.ext_getElem? fun i => ?_
  rw [wipe_get, wipe_get, wipe_len]
  by_cases e : i ∈ vs
  · simp [e]
  · simp only [e, if_false, wipe_get]
/-- what is made, one after another, with what is owned between -/
def mapS {μ β : Type} (p : μ → β → Option (Dt × μ)) (q : μ → β → μ) : List β → μ → List Dt × μ
  | [], m => ([], m)
  | x :: xs, m => match p m x with
    | some (y, m') => (y :: (mapS p q xs m').1, (mapS p q xs m').2)
    | none => mapS p q xs (q m x)
theorem mapS_take {μ β : Type} (p : μ → β → Option (Dt × μ)) (q : μ → β → μ) : ∀ (xs : List β) (i : Nat) (m : μ) (x : β), xs[i]? = some x →
    mapS p q (xs.take (i + 1)) m = (match p (mapS p q (xs.take i) m).2 x with
      | some (y, m') => ((mapS p q (xs.take i) m).1 ++ [y], m')
      | none => ((mapS p q (xs.take i) m).1, q (mapS p q (xs.take i) m).2 x))
  | [], i, m, x, h => by simp at h
  | y :: ys, 0, m, x, h => by
    have e1 : y = x := by simpa using h
    subst e1
    simp only [List.take_succ_cons, List.take_zero, mapS]
    cases p m y <;> rfl
  | y :: ys, i + 1, m, x, h => by
    have h : ys[i]? = some x := by simpa using h
    simp only [List.take_succ_cons, mapS]
    cases e : p m y with
    | none => exact mapS_take p q ys i _ x h
    | some r =>
      simp only [mapS_take p q ys i r.2 x h]
      cases p (mapS p q (ys.take i) r.2).2 x <;> rfl
theorem mapS_len {μ β : Type} (p : μ → β → Option (Dt × μ)) (q : μ → β → μ) : ∀ (xs : List β) (m : μ), (mapS p q xs m).1.length ≤ xs.length
  | [], m => Nat.le_refl _
  | x :: xs, m => by
    simp only [mapS]
    cases p m x with
    | none => exact Nat.le_succ_of_le (mapS_len p q xs _)
    | some r => exact Nat.succ_le_succ (mapS_len p q xs _)
section
variable {K : PySem.W.Frag} {F B B1 H : Hp} {as as1 : List Addr} {G G1 G2 G' : List (Option Sl)} {M M1 M2 M' : List MO} {te ta tb to ti : TE} {s : Sl} {b : Bool} {tt : TT} {x y z : Dt}
/-- a thing at the side: neither owned nor data -/
theorem Ow.aside {D : Addr} {o o' : HO} (h : Ow K (upd F D o) B as M H) (fD : F D = none) (bD : B D = none) : Ow K F B as M (upd H D o') := by
  refine ⟨fun a u e => ?_, fun a u e => ?_, h.len, h.nd, fun a ha => ?_, fun a ha => ?_, fun k a m e1 e2 hm => ?_⟩
  · have ne := ne_of_none e fD
    rw [upd_ne ne]
    exact h.fb a u (by rw [upd_ne ne]; exact e)
  · rw [upd_ne (ne_of_none e bD)]
    exact h.bb a u e
  · by_cases e : a = D
    · rw [e, upd_same]; exact fun z => nomatch z
    · rw [upd_ne e]; exact h.al a ha
  · have q1 := h.fa a ha
    rw [upd_ne (fun e => by rw [e, upd_same] at q1; cases q1)] at q1
    exact q1
  · obtain ⟨q1, q2, q3⟩ := h.own k a m e1 e2 hm
    have ne : a ≠ D := fun e => by rw [e, upd_same] at q1; cases q1
    rw [upd_ne ne] at q1
    exact ⟨q1, q2, MoR.mono (Same.refl B) (upd_ne ne) q3⟩
theorem Ow.out {D : Addr} {o : HO} (h : Ow K (upd F D o) B as M H) : D ∉ as := fun m => by
  have q1 := h.fa D m
  rw [upd_same] at q1
  cases q1
theorem Ow.side {D : Addr} {o : HO} (h : Ow K F B as M H) (hD : H D = some o) (fD : F D = none) (ns : D ∉ as) : Ow K (upd F D o) B as M H := by
  refine ⟨fun a u e => ?_, h.bb, h.len, h.nd, h.al, fun a ha => by rw [upd_ne (fun e : a = D => ns (e ▸ ha))]; exact h.fa a ha, fun k a m e1 e2 hm => ?_⟩
  · by_cases z : a = D
    · rw [z, upd_same] at e; rw [z, ← e]; exact hD
    · rw [upd_ne z] at e; exact h.fb a u e
  · obtain ⟨q1, q2, q3⟩ := h.own k a m e1 e2 hm
    have ne : a ≠ D := fun e : a = D => ns (e ▸ List.mem_of_getElem? e1)
    exact ⟨by rw [upd_ne ne]; exact q1, q2, q3⟩
theorem Gr.of_side {D : Addr} {us : List V} (h : Gr (upd F D (.lst us)) B B1) : Gr F B B1 := ⟨h.1, fun a f n => h.2 a (by
  by_cases e : a = D
  · rw [e, upd_same]; exact kp_lst
  · rw [upd_ne e]; exact f) n⟩
/-- the core: D holds what was made -/
theorem ev_lcAny {μ β : Type} {wi : TI} {g : TG} {tt : TT} {vs : List Nat} (xs : List β) (en : β → Dt) (encM : μ → List MO) (p : μ → β → Option (Dt × μ)) (q : μ → β → μ) (m0 : μ)
    (hI : EvI K wi G M (xs.map en) (encM m0)) (hx : xs.length ≤ 100000) (hw : ∀ v σ H Q, g v (wipe σ vs) H (fun σ2 H2 => wipe σ2 vs = wipe σ vs → Q σ2 H2) → g v (wipe σ vs) H Q)
    (turn : ∀ m x, x ∈ xs → ∃ G1, EvG K g (wipeG G vs) (.d (en x)) G1 ∧ (match p m x with
      | some (y, m') => ∃ M1, EvT K tt G1 (encM m) true M1 ∧ EvE K te G1 M1 (.d y) (encM m')
      | none => EvT K tt G1 (encM m) false (encM (q m x))))
    : ∀ F B as σ H, Ow K F B as M H → Slt K B as G σ → ∀ Q : VK,
      (∀ D us B' as' H', Gr F B B' → Px as as' → F D = none → B' D = none → Ow K (upd F D (.lst us)) B' as' (encM (mapS p q xs m0).2) H' → H' D = some (.lst us) → RpL K B' (mapS p q xs m0).1 us → Q (.ref D) H') → tLc wi g tt te vs σ H Q := fun F B as σ H ow sl Q k => by
  refine hI F B as σ H ow sl _ fun J B1 as1 H1 g1 p1 o1 yl => fun D hD => ?_
  obtain ⟨fD, bD, aD⟩ := o1.fresh hD
  have ow0 : Ow K (upd F D (.lst [])) B1 as1 (encM m0) (upd H1 D (.lst [])) := by
    refine ⟨fun a u e => ?_, fun a u e => ?_, o1.len, o1.nd, fun a ha => ?_, fun a ha => by rw [upd_ne (fun e : a = D => aD (e ▸ ha))]; exact o1.fa a ha, fun k a m e1 e2 hm => ?_⟩
    · by_cases z : a = D
      · rw [z, upd_same] at e ⊢; exact e
      · rw [upd_ne z] at e ⊢; exact o1.fb a u e
    · rw [upd_ne (ne_of_none e bD)]; exact o1.bb a u e
    · rw [upd_ne (fun e : a = D => aD (e ▸ ha))]; exact o1.al a ha
    · have ne : a ≠ D := fun e : a = D => aD (e ▸ List.mem_of_getElem? e1)
      obtain ⟨q1, q2, q3⟩ := o1.own k a m e1 e2 hm
      exact ⟨by rw [upd_ne ne]; exact q1, q2, MoR.mono (Same.refl B1) (upd_ne ne) q3⟩
  refine ⟨fun i n H' => ∃ B' as' us, n = xs.length - i ∧ i ≤ xs.length ∧ Gr F B1 B' ∧ B' D = none ∧ Px as1 as' ∧ Ow K (upd F D (.lst us)) B' as' (encM (mapS p q (xs.take i) m0).2) H' ∧ H' D = some (.lst us) ∧ RpL K B' (mapS p q (xs.take i) m0).1 us,
    ⟨xs.length, B1, as1, [], by simp, Nat.zero_le _, Gr.refl F B1, bD, Px.refl as1, ow0, upd_same, rfl⟩, fun i n H' w => ?_⟩
  obtain ⟨B', as', us, rfl, hi, g', bD', p', o', hD', r'⟩ := w
  obtain ⟨y1, y2⟩ := yl _ B' as' _ H' i g'.1 o'
  by_cases hlt : i < xs.length
  · have hxi : xs[i]? = some xs[i] := List.getElem?_eq_getElem hlt
    obtain ⟨go, yld⟩ := y1 (en xs[i]) (by rw [List.getElem?_map, hxi] <;> rfl)
    have mt := mapS_take p q xs i m0 _ hxi
    refine .inr ⟨go, fun H2 => ∃ B' as' us, i + 1 ≤ xs.length ∧ Gr F B1 B' ∧ B' D = none ∧ Px as1 as' ∧ Ow K (upd F D (.lst us)) B' as' (encM (mapS p q (xs.take (i + 1)) m0).2) H2 ∧ H2 D = some (.lst us) ∧ RpL K B' (mapS p q (xs.take (i + 1)) m0).1 us, fun H2 n2 => ?_, fun v H2 yv => ?_⟩
    · obtain ⟨B2, as2, us2, q1, q2, q3, q4, q5, q6, q7⟩ := n2
      exact ⟨xs.length - (i + 1), by omega, B2, as2, us2, rfl, q1, q2, q3, q4, q5, q6, q7⟩
    · obtain ⟨B2, g2, o2, r2⟩ := yld v H2 yv
      generalize hm : (mapS p q (xs.take i) m0).2 = m at *
      obtain ⟨G1, hg, ht⟩ := turn m xs[i] (List.getElem_mem hlt)
      have bD2 : B2 D = none := g2.2 D (by rw [upd_same]; exact kp_lst) bD'
      refine hw v σ H2 _ ?_
      refine hg _ B2 as' (encM m) (wipe σ vs) H2 v o2 ((slt_wipe (sl.mono ((g1.1.trans g'.1).trans g2.1) (p1.trans p')) vs)) r2 _ fun B3 as3 σ3 H3 g3 p3 o3 s3 => fun hwp => ⟨hwp, ?_⟩
      have bD3 : B3 D = none := g3.2 D (by rw [upd_same]; exact kp_lst) bD2
      cases e : p m xs[i] with
      | none =>
        rw [e] at ht mt
        refine ht _ B3 as3 σ3 H3 o3 s3 _ fun B4 as4 H4 g4 p4 o4 => ?_
        rw [if_neg Bool.false_ne_true]
        have sm := (g2.1.trans g3.1).trans g4.1
        refine ⟨B4, as4, us, hlt, g'.trans ((g2.trans (g3.trans g4)).of_side), g4.2 D (by rw [upd_same]; exact kp_lst) bD3, p'.trans (p3.trans p4), ?_, o4.fb D _ upd_same, ?_⟩
        · rw [mt]; exact o4
        · rw [mt]; exact RpL.mono sm _ _ r'
      | some r =>
        obtain ⟨yd, m'⟩ := r
        rw [e] at ht mt
        obtain ⟨M1, h1, h2⟩ := ht
        refine h1 _ B3 as3 σ3 H3 o3 s3 _ fun B4 as4 H4 g4 p4 o4 => ?_
        rw [if_pos rfl]
        refine h2 _ B4 as4 σ3 H4 o4 (s3.mono g4.1 p4) _ fun w B5 as5 H5 g5 p5 o5 r5 => ?_
        have bD4 : B4 D = none := g4.2 D (by rw [upd_same]; exact kp_lst) bD3
        have bD5 : B5 D = none := g5.2 D (by rw [upd_same]; exact kp_lst) bD4
        have hl : us.length < sizeLine := by
          rw [r'.len]
          have e1 := mapS_len p q (xs.take i) m0
          rw [List.length_take] at e1
          exact Nat.lt_of_le_of_lt (show _ ≤ 100000 by omega) (by decide)
        have sm := ((g2.1.trans g3.1).trans g4.1).trans g5.1
        have on : Ow K F B5 as5 (encM m') (upd H5 D (.lst (us ++ [w]))) := o5.aside fD bD5
        have on2 : Ow K (upd F D (.lst (us ++ [w]))) B5 as5 (encM m') (upd H5 D (.lst (us ++ [w]))) := on.side upd_same fD o5.out
        refine ⟨us, o5.fb D _ upd_same, hl, B5, as5, us ++ [w], hlt, g'.trans ((g2.trans (g3.trans (g4.trans g5))).of_side), bD5, p'.trans (p3.trans (p4.trans p5)), ?_, upd_same, ?_⟩
        · rw [mt]; exact on2
        · rw [mt]; exact RpL.append (RpL.mono sm _ _ r') (RpL.one r5)
  · have e : i = xs.length := by omega
    subst e
    rw [List.take_length] at o' r'
    exact .inl ⟨y2 (by rw [List.length_map]; exact Nat.le_refl _), k D us B' as' H' (g1.trans g') (p1.trans p') fD bD' o' hD' r'⟩
theorem hw_name {j : Nat} {vs : List Nat} (hj : j ∈ vs) : ∀ v σ H Q, gName j v (wipe σ vs) H (fun σ2 H2 => wipe σ2 vs = wipe σ vs → Q σ2 H2) → gName j v (wipe σ vs) H Q := fun v σ H Q h =>
  h (by rw [wipe_set hj, wipe_wipe])
theorem hw_tup2 {i j : Nat} {vs : List Nat} (hi : i ∈ vs) (hj : j ∈ vs) {n : Nat} : ∀ v σ H Q, gTup K n (gCons (gName i) (gCons (gName j) gNil)) v (wipe σ vs) H (fun σ2 H2 => wipe σ2 vs = wipe σ vs → Q σ2 H2) → gTup K n (gCons (gName i) (gCons (gName j) gNil)) v (wipe σ vs) H Q := fun v σ H Q h => by
  obtain ⟨a, xs, e, h1, h2, u, r, e1, w, r2, e2, e3, h3⟩ := h
  exact ⟨a, xs, e, h1, h2, u, r, e1, w, r2, e2, e3, h3 (by rw [wipe_set hj, wipe_set hi, wipe_wipe])⟩
/-- the new list is data -/
theorem ev_lc {μ β : Type} {wi : TI} {g : TG} {tt : TT} {vs : List Nat} (xs : List β) (en : β → Dt) (encM : μ → List MO) (p : μ → β → Option (Dt × μ)) (q : μ → β → μ) (m0 : μ)
    (hI : EvI K wi G M (xs.map en) (encM m0)) (hx : xs.length ≤ 100000) (hw : ∀ v σ H Q, g v (wipe σ vs) H (fun σ2 H2 => wipe σ2 vs = wipe σ vs → Q σ2 H2) → g v (wipe σ vs) H Q)
    (turn : ∀ m x, x ∈ xs → ∃ G1, EvG K g (wipeG G vs) (.d (en x)) G1 ∧ (match p m x with
      | some (y, m') => ∃ M1, EvT K tt G1 (encM m) true M1 ∧ EvE K te G1 M1 (.d y) (encM m')
      | none => EvT K tt G1 (encM m) false (encM (q m x)))) :
    EvE K (tLc wi g tt te vs) G M (.d (.lst (mapS p q xs m0).1)) (encM (mapS p q xs m0).2) := fun F B as σ H ow sl Q k =>
  ev_lcAny xs en encM p q m0 hI hx hw turn F B as σ H ow sl Q fun D us B' as' H' g' p' fD bD o' hD r' => by
    have sm : Same B' (upd B' D (.lst us)) := fun c u e => by rw [upd_ne (ne_of_none e bD)]; exact e
    refine k _ (upd B' D (.lst us)) as' H' ⟨g'.1.trans sm, fun c z n => ?_⟩ p' ⟨?_, ?_, o'.len, o'.nd, o'.al, ?_, ?_⟩ ⟨D, us, rfl, .inl (.inl upd_same), RpL.mono sm _ _ r'⟩
    · rw [upd_ne (fun e : c = D => z.1 (by rw [e]; exact fD))]; exact g'.2 c z n
    · exact fun c u e => o'.fb c u (by rw [upd_ne (ne_of_none e fD)]; exact e)
    · intro c u e
      by_cases z : c = D
      · rw [z, upd_same] at e; rw [z, ← e]; exact hD
      · rw [upd_ne z] at e; exact o'.bb c u e
    · intro c hc
      have q1 := o'.fa c hc
      rw [upd_ne (fun e : c = D => o'.out (e ▸ hc))] at q1
      exact q1
    · intro k a m e1 e2 hm
      obtain ⟨q1, q2, q3⟩ := o'.own k a m e1 e2 hm
      have ne : a ≠ D := fun e => by rw [e, upd_same] at q1; cases q1
      rw [upd_ne ne] at q1
      exact ⟨q1, by rw [upd_ne ne]; exact q2, MoR.mono sm rfl q3⟩
/-- the new list will change -/
theorem ev_lcO {μ β : Type} {wi : TI} {g : TG} {tt : TT} {vs : List Nat} (xs : List β) (en : β → Dt) (encM : μ → List MO) (p : μ → β → Option (Dt × μ)) (q : μ → β → μ) (m0 : μ)
    (hI : EvI K wi G M (xs.map en) (encM m0)) (hx : xs.length ≤ 100000) (hw : ∀ v σ H Q, g v (wipe σ vs) H (fun σ2 H2 => wipe σ2 vs = wipe σ vs → Q σ2 H2) → g v (wipe σ vs) H Q)
    (turn : ∀ m x, x ∈ xs → ∃ G1, EvG K g (wipeG G vs) (.d (en x)) G1 ∧ (match p m x with
      | some (y, m') => ∃ M1, EvT K tt G1 (encM m) true M1 ∧ EvE K te G1 M1 (.d y) (encM m')
      | none => EvT K tt G1 (encM m) false (encM (q m x)))) :
    EvE K (tLc wi g tt te vs) G M (.o (encM (mapS p q xs m0).2).length) (encM (mapS p q xs m0).2 ++ [.lst (mapS p q xs m0).1]) := fun F B as σ H ow sl Q k =>
  ev_lcAny xs en encM p q m0 hI hx hw turn F B as σ H ow sl Q fun D us B' as' H' g' p' fD bD o' hD r' => by
    have nD := o'.out
    have hs : Ow K F B' as' (encM (mapS p q xs m0).2) H' := by
      have := o'.aside (o' := .lst us) fD bD
      rw [show upd H' D (.lst us) = H' from funext fun b => by
        by_cases e : b = D
        · rw [e, upd_same, hD]
        · rw [upd_ne e]] at this
      exact this
    refine k _ B' (as' ++ [D]) H' g' (p'.trans ⟨[D], rfl⟩) ⟨hs.fb, hs.bb, by rw [List.length_append, List.length_append, hs.len]; rfl, List.nodup_append.mpr ⟨hs.nd, by simp, fun a ha b hb => ?_⟩, fun a ha => ?_, fun a ha => ?_, fun k a m' e1 e2 hm' => ?_⟩ ⟨D, ?_, rfl⟩
    · obtain rfl : b = D := by simpa using hb
      exact fun e : a = b => nD (e ▸ ha)
    · rcases List.mem_append.mp ha with ha | ha
      · exact hs.al a ha
      · obtain rfl : a = D := by simpa using ha
        rw [hD]; exact fun z => nomatch z
    · rcases List.mem_append.mp ha with ha | ha
      · exact hs.fa a ha
      · obtain rfl : a = D := by simpa using ha
        exact fD
    · by_cases hk : k < as'.length
      · rw [List.getElem?_append_left hk] at e1
        rw [List.getElem?_append_left (by rw [← hs.len]; exact hk)] at e2
        exact hs.own k a m' e1 e2 hm'
      · have hl : k = as'.length := by
          have := (List.getElem?_eq_some_iff.mp e1).1
          rw [List.length_append, List.length_singleton] at this
          omega
        subst hl
        rw [List.getElem?_append_right (Nat.le_refl _), Nat.sub_self] at e1
        rw [hs.len, List.getElem?_append_right (Nat.le_refl _), Nat.sub_self] at e2
        obtain rfl : D = a := Option.some.inj e1
        obtain rfl : MO.lst (mapS p q xs m0).1 = m' := Option.some.inj e2
        exact ⟨fD, bD, us, hD, r'⟩
    · rw [← hs.len, List.getElem?_append_right (Nat.le_refl _), Nat.sub_self]
      rfl
end
/-! ### calls -/
def SpR (K : PySem.W.Frag) (n : Nat) (R : List Sl → List MO → Sl → List MO → Prop) : Sp := fun vs H Q _ =>
  ∃ F B as ss M r M', R ss M r M' ∧ Ow K F B as M H ∧ SlL K B as ss vs ∧ vs.length = n ∧ ∀ v B' as' H', Gr F B B' → Px as as' → Ow K F B' as' M' H' → SlR K B' as' r v → Q v H'
def start (n : Nat) (ss : List Sl) : List (Option Sl) := ss.map some ++ List.replicate (n - ss.length) none
section
variable {K : PySem.W.Frag} {F B B1 H : Hp} {as as1 : List Addr} {G G1 G2 G' : List (Option Sl)} {M M1 M2 M' X : List MO} {te : TE} {ta tk : TA} {s r : Sl} {t : TS} {E : XK}
theorem slt_args {n : Nat} : ∀ {ss : List Sl} {vs : List V}, SlL K B as ss vs → Slt K B as (ss.map some ++ List.replicate n none) (vs.map some ++ List.replicate n none)
  | [], vs, h => by
    rw [show vs = [] from h]
    refine ⟨by simp, fun i s q => ?_⟩
    simp only [List.map_nil, List.nil_append, List.getElem?_replicate] at q
    split at q <;> simp at q
  | s :: ss, vs, ⟨v, u, e, h1, h2⟩ => by
    subst e
    have ih := slt_args (n := n) h2
    refine ⟨by have := ih.1; simp at this ⊢; omega, fun i s' q => ?_⟩
    cases i with
    | zero => simp at q; subst q; exact ⟨v, by simp, h1⟩
    | succ i => exact ih.2 i s' (by simpa using q)
/-- a def's body keeps its promise -/
theorem run_body {N : List Str} {ss : List Sl} {vs : List V} {Q : VK} (h : EvS K t (start N.length ss) M (.rt r (M' ++ X))) (hm : M.length ≤ M'.length) (hr : ∀ k, r = .o k → k < M'.length) (ow : Ow K F B as M H) (sl : SlL K B as ss vs)
    (q : ∀ v B' as' H', Gr F B B' → Px as as' → Ow K F B' as' M' H' → SlR K B' as' r v → Q v H') : t { nx := fun _ H' => Q .non H', rt := Q } (L2.start N vs) H := by
  have sl' : Slt K B as (start N.length ss) (L2.start N vs) := by
    have e := sl.len
    unfold start L2.start
    rw [e]
    exact slt_args sl
  refine h F B as _ H ow sl' _ fun v B' as' H' g p o' r' => q v B' (as'.take M'.length) H' g ?_ o'.drop ?_
  · obtain ⟨tl, rfl⟩ := p
    refine ⟨tl.take (M'.length - as.length), ?_⟩
    rw [List.take_append, List.take_of_length_le (by rw [ow.len]; exact hm)]
  · cases r with
    | d x => exact r'
    | o k =>
      obtain ⟨a, ha, e⟩ := r'
      exact ⟨a, by rw [List.getElem?_take_of_lt (hr k rfl)]; exact ha, e⟩
/-- .. that comes to its end -/
theorem run_bodyN {N : List Str} {ss : List Sl} {vs : List V} {Q : VK} (h : EvS K t (start N.length ss) M (.nx G1 (M' ++ X))) (hm : M.length ≤ M'.length) (ow : Ow K F B as M H) (sl : SlL K B as ss vs)
    (q : ∀ v B' as' H', Gr F B B' → Px as as' → Ow K F B' as' M' H' → SlR K B' as' (.d .non) v → Q v H') : t { nx := fun _ H' => Q .non H', rt := Q } (L2.start N vs) H := by
  have sl' : Slt K B as (start N.length ss) (L2.start N vs) := by
    have e := sl.len
    unfold start L2.start
    rw [e]
    exact slt_args sl
  refine h F B as _ H ow sl' _ fun B' as' σ' H' g p o' r' => q .non B' (as'.take M'.length) H' g ?_ o'.drop rfl
  obtain ⟨tl, rfl⟩ := p
  refine ⟨tl.take (M'.length - as.length), ?_⟩
  rw [List.take_append, List.take_of_length_le (by rw [ow.len]; exact hm)]
/-- what a call of data asks: R of them, nothing owned -/
theorem call_core {n : Nat} {R : List Sl → List MO → Sl → List MO → Prop} {ds : List Dt} {z : Sl} {N : List MO} {vs : List V} {Q : VK} (hR : R (ds.map Sl.d) [] z N) (hn : ds.length = n) (o : Ow K F B as M H) (r : RpL K B ds vs)
    (q : ∀ v B' as' H', Gr H B B' → Ow K H B' as' N H' → SlR K B' as' z v → Q v H') : SpR K n R vs H Q E :=
  ⟨H, B, [], ds.map Sl.d, [], z, N, hR, ⟨Same.refl H, o.bb, rfl, List.nodup_nil, fun _ h => (nomatch h), fun _ h => (nomatch h), fun k a m e => by simp at e⟩, SlL.of_data r, by rw [r.len]; exact hn, fun v B' as' H' g _ o' r' => q v B' as' H' g o' r'⟩
theorem back0 {B' : Hp} {as' : List Addr} {N : List MO} {H' : Hp} (o : Ow K F B as M H) (g : Gr H B B') (o' : Ow K H B' as' N H') : Gr F B B' ∧ Ow K F B' as M H' := by
  refine ⟨⟨g.1, fun a f n => g.2 a (Kp.same f o.fb) n⟩, fun a u e => o'.fb a u (o.fb a u e), o'.bb, o.len, o.nd, fun a ha => ?_, o.fa, fun k a m e1 e2 hm => ?_⟩
  · cases e : H a with
    | none => exact absurd e (o.al a ha)
    | some u => rw [o'.fb a u e]; exact fun z => nomatch z
  · obtain ⟨q1, q2, q3⟩ := o.own k a m e1 e2 hm
    have ha := o.al a (List.mem_of_getElem? e1)
    cases e : H a with
    | none => exact absurd e ha
    | some u => exact ⟨q1, g.2 a (kp_mor hm q3) q2, MoR.mono g.1 ((o'.fb a u e).trans e.symm) q3⟩
theorem ev_call0 {n : Nat} {R : List Sl → List MO → Sl → List MO → Prop} {ds : List Dt} {z : Dt} {dvs : List V} {es : List Dt} (h : EvA K ta G M (ds.map Sl.d) M1) (hR : R ((ds ++ es).map Sl.d) [] (.d z) []) (hn : (ds ++ es).length = n) (hd : ∀ B, RpL K B es dvs) :
    EvE K (tCall (SpR K n R) dvs E ta) G M (.d z) M1 := fun F B as σ H ow sl Q q =>
  h F B as σ H ow sl _ fun vs B1 as1 H1 g1 p1 o1 r1 => call_core hR hn o1 (RpL.append (SlL.data r1) (hd B1)) fun v B' as' H' g o' r' => by
    obtain ⟨g2, o2⟩ := back0 o1 g o'
    exact q v B' as1 H' (g1.trans g2) p1 o2 r'
/-- .. that hands back a new list which will change -/
theorem ev_call0n {n : Nat} {R : List Sl → List MO → Sl → List MO → Prop} {ds : List Dt} {m : MO} {dvs : List V} {es : List Dt} (h : EvA K ta G M (ds.map Sl.d) M1) (hR : R ((ds ++ es).map Sl.d) [] (.o 0) [m]) (hg : m ≠ .gone) (hn : (ds ++ es).length = n) (hd : ∀ B, RpL K B es dvs) :
    EvE K (tCall (SpR K n R) dvs E ta) G M (.o M1.length) (M1 ++ [m]) := fun F B as σ H ow sl Q q =>
  h F B as σ H ow sl _ fun vs B1 as1 H1 g1 p1 o1 r1 => call_core hR hn o1 (RpL.append (SlL.data r1) (hd B1)) fun v B' as' H' g o' r' => by
    obtain ⟨g2, o2⟩ := back0 o1 g o'
    obtain ⟨a, ha, rfl⟩ := r'
    have q0 := o'.own 0 a m ha rfl hg
    have fa := q0.1
    have nin : a ∉ as1 := fun hm => o1.al a hm fa
    have hal := o'.al a (List.mem_of_getElem? ha)
    refine q _ B' (as1 ++ [a]) H' (g1.trans g2) (p1.trans ⟨[a], rfl⟩) ⟨o2.fb, o2.bb, by rw [List.length_append, List.length_append, o2.len]; rfl, List.nodup_append.mpr ⟨o2.nd, by simp, fun c hc b hb => ?_⟩, fun c hc => ?_, fun c hc => ?_, fun k c m' e1 e2 hm' => ?_⟩ ⟨a, ?_, rfl⟩
    · obtain rfl : b = a := by simpa using hb
      exact fun e : c = b => nin (e ▸ hc)
    · rcases List.mem_append.mp hc with hc | hc
      · exact o2.al c hc
      · obtain rfl : c = a := by simpa using hc
        exact hal
    · rcases List.mem_append.mp hc with hc | hc
      · exact o2.fa c hc
      · obtain rfl : c = a := by simpa using hc
        exact o1.fb.free fa
    · by_cases hk : k < as1.length
      · rw [List.getElem?_append_left hk] at e1
        rw [List.getElem?_append_left (by rw [← o2.len]; exact hk)] at e2
        exact o2.own k c m' e1 e2 hm'
      · have hl : k = as1.length := by
          have := (List.getElem?_eq_some_iff.mp e1).1
          rw [List.length_append, List.length_singleton] at this
          omega
        subst hl
        rw [List.getElem?_append_right (Nat.le_refl _), Nat.sub_self] at e1
        rw [o2.len, List.getElem?_append_right (Nat.le_refl _), Nat.sub_self] at e2
        obtain rfl : a = c := Option.some.inj e1
        obtain rfl : m = m' := Option.some.inj e2
        exact ⟨o1.fb.free fa, q0.2.1, q0.2.2⟩
    · rw [← o2.len, List.getElem?_append_right (Nat.le_refl _), Nat.sub_self]
      rfl
/-- one owned thing is handed on: the callee's number 0 -/
def to0 (k : Nat) : Sl → Sl
  | .d x => .d x
  | .o j => if j = k then .o 0 else .o j
theorem slL_to0 {a : Addr} {k : Nat} (ha : as[k]? = some a) : ∀ {ss : List Sl} {vs : List V}, (∀ s ∈ ss, ∀ j, s = .o j → j = k) → SlL K B as ss vs → SlL K B [a] (ss.map (to0 k)) vs
  | [], _, _, h => h
  | s :: ss, _, hs, ⟨v, u, e, h1, h2⟩ => by
    refine ⟨v, u, e, ?_, slL_to0 ha (fun s' hs' => hs s' (List.mem_cons_of_mem _ hs')) h2⟩
    cases s with
    | d x => exact h1
    | o j =>
      have e2 := hs _ List.mem_cons_self j rfl
      subst e2
      obtain ⟨c, hc, e3⟩ := h1
      rw [ha] at hc
      cases hc
      show SlR K B [a] (if j = j then .o 0 else .o j) v
      rw [if_pos rfl]
      exact ⟨a, rfl, e3⟩
theorem ev_call1 {n k : Nat} {R : List Sl → List MO → Sl → List MO → Prop} {ss : List Sl} {m m' : MO} {z : Dt} {dvs : List V} {es : List Dt} (h : EvA K ta G M ss M1) (hm : M1[k]? = some m) (hg : m ≠ .gone) (hs : ∀ s ∈ ss, ∀ j, s = .o j → j = k)
    (hR : R (ss.map (to0 k) ++ es.map Sl.d) [m] (.d z) [m']) (hg' : m' ≠ .gone) (hn : ss.length + es.length = n) (hd : ∀ B, RpL K B es dvs) :
    EvE K (tCall (SpR K n R) dvs E ta) G M (.d z) (M1.set k m') := fun F B as σ H ow sl Q q =>
  h F B as σ H ow sl _ fun vs B1 as1 H1 g1 p1 o1 r1 => by
    have hk : k < as1.length := by rw [o1.len]; exact (List.getElem?_eq_some_iff.mp hm).1
    obtain ⟨a, ha⟩ : ∃ a, as1[k]? = some a := ⟨_, List.getElem?_eq_getElem hk⟩
    obtain ⟨f0, b0, mr⟩ := o1.own k a m ha hm hg
    have hal := o1.al a (List.mem_of_getElem? ha)
    have oc : Ow K (fun b => if b = a then none else H1 b) B1 [a] [m] H1 := by
      refine ⟨fun b u e => ?_, o1.bb, rfl, by simp, fun b hb => ?_, fun b hb => ?_, fun j b m2 e1 e2 hm2 => ?_⟩
      · by_cases z : b = a
        · simp only [if_pos z] at e; cases e
        · simp only [if_neg z] at e; exact e
      · obtain rfl : b = a := by simpa using hb
        exact hal
      · obtain rfl : b = a := by simpa using hb
        simp
      · cases j with
        | zero =>
          obtain rfl : a = b := Option.some.inj e1
          obtain rfl : m = m2 := Option.some.inj e2
          exact ⟨by simp, b0, mr⟩
        | succ j => simp at e1
    have sl2 : SlL K B1 [a] (ss.map (to0 k) ++ es.map Sl.d) (vs ++ dvs) := by
      have h1 := slL_to0 ha hs r1
      have h2 := SlL.of_data (as := [a]) (hd B1)
      revert h1 h2
      generalize ss.map (to0 k) = ps
      generalize es.map Sl.d = qs
      intro h1 h2
      clear r1
      induction ps generalizing vs with
      | nil => rw [show vs = [] from h1]; exact h2
      | cons c ps ih =>
        obtain ⟨v, u, e, h3, h4⟩ := h1
        subst e
        exact ⟨v, _, rfl, h3, ih u h4⟩
    refine ⟨_, B1, [a], _, [m], .d z, [m'], hR, oc, sl2, ?_, fun v B' as' H' g p o' r' => ?_⟩
    · rw [List.length_append, r1.len, (hd B1).len]; exact hn
    · obtain ⟨tl, rfl⟩ := p
      have tl0 : tl = [] := by
        have := o'.len
        simp at this
        exact this
      subst tl0
      have F1 : Same F (fun b => if b = a then none else H1 b) := fun b u e => by
        have ne := ne_of_none e f0
        simp only [if_neg ne]
        exact o1.fb b u e
      have hh : ∀ b, b ≠ a → ∀ u, H1 b = some u → H' b = some u := fun b ne u e => o'.fb b u (by simp only [if_neg ne]; exact e)
      obtain ⟨_, bn, mr'⟩ := o'.own 0 a m' rfl rfl hg'
      have gF : Gr F B1 B' := ⟨g.1, fun b f n => g.2 b (Kp.same f F1) n⟩
      refine q v B' as1 H' (g1.trans gF) p1 ⟨fun b u e => o'.fb b u (F1 b u e), o'.bb, by rw [List.length_set]; exact o1.len, o1.nd, fun b hb => ?_, o1.fa, fun j b m2 e1 e2 hm2 => ?_⟩ r'
      · by_cases z : b = a
        · rw [z]; exact o'.al a (by simp)
        · cases e : H1 b with
          | none => exact absurd e (o1.al b hb)
          | some u => rw [hh b z u e]; exact fun z => nomatch z
      · by_cases z : k = j
        · subst z
          rw [ha] at e1
          obtain rfl : a = b := Option.some.inj e1
          rw [List.getElem?_set_self (List.getElem?_eq_some_iff.mp hm).1] at e2
          obtain rfl : m' = m2 := Option.some.inj e2
          exact ⟨f0, bn, mr'⟩
        · rw [List.getElem?_set_ne z] at e2
          have ne : b ≠ a := fun e => by
            subst e
            obtain ⟨l1, g1⟩ := List.getElem?_eq_some_iff.mp ha
            obtain ⟨l2, g2⟩ := List.getElem?_eq_some_iff.mp e1
            exact z (nodup_ix2 o1.nd l1 l2 (g1.trans g2.symm))
          obtain ⟨r1', r2', r3'⟩ := o1.own j b m2 e1 e2 hm2
          have hb := o1.al b (List.mem_of_getElem? e1)
          cases e : H1 b with
          | none => exact absurd e hb
          | some u => exact ⟨r1', g.2 b (by simp only [if_neg ne]; exact kp_mor hm2 r3') r2', MoR.mono g.1 ((hh b ne u e).trans e.symm) r3'⟩
end
end DJ
namespace DJ
open PySem PySem.Spec PyProof.Rows L2
/-! ### texts as lists of signs -/
theorem tx_len (a : List Nat) : (tx a).length = a.length := SX.S_len a
theorem tx_cat (a b : List Nat) : tx a ++ tx b = tx (a ++ b) := SX.S_cat a b
theorem tx_inj {a b : List Nat} (h : tx a = tx b) : a = b := SX.S_inj h
theorem tx_dec (a b : List Nat) : decide (V.str (tx a) = V.str (tx b)) = decide (a = b) := by
  by_cases e : a = b
  · subst e; simp
  · rw [decide_eq_false e, decide_eq_false (fun h => e (tx_inj (V.str.inj h)))]
/-- S stands at the head of l -/
abbrev pre (S l : List Nat) : Bool := TL.pre S l
theorem sub_tl (a b : List Nat) (i : Nat) : Builtin.Str.subAt (tx a) (tx b) i = ((a.drop i).take b.length == b) := by
  have h := StrLaws.subAt_eq (tx a) (tx b) i
  rw [tx_len] at h
  exact h
theorem starts_tx (a b : List Nat) : Txt.startswith (tx a) (tx b) = pre b a := by
  unfold Txt.startswith
  rw [sub_tl, tx_len, tx_len, Nat.zero_add, List.drop_zero]
  show (decide (b.length ≤ a.length) && (a.take b.length == b)) = (a.take b.length == b)
  by_cases h : b.length ≤ a.length
  · rw [decide_eq_true h, Bool.true_and]
  · rw [decide_eq_false h, Bool.false_and]
    refine (beq_eq_false_iff_ne.mpr fun e => h ?_).symm
    have := congrArg List.length e
    rw [List.length_take] at this
    omega
/-- b stands somewhere in a -/
def sub : List Nat → List Nat → Bool
  | b, [] => b == []
  | b, c :: r => pre b (c :: r) || sub b r
theorem sub_iff (b : List Nat) : ∀ a : List Nat, sub b a = true ↔ ∃ i, i + b.length ≤ a.length ∧ (a.drop i).take b.length = b
  | [] => by
    unfold sub
    constructor
    · intro h
      have e : b = [] := eq_of_beq h
      subst e
      exact ⟨0, Nat.le_refl _, rfl⟩
    · rintro ⟨i, h1, h2⟩
      have : b.length = 0 := by
        have h1 : i + b.length ≤ 0 := h1
        omega
      rw [List.length_eq_zero_iff.mp this] <;> rfl
  | c :: r => by
    unfold sub
    rw [Bool.or_eq_true, sub_iff b r]
    constructor
    · rintro (h | ⟨i, h1, h2⟩)
      · have e : (c :: r).take b.length = b := eq_of_beq h
        refine ⟨0, ?_, e⟩
        have := congrArg List.length e
        rw [List.length_take] at this
        omega
      · exact ⟨i + 1, by simp; omega, h2⟩
    · rintro ⟨i, h1, h2⟩
      cases i with
      | zero => exact .inl (by rw [List.drop_zero] at h2; show (List.take b.length (c :: r) == b) = true; rw [h2]; exact beq_self_eq_true b)
      | succ i => exact .inr ⟨i, by simp at h1; omega, h2⟩
theorem found_tx (a b : List Nat) : (!(Builtin.Str.occurrences (tx a) (tx b) 0 (tx a).length 1).isEmpty) = sub b a := by
  refine Bool.eq_iff_iff.mpr ?_
  rw [StrLaws.found_iff, sub_iff]
  constructor
  · rintro ⟨i, h1, h2⟩
    rw [tx_len, tx_len] at h1
    rw [sub_tl, beq_iff_eq] at h2
    exact ⟨i, h1, h2⟩
  · rintro ⟨i, h1, h2⟩
    exact ⟨i, by rw [tx_len, tx_len]; exact h1, by rw [sub_tl, beq_iff_eq]; exact h2⟩
/-- a slice -/
def cutL {α : Type} (l : List α) (lo hi : Option Int) : List α := (l.drop (HT.sIx l.length 0 lo)).take (HT.sIx l.length l.length hi - HT.sIx l.length 0 lo)
theorem cutS_tx (l : List Nat) (lo hi : Option Int) : cutS (tx l) lo hi = tx (cutL l lo hi) := by
  unfold cutS cutL
  rw [tx_len]
theorem cutL_len {α : Type} (l : List α) (lo hi : Option Int) : (cutL l lo hi).length ≤ l.length := by
  unfold cutL
  rw [List.length_take, List.length_drop]
  omega
theorem cutL_from {α : Type} (l : List α) (n : Nat) : cutL l (some (n : Int)) none = l.drop n := by
  unfold cutL
  have e : HT.sIx l.length 0 (some (n : Int)) = min n l.length := HT.sIx_nat _ _ n
  have e2 : HT.sIx l.length l.length none = l.length := rfl
  rw [e, e2]
  by_cases h : n ≤ l.length
  · rw [Nat.min_eq_left h]
    exact List.take_of_length_le (by rw [List.length_drop]; exact Nat.le_refl _)
  · rw [Nat.min_eq_right (by omega), List.drop_length, List.drop_eq_nil_of_le (by omega)]
    simp
theorem cutL_to {α : Type} (l : List α) (n : Nat) : cutL l none (some (n : Int)) = l.take n := by
  unfold cutL
  have e : HT.sIx l.length l.length (some (n : Int)) = min n l.length := HT.sIx_nat _ _ n
  have e2 : HT.sIx l.length 0 none = 0 := rfl
  rw [e, e2, List.drop_zero, Nat.sub_zero]
  by_cases h : n ≤ l.length
  · rw [Nat.min_eq_left h]
  · rw [Nat.min_eq_right (by omega), List.take_of_length_le (Nat.le_refl l.length), List.take_of_length_le (show l.length ≤ n by omega)]
theorem cutL_nat {α : Type} (l : List α) (a b : Nat) : cutL l (some (a : Int)) (some (b : Int)) = (l.drop a).take (b - a) := by
  unfold cutL
  have e : HT.sIx l.length 0 (some (a : Int)) = min a l.length := HT.sIx_nat _ _ a
  have e2 : HT.sIx l.length l.length (some (b : Int)) = min b l.length := HT.sIx_nat _ _ b
  rw [e, e2]
  by_cases h : a ≤ l.length
  · rw [Nat.min_eq_left h]
    refine List.ext_getElem? fun i => ?_
    rw [List.getElem?_take, List.getElem?_take, List.getElem?_drop]
    by_cases h1 : i < b - a
    · rw [if_pos h1]
      by_cases h2 : i < min b l.length - a
      · rw [if_pos h2]
      · rw [if_neg h2, List.getElem?_eq_none (by omega)]
    · rw [if_neg h1, if_neg (by omega)]
  · rw [Nat.min_eq_right (show l.length ≤ a by omega), List.drop_length, List.drop_eq_nil_of_le (show l.length ≤ a by omega)]
    simp
/-- strip -/
theorem strip_l (g : Nat → Bool) (l : List Nat) : Txt.stripBy g true false (tx l) = tx (l.dropWhile g) := by
  rw [PyProof.Rows.stripBy_eq]
  have e2 : stripHi g false (tx l) (stripLo g true (tx l)) = (tx l).length := by simp [stripHi]
  have e1 : stripLo g true (tx l) = (l.takeWhile g).length := by simp [stripLo]
  rw [e2, e1]
  refine TL.ext_tl ?_
  rw [TL.tl_strSub_end]
  show l.drop (l.takeWhile g).length = l.dropWhile g
  have e3 : l = l.takeWhile g ++ l.dropWhile g := (List.takeWhile_append_dropWhile).symm
  exact (by
    have : (l.takeWhile g ++ l.dropWhile g).drop (l.takeWhile g).length = l.dropWhile g := List.drop_left
    rw [← e3] at this
    exact this)
theorem drop_take_while (g : Nat → Bool) (l : List Nat) : l.drop (l.takeWhile g).length = l.dropWhile g := by
  have this : (l.takeWhile g ++ l.dropWhile g).drop (l.takeWhile g).length = l.dropWhile g := List.drop_left
  rw [List.takeWhile_append_dropWhile] at this
  exact this
theorem take_rev_while (g : Nat → Bool) (l : List Nat) : l.take (l.length - (l.reverse.takeWhile g).length) = (l.reverse.dropWhile g).reverse := by
  rw [← drop_take_while g l.reverse, List.drop_reverse, List.reverse_reverse]
theorem strip_r (g : Nat → Bool) (l : List Nat) : Txt.stripBy g false true (tx l) = tx (l.reverse.dropWhile g).reverse := by
  rw [PyProof.Rows.stripBy_eq]
  have e1 : stripLo g false (tx l) = 0 := by simp [stripLo]
  have e2 : stripHi g true (tx l) 0 = l.length - (l.reverse.takeWhile g).length := by simp [stripHi, Str.length]
  rw [e1, e2]
  refine TL.ext_tl ?_
  rw [TL.tl_strSub, List.drop_zero, Nat.sub_zero]
  exact take_rev_while g l
theorem strip_b (g : Nat → Bool) (l : List Nat) : Txt.stripBy g true true (tx l) = tx (((l.dropWhile g).reverse.dropWhile g).reverse) := by
  rw [PyProof.Rows.stripBy_eq]
  have e1 : stripLo g true (tx l) = (l.takeWhile g).length := by simp [stripLo]
  have e2 : stripHi g true (tx l) (l.takeWhile g).length = l.length - ((l.drop (l.takeWhile g).length).reverse.takeWhile g).length := by simp [stripHi, Str.length]
  rw [e1, e2, drop_take_while]
  refine TL.ext_tl ?_
  rw [TL.tl_strSub]
  show (l.drop _).take _ = _
  rw [drop_take_while]
  have h := take_rev_while g (l.dropWhile g)
  have hl : (l.dropWhile g).length = l.length - (l.takeWhile g).length := by rw [← drop_take_while, List.length_drop]
  rw [hl] at h
  rw [show l.length - ((l.dropWhile g).reverse.takeWhile g).length - (l.takeWhile g).length = l.length - (l.takeWhile g).length - ((l.dropWhile g).reverse.takeWhile g).length by omega]
  exact h
def inL (b : List Nat) (c : Nat) : Bool := decide (c ∈ b)
theorem cont_tx (b : List Nat) : (tx b).cps.contains = inL b := by
  funext c
  show b.toArray.contains c = decide (c ∈ b)
  rw [Bool.eq_iff_iff]
  simp
def lstripL (b l : List Nat) : List Nat := l.dropWhile (inL b)
def rstripL (b l : List Nat) : List Nat := (l.reverse.dropWhile (inL b)).reverse
def stripL (b l : List Nat) : List Nat := rstripL b (lstripL b l)
theorem lstrip_tx (a b : List Nat) : Txt.lstripChars (tx a) (tx b) = tx (lstripL b a) := by
  unfold Txt.lstripChars lstripL
  rw [cont_tx, strip_l]
theorem rstrip_tx (a b : List Nat) : Txt.rstripChars (tx a) (tx b) = tx (rstripL b a) := by
  unfold Txt.rstripChars rstripL
  rw [cont_tx, strip_r]
theorem strip_tx (a b : List Nat) : Txt.stripChars (tx a) (tx b) = tx (stripL b a) := by
  unfold Txt.stripChars stripL rstripL lstripL
  rw [cont_tx, strip_b]
/-- partition -/
def partL (b a : List Nat) : List Nat × List Nat × List Nat := match TL.par b [] a with
  | some (p, q) => (p, b, q)
  | none => (a, [], [])
theorem part_tx (a b : List Nat) (h : b ≠ []) : Txt.partition (tx a) (tx b) = (tx (partL b a).1, tx (partL b a).2.1, tx (partL b a).2.2) := by
  unfold partL
  cases e : TL.par b [] a with
  | none => exact SX.partition_none h e
  | some r =>
    obtain ⟨p, q⟩ := r
    exact SX.partition_some h e
/-- x.replace(c, d), one sign each -/
theorem repl_tx (a y z : List Nat) (hy : 1 ≤ y.length) : Txt.replace (tx a) (tx y) (tx z) = tx (StrLaws.replL y z a) := by
  refine TL.ext_tl ?_
  exact StrLaws.replace_list (by rw [tx_len]; exact hy)
/-! ### operations -/
section
variable {K : PySem.W.Frag} {G : List (Option Sl)} {M M1 M2 M3 : List MO} {s : Sl} {ta tb te : TE} {tr : TA} {t u : TT} {x y z : Dt} {r : R2} {b : Bool} {i j : Int} {l m : List Nat}
theorem ro_of {g : V} (h : ∀ (H : Hp) (v u : V) (K' : PySem.W.Frag) (B : Hp) (Q : VK), Rp K' B x v → Rp K' B y u → Q g H → r v u H Q) (hz : ∀ K' B, Rp K' B z g) : RO K r x y z := fun F B as M H v u Q ow r1 r2 q =>
  h H v u K B Q r1 r2 (q g B H (Gr.refl F B) ow (hz K B))
theorem ro_I0 {g : Int → Int → V} {z : Dt} (hz : ∀ K' B, Rp K' B z (g i j)) : RO K (rI0 g) (.int i) (.int j) z := ro_of (fun H v u _ _ Q h1 h2 q => ⟨i, j, h1, h2, q⟩) hz
theorem ro_I {C : Int → Int → Prop} {g : Int → Int → V} {z : Dt} (hc : C i j) (hz : ∀ K' B, Rp K' B z (g i j)) : RO K (rI C g) (.int i) (.int j) z := ro_of (fun H v u _ _ Q h1 h2 q => ⟨i, j, h1, h2, hc, q⟩) hz
theorem ro_add : RO K (rI0 fun i j => .int (i + j)) (.int i) (.int j) (.int (i + j)) := ro_I0 fun _ _ => rfl
theorem ro_sub : RO K (rI0 fun i j => .int (i - j)) (.int i) (.int j) (.int (i - j)) := ro_I0 fun _ _ => rfl
theorem ro_mul (h : CMul i j) : RO K (rI CMul fun i j => .int (i * j)) (.int i) (.int j) (.int (i * j)) := ro_I h fun _ _ => rfl
theorem ro_mulX (h : CMulX i j) : RO K (rI CMulX fun i j => .int (i * j)) (.int i) (.int j) (.int (i * j)) := ro_I h fun _ _ => rfl
theorem ro_mod (h : 0 < j) : RO K (rI (fun _ j => 0 < j) fun i j => .int (i % j)) (.int i) (.int j) (.int (i % j)) := ro_I h fun _ _ => rfl
theorem ro_fdivN (h : CDivN i j) : RO K (rI CDivN fun i j => .int (i.fdiv j)) (.int i) (.int j) (.int (i.fdiv j)) := ro_I h fun _ _ => rfl
theorem ro_pow (h : CPow i j) : RO K (rI CPow fun i j => .int (i ^ j.toNat)) (.int i) (.int j) (.int (i ^ j.toNat)) := ro_I h fun _ _ => rfl
theorem ro_lt : RO K (rI0 fun i j => .bl (decide (i < j))) (.int i) (.int j) (.bl (decide (i < j))) := ro_I0 fun _ _ => rfl
theorem ro_le : RO K (rI0 fun i j => .bl (decide (i ≤ j))) (.int i) (.int j) (.bl (decide (i ≤ j))) := ro_I0 fun _ _ => rfl
theorem ro_gt : RO K (rI0 fun i j => .bl (decide (j < i))) (.int i) (.int j) (.bl (decide (j < i))) := ro_I0 fun _ _ => rfl
theorem ro_ge : RO K (rI0 fun i j => .bl (decide (j ≤ i))) (.int i) (.int j) (.bl (decide (j ≤ i))) := ro_I0 fun _ _ => rfl
theorem ru_neg : RU K (rU fun i => .int (-i)) (.int i) (.int (-i)) := fun F B as M H v Q ow r q => ⟨i, r, q _ B H (Gr.refl F B) ow rfl⟩
/-- == of scalars -/
def scD : Dt → Dt → Option Bool
  | .int i, .int j => some (decide (i = j))
  | .str a, .str b => some (decide (a = b))
  | .bl a, .bl b => some (decide (a = b))
  | .non, .non => some true
  | .non, .str _ => some false
  | .str _, .non => some false
  | _, _ => none
theorem ro_eqS : RO K rEq (.str l) (.str m) (.bl (decide (l = m))) := fun F B as M H v u Q ow r1 r2 q => by
  subst r1; subst r2
  exact ⟨rfl, q _ B H (Gr.refl F B) ow (by rw [tx_dec] <;> rfl)⟩
theorem ro_neS : RO K rNe (.str l) (.str m) (.bl (!decide (l = m))) := fun F B as M H v u Q ow r1 r2 q => by
  subst r1; subst r2
  exact ⟨rfl, q _ B H (Gr.refl F B) ow (by rw [tx_dec] <;> rfl)⟩
theorem ro_eqI : RO K rEq (.int i) (.int j) (.bl (decide (i = j))) := fun F B as M H v u Q ow r1 r2 q => by
  subst r1; subst r2
  exact ⟨rfl, q _ B H (Gr.refl F B) ow (by
    by_cases e : i = j
    · subst e; simp [Rp]
    · rw [decide_eq_false (fun h => e (V.int.inj h)), decide_eq_false e] <;> rfl)⟩
theorem ro_neI : RO K rNe (.int i) (.int j) (.bl (!decide (i = j))) := fun F B as M H v u Q ow r1 r2 q => by
  subst r1; subst r2
  exact ⟨rfl, q _ B H (Gr.refl F B) ow (by
    by_cases e : i = j
    · subst e; simp [Rp]
    · rw [decide_eq_false (fun h => e (V.int.inj h)), decide_eq_false e] <;> rfl)⟩
/-- an optional text -/
def oS : Option (List Nat) → Dt
  | some l => .str l
  | none => .non
theorem ro_eqO {p q : Option (List Nat)} : RO K rEq (oS p) (oS q) (.bl (decide (p = q))) := fun F B as M H v u Q ow r1 r2 k => by
  cases p with
  | none =>
    cases q with
    | none =>
      have r1 : v = .non := r1
      have r2 : u = .non := r2
      subst r1; subst r2
      exact ⟨rfl, k _ B H (Gr.refl F B) ow (by simp [Rp])⟩
    | some m =>
      have r1 : v = .non := r1
      have r2 : u = .str (tx m) := r2
      subst r1; subst r2
      exact ⟨rfl, k _ B H (Gr.refl F B) ow (by simp [Rp])⟩
  | some l =>
    cases q with
    | none =>
      have r1 : v = .str (tx l) := r1
      have r2 : u = .non := r2
      subst r1; subst r2
      exact ⟨rfl, k _ B H (Gr.refl F B) ow (by simp [Rp])⟩
    | some m =>
      have r1 : v = .str (tx l) := r1
      have r2 : u = .str (tx m) := r2
      subst r1; subst r2
      refine ⟨rfl, k _ B H (Gr.refl F B) ow ?_⟩
      show V.bl _ = V.bl _
      rw [tx_dec]
      congr 1
      by_cases e : l = m
      · subst e; simp
      · simp [e]
theorem ro_neO {p q : Option (List Nat)} : RO K rNe (oS p) (oS q) (.bl (!decide (p = q))) := fun F B as M H v u Q ow r1 r2 k => by
  obtain ⟨h1, w, h2⟩ : scal v u = true ∧ True ∧ decide (v = u) = decide (p = q) := by
    have e := ro_eqO (K := K) (p := p) (q := q) F B as M H v u (fun w _ => w = .bl (decide (p = q))) ow r1 r2 (fun w B' H' g o' r' => r')
    exact ⟨e.1, trivial, V.bl.inj e.2⟩
  refine ⟨h1, k _ B H (Gr.refl F B) ow ?_⟩
  rw [h2] <;> rfl
theorem ro_isN {p : Option (List Nat)} : RO K (fun x y H Q => y = .non ∧ Q (.bl (decide (x = .non))) H) (oS p) .non (.bl (decide (p = none))) := fun F B as M H v u Q ow r1 r2 k => by
  cases p with
  | none =>
    have r1 : v = .non := r1
    subst r1
    exact ⟨r2, k _ B H (Gr.refl F B) ow (by simp [Rp])⟩
  | some l =>
    have r1 : v = .str (tx l) := r1
    subst r1
    exact ⟨r2, k _ B H (Gr.refl F B) ow (by simp [Rp])⟩
theorem ro_notN {p : Option (List Nat)} : RO K (fun x y H Q => y = .non ∧ Q (.bl (!decide (x = .non))) H) (oS p) .non (.bl (!decide (p = none))) := fun F B as M H v u Q ow r1 r2 k => by
  cases p with
  | none =>
    have r1 : v = .non := r1
    subst r1
    exact ⟨r2, k _ B H (Gr.refl F B) ow (by simp [Rp])⟩
  | some l =>
    have r1 : v = .str (tx l) := r1
    subst r1
    exact ⟨r2, k _ B H (Gr.refl F B) ow (by simp [Rp])⟩
/-- texts -/
theorem ro_addS (h : l.length + m.length ≤ 1000000) : RO K (fun x y H Q => ∃ i j, x = .str i ∧ y = .str j ∧ i.length + j.length ≤ sizeLine ∧ Q (.str (i ++ j)) H) (.str l) (.str m) (.str (l ++ m)) := fun F B as M H v u Q ow r1 r2 q =>
  ⟨tx l, tx m, r1, r2, by rw [tx_len, tx_len]; exact Nat.le_trans h (by decide), q _ B H (Gr.refl F B) ow (by rw [tx_cat] <;> rfl)⟩
theorem ro_inS : RO K (fun x y H Q => ∃ i j, x = .str i ∧ y = .str j ∧ Q (.bl (!(Builtin.Str.occurrences j i 0 j.length 1).isEmpty)) H) (.str l) (.str m) (.bl (sub l m)) := fun F B as M H v u Q ow r1 r2 q =>
  ⟨tx l, tx m, r1, r2, q _ B H (Gr.refl F B) ow (by rw [found_tx] <;> rfl)⟩
theorem ro_ninS : RO K (fun x y H Q => ∃ i j, x = .str i ∧ y = .str j ∧ Q (.bl (!(!(Builtin.Str.occurrences j i 0 j.length 1).isEmpty))) H) (.str l) (.str m) (.bl (!sub l m)) := fun F B as M H v u Q ow r1 r2 q =>
  ⟨tx l, tx m, r1, r2, q _ B H (Gr.refl F B) ow (by rw [found_tx] <;> rfl)⟩
theorem ro_leS : RO K (fun x y H Q => ∃ i j, x = .str i ∧ y = .str j ∧ Q (.bl (!decide (j.cps.toList < i.cps.toList))) H) (.str l) (.str m) (.bl (!decide (m < l))) := fun F B as M H v u Q ow r1 r2 q =>
  ⟨tx l, tx m, r1, r2, q _ B H (Gr.refl F B) ow rfl⟩
/-- x in a tuple of texts -/
theorem flat_strs : ∀ xs : List (List Nat), ((xs.map tx).map V.str).all flatV = true
  | [] => rfl
  | x :: xs => by rw [List.map_cons, List.map_cons, List.all_cons, flat_strs xs] <;> rfl
theorem inV_strs (l : List Nat) : ∀ xs : List (List Nat), inV (.str (tx l)) ((xs.map tx).map V.str) = decide (l ∈ xs)
  | [] => rfl
  | x :: xs => by
    show (eqV (.str (tx x)) (.str (tx l)) || inV (.str (tx l)) ((xs.map tx).map V.str)) = _
    rw [inV_strs l xs]
    show ((tx x == tx l) || _) = _
    by_cases e : l = x
    · subst e; simp
    · have : (tx x == tx l) = false := beq_eq_false_iff_ne.mpr fun h => e (tx_inj h).symm
      rw [this, Bool.false_or]
      simp [e]
theorem inV_non : ∀ xs : List (List Nat), inV .non ((xs.map tx).map V.str) = false
  | [] => rfl
  | x :: xs => inV_non xs
theorem ro_inT {xs : List (List Nat)} : RO K (rIn K false) (.str l) (.tup (xs.map Dt.str)) (.bl (decide (l ∈ xs))) := fun F B as M H v u Q ow r1 r2 q => by
  obtain ⟨a, vs, e, h1, h2⟩ := r2
  have e2 := h2.strs
  subst e2; subst e
  have r1 : v = .str (tx l) := r1
  subst r1
  refine ⟨a, _, rfl, .inr (same_t ow.bb h1), rfl, flat_strs xs, q _ B H (Gr.refl F B) ow ?_⟩
  show V.bl (inV _ _) = _
  rw [inV_strs]
theorem ro_ninT {xs : List (List Nat)} : RO K (rIn K true) (.str l) (.tup (xs.map Dt.str)) (.bl (!decide (l ∈ xs))) := fun F B as M H v u Q ow r1 r2 q => by
  obtain ⟨a, vs, e, h1, h2⟩ := r2
  have e2 := h2.strs
  subst e2; subst e
  have r1 : v = .str (tx l) := r1
  subst r1
  refine ⟨a, _, rfl, .inr (same_t ow.bb h1), rfl, flat_strs xs, q _ B H (Gr.refl F B) ow ?_⟩
  show V.bl (!inV _ _) = _
  rw [inV_strs]
theorem ro_inOT {p : Option (List Nat)} {xs : List (List Nat)} : RO K (rIn K false) (oS p) (.tup (xs.map Dt.str)) (.bl (decide (p ∈ xs.map some))) := by
  cases p with
  | some l =>
    have h : decide (some l ∈ xs.map some) = decide (l ∈ xs) := by simp
    rw [h]
    exact ro_inT
  | none =>
    exact fun F B as M H v u Q ow r1 r2 q => by
      obtain ⟨a, vs, e, h1, h2⟩ := r2
      have e2 := h2.strs
      subst e2; subst e
      have r1 : v = .non := r1
      subst r1
      refine ⟨a, _, rfl, .inr (same_t ow.bb h1), rfl, flat_strs xs, q _ B H (Gr.refl F B) ow ?_⟩
      show V.bl (inV _ _) = _
      rw [inV_non]
      simp
/-- slices of texts -/
theorem eo_none : EvO K tNoPart G M none M := fun F B as σ H ow sl Q q => q B as H (Gr.refl F B) (Px.refl as) ow
theorem eo_some (h : EvE K te G M (.d (.int i)) M1) : EvO K (tPart te) G M (some i) M1 := fun F B as σ H ow sl Q q =>
  h F B as σ H ow sl _ fun v B1 as1 H1 g p o r => ⟨i, r, q B1 as1 H1 g p o⟩
theorem ev_slS {tl th : TO} {lo hi : Option Int} (h : EvE K te G M (.d (.str l)) M1) (h1 : EvO K tl G M1 lo M2) (h2 : EvO K th G M2 hi M3) (hz : l.length ≤ 1000000) : EvE K (tSl rSlS te tl th) G M (.d (.str (cutL l lo hi))) M3 := fun F B as σ H ow sl Q q =>
  h F B as σ H ow sl _ fun v B1 as1 H1 g1 p1 o1 r1 => h1 F B1 as1 σ H1 o1 (sl.mono g1.1 p1) _ fun B2 as2 H2 g2 p2 o2 => h2 F B2 as2 σ H2 o2 ((sl.mono g1.1 p1).mono g2.1 p2) _ fun B3 as3 H3 g3 p3 o3 =>
    ⟨tx l, r1, by rw [tx_len]; exact Nat.le_trans hz (by decide), q _ B3 as3 H3 (g1.trans (g2.trans g3)) (p1.trans (p2.trans p3)) o3 (by rw [cutS_tx] <;> rfl)⟩
/-- methods of texts -/
theorem ev_m0 {rm : V → List V → Hp → VK → Prop} (ha : EvE K ta G M (.d (.str l)) M1) (hr : RM K rm (.str l) [] z) : EvE K (tM0 rm ta) G M (.d z) M1 := fun F B as σ H ow sl Q q =>
  ha F B as σ H ow sl _ fun v B1 as1 H1 g1 p1 o1 r1 => ⟨⟨tx l, r1⟩, hr F B1 as1 M1 H1 v [] Q o1 r1 rfl fun w B2 H2 g2 o2 r2 => q w B2 as1 H2 (g1.trans g2) p1 o2 r2⟩
theorem ev_m1 {rm : V → List V → Hp → VK → Prop} (ha : EvE K ta G M (.d (.str l)) M1) (hb : EvE K tb G M1 (.d y) M2) (hr : RM K rm (.str l) [y] z) : EvE K (tM1 rm ta tb) G M (.d z) M2 := fun F B as σ H ow sl Q q =>
  ha F B as σ H ow sl _ fun v B1 as1 H1 g1 p1 o1 r1 => ⟨⟨tx l, r1⟩, hb F B1 as1 σ H1 o1 (sl.mono g1.1 p1) _ fun u B2 as2 H2 g2 p2 o2 r2 =>
    hr F B2 as2 M2 H2 v [u] Q o2 (Rp.mono g2.1 _ _ r1) (RpL.one r2) fun w B3 H3 g3 o3 r3 => q w B3 as2 H3 (g1.trans (g2.trans g3)) (p1.trans p2) o3 r3⟩
theorem two_str {K : PySem.W.Frag} {B : Hp} {m : List Nat} {vs : List V} (h : RpL K B [.str m] vs) : vs = [.str (tx m)] := by
  obtain ⟨v, r, e, h1, h2⟩ := h
  rw [e, show v = _ from h1, show r = [] from h2]
theorem rm_starts : RM K (fun x xs H Q => ∃ a b, x = .str a ∧ xs = [.str b] ∧ Q (.bl (Txt.startswith a b)) H) (.str l) [.str m] (.bl (pre m l)) := fun F B as M H v vs Q ow r1 r2 q =>
  ⟨tx l, tx m, r1, two_str r2, q _ B H (Gr.refl F B) ow (by rw [starts_tx] <;> rfl)⟩
theorem rm_lstrip (h : l.length ≤ 1000000) : RM K (fun x xs H Q => ∃ a b, x = .str a ∧ xs = [.str b] ∧ a.length ≤ sizeLine ∧ Q (.str (Txt.lstripChars a b)) H) (.str l) [.str m] (.str (lstripL m l)) := fun F B as M H v vs Q ow r1 r2 q =>
  ⟨tx l, tx m, r1, two_str r2, by rw [tx_len]; exact Nat.le_trans h (by decide), q _ B H (Gr.refl F B) ow (by rw [lstrip_tx] <;> rfl)⟩
theorem rm_rstrip (h : l.length ≤ 1000000) : RM K (fun x xs H Q => ∃ a b, x = .str a ∧ xs = [.str b] ∧ a.length ≤ sizeLine ∧ Q (.str (Txt.rstripChars a b)) H) (.str l) [.str m] (.str (rstripL m l)) := fun F B as M H v vs Q ow r1 r2 q =>
  ⟨tx l, tx m, r1, two_str r2, by rw [tx_len]; exact Nat.le_trans h (by decide), q _ B H (Gr.refl F B) ow (by rw [rstrip_tx] <;> rfl)⟩
theorem rm_strip (h : l.length ≤ 1000000) : RM K (fun x xs H Q => ∃ a b, x = .str a ∧ xs = [.str b] ∧ a.length ≤ sizeLine ∧ Q (.str (Txt.stripChars a b)) H) (.str l) [.str m] (.str (stripL m l)) := fun F B as M H v vs Q ow r1 r2 q =>
  ⟨tx l, tx m, r1, two_str r2, by rw [tx_len]; exact Nat.le_trans h (by decide), q _ B H (Gr.refl F B) ow (by rw [strip_tx] <;> rfl)⟩
theorem rm_upper (h : l.length ≤ 1000000) (ha : l.all (· < 128) = true) : RM K (fun x xs H Q => ∃ a, x = .str a ∧ xs = [] ∧ a.length ≤ 5592405 ∧ Q (.str (Txt.upper a)) H) (.str l) [] (.str (l.map PyProof.Rows.up1)) := fun F B as M H v vs Q ow r1 r2 q =>
  ⟨tx l, r1, r2, by rw [tx_len]; exact Nat.le_trans h (by decide), q _ B H (Gr.refl F B) ow (by show V.str _ = V.str _; congr 1; exact SX.upper_S ha)⟩
theorem rm_part (h : l.length ≤ 1000000) (hm : m ≠ []) : RM K (fun x xs H Q => ∃ a b, x = .str a ∧ xs = [.str b] ∧ (b.length == 0) = false ∧ a.length ≤ sizeLine ∧
    ∀ p, H p = none → Q (.ref p) (upd H p (.tup [.str (Txt.partition a b).1, .str (Txt.partition a b).2.1, .str (Txt.partition a b).2.2]))) (.str l) [.str m] (.tup [.str (partL m l).1, .str (partL m l).2.1, .str (partL m l).2.2]) := fun F B as M H v vs Q ow r1 r2 q =>
  ⟨tx l, tx m, r1, two_str r2, by rw [tx_len]; exact beq_eq_false_iff_ne.mpr (fun e => hm (List.length_eq_zero_iff.mp e)), by rw [tx_len]; exact Nat.le_trans h (by decide), fun p hp => by
    rw [part_tx l m hm]
    exact q _ _ _ (ow.gr hp _) (ow.new hp _) ⟨p, _, rfl, .inl (.inl upd_same), _, _, rfl, rfl, _, _, rfl, rfl, _, _, rfl, rfl, rfl⟩⟩
theorem sum_lens (xs : List (List Nat)) : ((xs.map tx).map (·.length)).sum = (xs.map (·.length)).sum := by
  rw [List.map_map]
  congr 1
theorem rm_join {xs : List (List Nat)} (h : (xs.map (·.length)).sum + xs.length * l.length ≤ 1000000) : RM K (fun x xs H Q => ∃ a p, ∃ ys : List Str, x = .str a ∧ xs = [.ref p] ∧ (SqL K H p (ys.map V.str) ∨ SqT K H p (ys.map V.str)) ∧
    (ys.map (·.length)).sum + ys.length * a.length ≤ 16777216 ∧ Q (.str (Txt.join a ys)) H) (.str l) [.lst (xs.map Dt.str)] (.str (TL.joinL l xs)) := fun F B as M H v vs Q ow r1 r2 q => by
  obtain ⟨v1, rr, e, h1, h2⟩ := r2
  obtain ⟨a, us, e1, h3, h4⟩ := h1
  have e2 := h4.strs
  subst e2; subst e1
  have h2 : rr = [] := h2
  subst h2
  refine ⟨tx l, a, xs.map tx, r1, e, .inl (ow.bb.seq h3), ?_, q _ B H (Gr.refl F B) ow ?_⟩
  · rw [sum_lens, List.length_map, tx_len]
    exact Nat.le_trans h (by decide)
  · show V.str _ = V.str _
    congr 1
    exact SX.join_S l xs
/-- calls of built-ins -/
theorem rc_lenS (h : l.length ≤ 1000000) : RC K (fun xs H Q => ∃ z, xs = [.str z] ∧ z.length ≤ sizeLine ∧ Q (.int z.length) H) [.str l] (.int (l.length : Nat)) := fun F B as M H vs Q ow r q =>
  ⟨tx l, two_str r, by rw [tx_len]; exact Nat.le_trans h (by decide), q _ B H (Gr.refl F B) ow (by rw [tx_len] <;> rfl)⟩
theorem rc_lenL {xs : List Dt} : RC K (fun xs H Q => ∃ p ys, xs = [.ref p] ∧ (SqL K H p ys ∨ SqT K H p ys) ∧ Q (.int ys.length) H) [.lst xs] (.int (xs.length : Nat)) := fun F B as M H vs Q ow r q => by
  obtain ⟨v1, rr, e, h1, h2⟩ := r
  obtain ⟨a, us, e1, h3, h4⟩ := h1
  have h2 : rr = [] := h2
  subst h2; subst e1
  exact ⟨a, us, e, .inl (ow.bb.seq h3), q _ B H (Gr.refl F B) ow (by rw [h4.len] <;> rfl)⟩
theorem rc_lenT {xs : List Dt} : RC K (fun xs H Q => ∃ p ys, xs = [.ref p] ∧ (SqL K H p ys ∨ SqT K H p ys) ∧ Q (.int ys.length) H) [.tup xs] (.int (xs.length : Nat)) := fun F B as M H vs Q ow r q => by
  obtain ⟨v1, rr, e, h1, h2⟩ := r
  obtain ⟨a, us, e1, h3, h4⟩ := h1
  have h2 : rr = [] := h2
  subst h2; subst e1
  exact ⟨a, us, e, .inr (same_t ow.bb h3), q _ B H (Gr.refl F B) ow (by rw [h4.len] <;> rfl)⟩
theorem one_int {K : PySem.W.Frag} {B : Hp} {i : Int} {vs : List V} (h : RpL K B [.int i] vs) : vs = [.int i] := by
  obtain ⟨v, r, e, h1, h2⟩ := h
  rw [e, show v = _ from h1, show r = [] from h2]
theorem two_int {K : PySem.W.Frag} {B : Hp} {i j : Int} {vs : List V} (h : RpL K B [.int i, .int j] vs) : vs = [.int i, .int j] := by
  obtain ⟨v, r, e, h1, w, r2, e2, h2, h3⟩ := h
  rw [e, e2, show v = _ from h1, show w = _ from h2, show r2 = [] from h3]
theorem rc_int1 : RC K (fun xs H Q => (∃ i, xs = [.int i] ∧ Q (.int i) H) ∨ ∃ k, xs = [.bl k] ∧ Q (.int (if k then 1 else 0)) H) [.int i] (.int i) := fun F B as M H vs Q ow r q =>
  .inl ⟨i, one_int r, q _ B H (Gr.refl F B) ow rfl⟩
theorem rc_intB : RC K (fun xs H Q => (∃ i, xs = [.int i] ∧ Q (.int i) H) ∨ ∃ k, xs = [.bl k] ∧ Q (.int (if k then 1 else 0)) H) [.bl b] (.int (if b then 1 else 0)) := fun F B as M H vs Q ow r q =>
  .inr ⟨b, by
    obtain ⟨v, r, e, h1, h2⟩ := r
    rw [e, show v = _ from h1, show r = [] from h2], q _ B H (Gr.refl F B) ow rfl⟩
theorem rc_abs : RC K (fun xs H Q => ∃ i, xs = [.int i] ∧ Q (.int (if i < 0 then -i else i)) H) [.int i] (.int (if i < 0 then -i else i)) := fun F B as M H vs Q ow r q => ⟨i, one_int r, q _ B H (Gr.refl F B) ow rfl⟩
theorem rc_max2 : RC K (fun xs H Q => ∃ i j, xs = [.int i, .int j] ∧ Q (.int (if j > i then j else i)) H) [.int i, .int j] (.int (if j > i then j else i)) := fun F B as M H vs Q ow r q => ⟨i, j, two_int r, q _ B H (Gr.refl F B) ow rfl⟩
theorem rc_min2 : RC K (fun xs H Q => ∃ i j, xs = [.int i, .int j] ∧ Q (.int (if j < i then j else i)) H) [.int i, .int j] (.int (if j < i then j else i)) := fun F B as M H vs Q ow r q => ⟨i, j, two_int r, q _ B H (Gr.refl F B) ow rfl⟩
theorem rc_all {bs : List Bool} : RC K (rAll K) [.lst (bs.map Dt.bl)] (.bl (bs.all id)) := fun F B as M H vs Q ow r q => by
  obtain ⟨v1, rr, e, h1, h2⟩ := r
  obtain ⟨a, us, e1, h3, h4⟩ := h1
  have e2 := h4.bls
  have h2 : rr = [] := h2
  subst h2; subst e2; subst e1
  exact ⟨a, bs, e, ow.bb.seq h3, q _ B H (Gr.refl F B) ow rfl⟩
theorem rc_any {bs : List Bool} : RC K (rAny K) [.lst (bs.map Dt.bl)] (.bl (bs.any id)) := fun F B as M H vs Q ow r q => by
  obtain ⟨v1, rr, e, h1, h2⟩ := r
  obtain ⟨a, us, e1, h3, h4⟩ := h1
  have e2 := h4.bls
  have h2 : rr = [] := h2
  subst h2; subst e2; subst e1
  exact ⟨a, bs, e, ow.bb.seq h3, q _ B H (Gr.refl F B) ow rfl⟩
/-- items -/
theorem at_rp {K : PySem.W.Frag} {B : Hp} {xs : List Dt} {vs : List V} {i : Int} (r : RpL K B xs vs) (h : atI xs i = some x) : ∃ v, atI vs i = some v ∧ Rp K B x v := by
  unfold atI at h ⊢
  rw [r.len]
  cases e : ixN xs.length i with
  | none => rw [e] at h; cases h
  | some j =>
    rw [e] at h
    exact r.get h
theorem ro_ixL {xs : List Dt} (h : atI xs i = some x) : RO K (rIxL K) (.lst xs) (.int i) x := fun F B as M H v u Q ow r1 r2 q => by
  obtain ⟨a, us, e1, h3, h4⟩ := r1
  obtain ⟨w, hw, hr⟩ := at_rp h4 h
  exact ⟨a, us, i, w, e1, r2, ow.bb.seq h3, hw, q w B H (Gr.refl F B) ow hr⟩
theorem ro_ixT {xs : List Dt} (h : atI xs i = some x) : RO K (rIxT K) (.tup xs) (.int i) x := fun F B as M H v u Q ow r1 r2 q => by
  obtain ⟨a, us, e1, h3, h4⟩ := r1
  obtain ⟨w, hw, hr⟩ := at_rp h4 h
  exact ⟨a, us, i, w, e1, r2, same_t ow.bb h3, hw, q w B H (Gr.refl F B) ow hr⟩
theorem ro_ixS {c : Nat} (hl : l.length ≤ 1000000) (h : atI l i = some c) : RO K rIxS (.str l) (.int i) (.str [c]) := fun F B as M H v u Q ow r1 r2 q =>
  ⟨tx l, i, c, r1, r2, by rw [tx_len]; exact Nat.le_trans hl (by decide), h, q _ B H (Gr.refl F B) ow rfl⟩
/-- of what is owned -/
theorem ev_ixO {k : Nat} {xs : List Dt} (ha : EvE K ta G M (.o k) M1) (hb : EvE K tb G M1 (.d (.int i)) M2) (hm : M2[k]? = some (.lst xs)) (h : atI xs i = some x) : EvE K (tOp (rIxL K) ta tb) G M (.d x) M2 := fun F B as σ H ow sl Q q =>
  ha F B as σ H ow sl _ fun v B1 as1 H1 g1 p1 o1 r1 => hb F B1 as1 σ H1 o1 (sl.mono g1.1 p1) _ fun u B2 as2 H2 g2 p2 o2 r2 => by
    obtain ⟨a, ha, rfl⟩ := r1
    obtain ⟨_, _, vs, hv, hr⟩ := o2.own k a _ (p2.get ha) hm (fun z => nomatch z)
    obtain ⟨w, hw, hx⟩ := at_rp hr h
    exact ⟨a, vs, i, w, rfl, r2, .inl (.inl hv), hw, q w B2 as2 H2 (g1.trans g2) (p1.trans p2) o2 hx⟩
theorem ev_lenO {k : Nat} {xs : List Dt} (ha : EvE K ta G M (.o k) M1) (hm : M1[k]? = some (.lst xs)) : EvE K (tCB (fun xs H Q => ∃ p ys, xs = [.ref p] ∧ (SqL K H p ys ∨ SqT K H p ys) ∧ Q (.int ys.length) H) (tCons ta tNil)) G M (.d (.int (xs.length : Nat))) M1 := fun F B as σ H ow sl Q q =>
  ha F B as σ H ow sl _ fun v B1 as1 H1 g1 p1 o1 r1 => by
    obtain ⟨a, ha, rfl⟩ := r1
    obtain ⟨_, _, vs, hv, hr⟩ := o1.own k a _ ha hm (fun z => nomatch z)
    exact ⟨a, vs, rfl, .inl (.inl (.inl hv)), q _ B1 as1 H1 g1 p1 o1 (by rw [hr.len] <;> rfl)⟩
theorem es_setO {to ti : TE} {k j : Nat} {xs : List Dt} (h : EvE K te G M (.d x) M1) (ho : EvE K to G M1 (.o k) M2) (hi : EvE K ti G M2 (.d (.int i)) M3) (hm : M3[k]? = some (.lst xs)) (hj : ixN xs.length i = some j) :
    EvS K (tAsg te (gSub to ti rSetL)) G M (.nx G (M3.set k (.lst (xs.set j x)))) := fun F B as σ H ow sl D gd =>
  h F B as σ H ow sl _ fun v B1 as1 H1 g1 p1 o1 r1 => ho F B1 as1 σ H1 o1 (sl.mono g1.1 p1) _ fun w B2 as2 H2 g2 p2 o2 r2 => hi F B2 as2 σ H2 o2 ((sl.mono g1.1 p1).mono g2.1 p2) _ fun u B3 as3 H3 g3 p3 o3 r3 => by
    obtain ⟨a, ha, rfl⟩ := r2
    have ha := p3.get ha
    obtain ⟨_, _, vs, hv, hr⟩ := o3.own k a _ ha hm (fun z => nomatch z)
    refine ⟨a, vs, i, j, rfl, r3, hv, by rw [hr.len]; exact hj, gd B3 as3 σ _ (g1.trans (g2.trans g3)) (p1.trans (p2.trans p3)) (o3.put ha hm (fun z => nomatch z) ⟨_, upd_same, RpL.set (Rp.mono (g2.1.trans g3.1) _ _ r1) j hr⟩) (((sl.mono g1.1 p1).mono g2.1 p2).mono g3.1 p3)⟩
theorem es_appO {to : TE} {k : Nat} {xs : List Dt} (ho : EvE K to G M (.o k) M1) (h : EvE K te G M1 (.d x) M2) (hk : ∃ ys, M1[k]? = some (.lst ys)) (hm : M2[k]? = some (.lst xs)) (hz : xs.length < 1000000) :
    EvS K (tDrop (tBM K "list" rAppend to (tCons te tNil))) G M (.nx G (M2.set k (.lst (xs ++ [x])))) := fun F B as σ H ow sl D gd =>
  ho F B as σ H ow sl _ fun w B1 as1 H1 g1 p1 o1 r1 => by
    obtain ⟨a, ha, rfl⟩ := r1
    obtain ⟨ys, hy⟩ := hk
    obtain ⟨_, _, vs1, hv1, _⟩ := o1.own k a _ ha hy (fun z => nomatch z)
    refine ⟨.inl ⟨rfl, vs1, .inl (.inl hv1)⟩, h F B1 as1 σ H1 o1 (sl.mono g1.1 p1) _ fun v B2 as2 H2 g2 p2 o2 r2 => ?_⟩
    have ha := p2.get ha
    obtain ⟨_, _, vs, hv, hr⟩ := o2.own k a _ ha hm (fun z => nomatch z)
    refine ⟨a, vs, v, rfl, rfl, hv, by rw [hr.len]; exact Nat.lt_trans hz (by decide), gd B2 as2 σ _ (g1.trans g2) (p1.trans p2) (o2.put ha hm (fun z => nomatch z) ⟨_, upd_same, RpL.append hr (RpL.one r2)⟩) ((sl.mono g1.1 p1).mono g2.1 p2)⟩
end
end DJ
namespace DJ
open PySem PySem.Spec PyProof.Rows L2
/-! ### defs of the text, what they promise -/
structure Df (K : PySem.W.Frag) (mg : Str → Option Value) (x : Str) (st : Stmt) (ps : List Str) : Prop where
  ex : ∃ (f : Addr) (fd : FuncData), L2.Fun K x x st f fd ∧ mg x = some (.ref f) ∧ Binds K fd ps []
structure Cal (P : Program) (w : World) (K : PySem.W.Frag) (mg : Str → Option Value) (base : Heap) (k : Nat) (x : Str) (sp : Sp) (dvs : List V) : Prop where
  ex : ∃ (f : Addr) (fd : FuncData) (ps : List Str) (ds : List Value), FnOk P w K mg base CX0 k f fd ps sp ∧ mg x = some (.ref f) ∧ PySem.W.keepIn K (.ref f) = true ∧ Binds K fd ps ds ∧ Vals dvs ds
/-- a module's constant -/
structure Gc (K : PySem.W.Frag) (mg : Str → Option Value) (x : Str) (d : Dt) : Prop where
  ex : ∃ (v : V) (u : Value), mg x = some u ∧ RelV v u ∧ ∀ B, Rp K B d v
section
variable {P : Program} {w : World} {K : PySem.W.Frag} {mg : Str → Option Value} {base : Heap}
theorem cal_mk {x : Str} {st : Stmt} {N ps : List Str} {k n : Nat} {R : List Sl → List MO → Sl → List MO → Prop} (D : Df K mg x st ps) (S : FnScope N ps (defScope st)) (hn : ps.length = n)
    (hb : ∀ (f : Addr) (cdv : Value) (A : Around) (outer : List Env) (s : Shared) (H : Hp) (E : XK), Room k (A.deeper (envOfC x (defScope st) s.heap.objs.size f cdv)) → ∀ ss M r M', R ss M r M' →
      ∃ t X, PSs (cxOf CX0 P w K mg base N x (defScope st) f cdv A outer s H E).nox (defBody st) t ∧ EvS K t (start N.length ss) M (.rt r (M' ++ X)) ∧ M.length ≤ M'.length ∧ ∀ j, r = .o j → j < M'.length) :
    Cal P w K mg base (k + 1) x (SpR K n R) [] := by
  obtain ⟨f, fd, F, hm, b⟩ := D.ex
  refine ⟨f, fd, ps, [], F.ok S (fun vs H Q E h => ?_) (fun cdv A outer s H vs Q E hr h => ?_), hm, F.kp, b, .nil⟩
  · obtain ⟨_, _, _, _, _, _, _, _, _, _, e, _⟩ := h
    rw [e, hn]
  · obtain ⟨F', B, as, ss, M, r, M', hR, ow, sl, _, q⟩ := h
    obtain ⟨t, X, ht, he, hl, hr'⟩ := hb f cdv A outer s H E hr ss M r M' hR
    exact ⟨t, ht, run_body (X := X) he hl hr' ow sl q⟩
/-- .. of a body that comes to its end, or where a token must be out -/
theorem cal_mkN {x : Str} {st : Stmt} {N ps : List Str} {k n : Nat} {R : List Sl → List MO → Sl → List MO → Prop} (D : Df K mg x st ps) (S : FnScope N ps (defScope st)) (hn : ps.length = n)
    (hb : ∀ (f : Addr) (cdv : Value) (A : Around) (outer : List Env) (s : Shared) (H : Hp) (E : XK), Room k (A.deeper (envOfC x (defScope st) s.heap.objs.size f cdv)) → ∀ ss M r M', R ss M r M' →
      ∃ t X G1, PSs (cxOf CX0 P w K mg base N x (defScope st) f cdv A outer s H E).nox (defBody st) t ∧ EvS K t (start N.length ss) M (.nx G1 (M' ++ X)) ∧ M.length ≤ M'.length ∧ r = .d .non) :
    Cal P w K mg base (k + 1) x (SpR K n R) [] := by
  obtain ⟨f, fd, F, hm, b⟩ := D.ex
  refine ⟨f, fd, ps, [], F.ok S (fun vs H Q E h => ?_) (fun cdv A outer s H vs Q E hr h => ?_), hm, F.kp, b, .nil⟩
  · obtain ⟨_, _, _, _, _, _, _, _, _, _, e, _⟩ := h
    rw [e, hn]
  · obtain ⟨F', B, as, ss, M, r, M', hR, ow, sl, _, q⟩ := h
    obtain ⟨t, X, G1, ht, he, hl, hr'⟩ := hb f cdv A outer s H E hr ss M r M' hR
    subst hr'
    exact ⟨t, ht, run_bodyN (X := X) he hl ow sl q⟩
theorem cal_mkT {x : Str} {st : Stmt} {N ps : List Str} {k n : Nat} {R : List Sl → List MO → Sl → List MO → Prop} (D : Df K mg x st ps) (S : FnScope N ps (defScope st)) (hn : ps.length = n) (hnc : ∀ y ∈ (defScope st).names, y.2 ≠ .cell) (h1 : 1 ≤ ps.length)
    (hb : ∀ (f : Addr) (cdv : Value) (A : Around) (outer : List Env) (s : Shared) (H : Hp) (E : XK), Room k (A.deeper (envOfC x (defScope st) s.heap.objs.size f cdv)) → ∀ ss M r M', R ss M r M' →
      ∃ t X, PSsT (cxOf CX0 P w K mg base N x (defScope st) f cdv A outer s H E) (defBody st) t ∧ EvS K t (start N.length ss) M (.rt r (M' ++ X)) ∧ M.length ≤ M'.length ∧ ∀ j, r = .o j → j < M'.length) :
    Cal P w K mg base (k + 1) x (SpR K n R) [] := by
  obtain ⟨f, fd, F, hm, b⟩ := D.ex
  obtain ⟨oc, od, kV, doc, pm, an, cdv, ct, osl, rfl, lk, hcd⟩ := F.ex
  refine ⟨f, _, ps, [], fn_ofT lk hcd S hnc h1 (fun vs H Q E h => ?_) (fun A outer s H vs Q E hr h => ?_), hm, F.kp, b, .nil⟩
  · obtain ⟨_, _, _, _, _, _, _, _, _, _, e, _⟩ := h
    rw [e, hn]
  · obtain ⟨F', B, as, ss, M, r, M', hR, ow, sl, _, q⟩ := h
    obtain ⟨t, X, ht, he, hl, hr'⟩ := hb f cdv A outer s H E hr ss M r M' hR
    exact ⟨t, ht, run_body (X := X) he hl hr' ow sl q⟩
end
section
variable {X : Cx} {k j : Nat} {x : Str} {sp : Sp} {dvs : List V} {p pos apos : Pos} {e o : Expr} {es : List Expr} {ta te to : TE} {t : TA}
theorem pe_c (c : Cal X.prog X.w X.K X.mg X.base k x sp dvs) (hr : Room j X.A) (hk : k ≤ j) (hg : Gl X x) (ha : PA X (e :: es) t)
    (hdb : (x == ("__debug__" : Str)) = false := by decide) (he : starEach (e :: es) X.env = (false, eval e X.env) :: starEach es X.env := by rfl) (hpl : (backTo pos (starEach es X.env)).any (·.1) = false := by rfl) :
    PE X (.Call (.Name x p) (e :: es) [] pos) (tCall sp dvs L2.E0 t) := by
  obtain ⟨f, fd, ps, ds, F, hm, kp, b, d⟩ := c.ex
  exact pe_call F (hr.mono hk) hg hm kp b d L2.pass0 ha hdb he hpl
theorem pe_c0 (c : Cal X.prog X.w X.K X.mg X.base k x sp dvs) (hr : Room j X.A) (hk : k ≤ j) (hg : Gl X x) (hdb : (x == ("__debug__" : Str)) = false := by decide) : PE X (.Call (.Name x p) [] [] pos) (tCall sp dvs L2.E0 tNil) := by
  obtain ⟨f, fd, ps, ds, F, hm, kp, b, d⟩ := c.ex
  exact pe_call0 F (hr.mono hk) hg hm kp b d L2.pass0 hdb
/-- a token is out: e.replace(y, z), and what stands around it -/
theorem pet_m1 {id : String} {name : Str} {r : V → List V → Hp → VK → Prop} (slot : Slot "str" name id) (ty : typeOf (.builtin id) = pure (.type "method_descriptor")) (rule : MtR X id r) (ho : PET X o to) (he : PE X e te)
    (hs : starEach [e] X.env = [(false, eval e X.env)] := by rfl) (hbase : attributeBase o name X.env (eval o X.env) = eval o X.env := by rfl) (hline : (apos.endLine == pos.line) = true := by rfl) :
    PET X (.Call (.Attribute o name apos) [e] [] pos) (tM1 r to te) := by
  intro pins s σ H Q h0 I h
  refine PySem.Call_method1 hbase hs hline (thn (ho pins s σ H _ h0 I h) fun v s1 ⟨x, H1, I1, r1, q1⟩ => ?_)
  obtain ⟨⟨a, rfl⟩, q1⟩ := q1
  obtain ⟨t, rfl⟩ := _root_.id r1
  refine ⟨"str", _, F.plainAttrs_str, slot, ty, typeIs_str _ _ _, (fun _ e => nomatch e), Calls.callWith_builtin rfl (Calls.evalArgs_plain (Calls.spliced_cons ?_))⟩
  exact thn (he.run pins s1 σ H1 _ I1 q1) fun u s2 ⟨y, H2, I2, r2, q2⟩ => Calls.spliced_nil (rule pins s2 σ H2 _ [y] _ [u] Q I2 r1 (.cons r2 .nil) q2)
theorem pst_asg {target : Expr} {g : TG} (he : PET X e te) (hg : PG X target g) (hs : swapsWithSole [target] e pos.line X.env = pure false := by rfl) (hw : swappedStores [target] e X.env = pure none := by rfl)
    (h1 : (assignEach [target] X.env).map (·.2) = [assign target X.env] := by rfl) : PST X (.Assign [target] e pos) (tAsg te g) := fun pins s σ H D h0 I h =>
  wpAny_Assign_stores (thn (he pins s σ H _ h0 I h) fun v s1 ⟨x, H1, I1, r1, q1⟩ => by
    rw [h1]
    exact thn (hg.run pins s1 σ H1 x v _ I1 r1 q1) fun _ s2 q => q) hs hw
end
/-! ### comprehensions of typed things -/
theorem mapS_map {β : Type} (f : β → Dt) : ∀ (xs : List β) (m : Unit), (mapS (fun (_ : Unit) x => some (f x, ())) (fun m _ => m) xs m).1 = xs.map f
  | [], _ => rfl
  | x :: xs, m => by
    simp only [mapS, List.map_cons]
    rw [mapS_map f xs]
theorem mapS_filter {β : Type} (p : β → Bool) (f : β → Dt) : ∀ (xs : List β) (m : Unit), (mapS (fun (_ : Unit) x => if p x = true then some (f x, ()) else none) (fun m _ => m) xs m).1 = (xs.filter p).map f
  | [], _ => rfl
  | x :: xs, m => by
    simp only [mapS]
    cases h : p x with
    | true => simp [h, mapS_filter p f xs]
    | false => simp [h, mapS_filter p f xs]
/-- a mapping that hands a state on -/
def mapA {μ β γ : Type} (f : μ → β → γ × μ) : List β → μ → List γ × μ
  | [], m => ([], m)
  | x :: xs, m => ((f m x).1 :: (mapA f xs (f m x).2).1, (mapA f xs (f m x).2).2)
theorem mapS_acc {μ β γ : Type} (en : γ → Dt) (f : μ → β → γ × μ) : ∀ (xs : List β) (m : μ), mapS (fun m x => some (en (f m x).1, (f m x).2)) (fun m _ => m) xs m = ((mapA f xs m).1.map en, (mapA f xs m).2)
  | [], _ => rfl
  | x :: xs, m => by
    simp only [mapS, mapA, List.map_cons]
    rw [mapS_acc en f xs]
section
variable {K : PySem.W.Frag} {G G1 : List (Option Sl)} {M : List MO} {te : TE}
theorem et_yes : EvT K tYes G M true M := fun F B as σ H ow sl Q q => q B as H (Gr.refl F B) (Px.refl as) ow
theorem ev_lcM {β : Type} {wi : TI} {g : TG} {vs : List Nat} (xs : List β) (en f : β → Dt) (hI : EvI K wi G M (xs.map en) M) (hx : xs.length ≤ 100000)
    (hw : ∀ v σ H Q, g v (wipe σ vs) H (fun σ2 H2 => wipe σ2 vs = wipe σ vs → Q σ2 H2) → g v (wipe σ vs) H Q) (turn : ∀ x, x ∈ xs → ∃ G1, EvG K g (wipeG G vs) (.d (en x)) G1 ∧ EvE K te G1 M (.d (f x)) M) :
    EvE K (tLc wi g tYes te vs) G M (.d (.lst (xs.map f))) M := by
  rw [← mapS_map f xs ()]
  exact ev_lc xs en (fun _ => M) (fun (_ : Unit) x => some (f x, ())) (fun m _ => m) () hI hx hw fun m x hm => by
    obtain ⟨G1, h1, h2⟩ := turn x hm
    exact ⟨G1, h1, M, et_yes, h2⟩
theorem ev_lcF {β : Type} {wi : TI} {g : TG} {tt : TT} {vs : List Nat} (xs : List β) (en f : β → Dt) (p : β → Bool) (hI : EvI K wi G M (xs.map en) M) (hx : xs.length ≤ 100000)
    (hw : ∀ v σ H Q, g v (wipe σ vs) H (fun σ2 H2 => wipe σ2 vs = wipe σ vs → Q σ2 H2) → g v (wipe σ vs) H Q) (turn : ∀ x, x ∈ xs → ∃ G1, EvG K g (wipeG G vs) (.d (en x)) G1 ∧ EvT K tt G1 M (p x) M ∧ (p x = true → EvE K te G1 M (.d (f x)) M)) :
    EvE K (tLc wi g tt te vs) G M (.d (.lst ((xs.filter p).map f))) M := by
  rw [← mapS_filter p f xs ()]
  exact ev_lc xs en (fun _ => M) (fun (_ : Unit) x => if p x = true then some (f x, ()) else none) (fun m _ => m) () hI hx hw fun m x hm => by
    obtain ⟨G1, h1, h2, h3⟩ := turn x hm
    refine ⟨G1, h1, ?_⟩
    cases e : p x with
    | true => rw [e] at h2; exact ⟨M, h2, h3 e⟩
    | false => rw [e] at h2; exact h2
theorem ev_lcA {μ β γ : Type} {wi : TI} {g : TG} {vs : List Nat} (xs : List β) (en : β → Dt) (ec : γ → Dt) (encM : μ → List MO) (f : μ → β → γ × μ) (m0 : μ) (hI : EvI K wi G M (xs.map en) (encM m0)) (hx : xs.length ≤ 100000)
    (hw : ∀ v σ H Q, g v (wipe σ vs) H (fun σ2 H2 => wipe σ2 vs = wipe σ vs → Q σ2 H2) → g v (wipe σ vs) H Q) (turn : ∀ m x, x ∈ xs → ∃ G1, EvG K g (wipeG G vs) (.d (en x)) G1 ∧ EvE K te G1 (encM m) (.d (ec (f m x).1)) (encM (f m x).2)) :
    EvE K (tLc wi g tYes te vs) G M (.d (.lst ((mapA f xs m0).1.map ec))) (encM (mapA f xs m0).2) := by
  have h := ev_lc (te := te) xs en encM (fun m x => some (ec (f m x).1, (f m x).2)) (fun m _ => m) m0 hI hx hw fun m x hm => by
    obtain ⟨G1, h1, h2⟩ := turn m x hm
    exact ⟨G1, h1, encM m, et_yes, h2⟩
  rw [mapS_acc] at h
  exact h
end
/-! ### walks by a step, truth of numbers -/
section
variable {K : PySem.W.Frag} {B : Hp} {G G1 : List (Option Sl)} {M M1 M2 : List MO} {te ta tb : TE} {i j : Int} {l m : List Nat} {b : Bool} {x z : Dt}
theorem yl_step {lo c : Int} {n : Nat} : Yl K B (Itc lo c n) ((List.range n).map fun (i : Nat) => .int (lo + (i : Nat) * c)) := fun F B' as M H i e ow => by
  refine ⟨fun x hx => ?_, fun hi => ?_⟩
  · rw [List.getElem?_map] at hx
    by_cases hi : i < n
    · rw [List.getElem?_range hi] at hx
      have hx : Dt.int (lo + (i : Nat) * c) = x := Option.some.inj hx
      subst hx
      refine ⟨hi, fun v H' y => ?_⟩
      obtain ⟨rfl, rfl⟩ := y
      exact ⟨B', Gr.refl F B', ow, rfl⟩
    · rw [List.getElem?_eq_none (by rw [List.length_range]; omega)] at hx
      cases hx
  · rw [List.length_map, List.length_range] at hi
    exact hi
theorem ei_rng3 {t : TA} {c : Int} {n : Nat} (h : EvA K t G M [.d (.int i), .d (.int j), .d (.int c)] M1) (hn : RgC i j c n) : EvI K (iRng3 t) G M ((List.range n).map fun (k : Nat) => .int (i + (k : Nat) * c)) M1 := fun F B as σ H ow sl R q =>
  h F B as σ H ow sl _ fun vs B' as' H' g p o' r => by
    obtain ⟨v, r1, e1, h1, w, r2, e2, h2, u, r3, e3, h3, e4⟩ := r
    have e4 : r3 = [] := e4
    have h1 : v = V.int i := h1
    have h2 : w = V.int j := h2
    have h3 : u = V.int c := h3
    subst e4; subst e3; subst e2; subst e1; subst h1; subst h2; subst h3
    exact ⟨i, j, c, n, rfl, hn, q _ B' as' H' g p o' yl_step⟩
theorem et_int (h : EvE K te G M (.d (.int i)) M1) : EvT K (fun σ H Q => te σ H fun x H' => ∃ k, TruV K x H' k ∧ Q k H') G M (i != 0) M1 := fun F B as σ H ow sl Q q =>
  h F B as σ H ow sl _ fun v B1 as1 H1 g p o r => by
    have r : v = .int i := r
    subst r
    exact ⟨_, rfl, q B1 as1 H1 g p o⟩
/-- numbers and texts -/
theorem rc_str (h : i.natAbs.log2 < 1920) (h0 : 0 ≤ i) : RC K (fun xs H Q => ∃ i, xs = [.int i] ∧ i.natAbs.log2 < 1920 ∧ Q (.str (toString i)) H) [.int i] (.str (TL.numL i.toNat)) := fun F B as M H vs Q ow r q =>
  ⟨i, one_int r, h, q _ B H (Gr.refl F B) ow (by
    obtain ⟨n, rfl⟩ := Int.eq_ofNat_of_zero_le h0
    show V.str _ = V.str _
    congr 1
    exact SX.num_S n)⟩
/-- noughts ahead -/
def zfillL (n : Nat) (l : List Nat) : List Nat := List.replicate (n - l.length) 48 ++ l
theorem rm_zfill {n : Nat} (hn : n ≤ 1000000) (h0 : l[0]? ≠ some 43) (h1 : l[0]? ≠ some 45) : RM K (fun x xs H Q => ∃ (a : Str) (i : Int), x = .str a ∧ xs = [.int i] ∧ PadOk i = true ∧ Q (.str (Txt.zfill a i)) H) (.str l) [.int (n : Int)] (.str (zfillL n l)) := fun F B as M H v vs Q ow r1 r2 q => by
  refine ⟨tx l, n, r1, one_int r2, ?_, q _ B H (Gr.refl F B) ow ?_⟩
  · unfold PadOk Builtin.Str.tooLong
    have e1 : PySem.fitsSsize (n : Int) = true := by
      unfold PySem.fitsSsize
      rw [Bool.not_eq_true']
      refine Bool.or_eq_false_iff.mpr ⟨decide_eq_false (by omega), decide_eq_false (by omega)⟩
    rw [e1, Bool.true_and, Bool.not_eq_true']
    refine decide_eq_false ?_
    show ¬ (n : Int).toNat > 2 ^ 24
    rw [Int.toNat_natCast]
    omega
  · show V.str _ = V.str _
    congr 1
    unfold Txt.zfill zfillL
    rw [tx_len]
    by_cases h : (n : Int) ≤ l.length
    · rw [if_pos h, show n - l.length = 0 by omega]
      rfl
    · rw [if_neg h]
      have e : (tx l).cps[0]? = l[0]? := by rw [show (tx l).cps = l.toArray from rfl, List.getElem?_toArray]
      have e2 : zfilled (tx l) ((n : Int).toNat - l.length) = Builtin.Str.padded (tx l) ((n : Int).toNat - l.length) 0 48 := by
        unfold zfilled
        rw [e]
        split
        · rename_i c; exact absurd c h0
        · rename_i c; exact absurd c h1
        · rfl
      rw [e2, Int.toNat_natCast]
      refine TL.ext_tl ?_
      show (Array.replicate (n - l.length) 48 ++ l.toArray ++ Array.replicate 0 48).toList = _
      simp
theorem rc_divmod (h0 : 0 < j) (h1 : j.natAbs.log2 < 9000) : RC K (fun xs H Q => ∃ i j, xs = [.int i, .int j] ∧ CDivP i j ∧ ∀ p, H p = none → Q (.ref p) (upd H p (.tup [.int (i / j), .int (i % j)]))) [.int i, .int j] (.tup [.int (i / j), .int (i % j)]) := fun F B as M H vs Q ow r q =>
  ⟨i, j, two_int r, ⟨h0, by
    unfold Builtin.divisionGoesByPylong
    have e : ((if (j == 0) = true then 0 else j.natAbs.log2 / 30 + 1) > 300) = False := by
      rw [if_neg (by simpa using (show j ≠ 0 by omega))]
      exact eq_false (by omega)
    simp only [e, decide_false, Bool.false_and]⟩, fun p hp => q _ _ _ (ow.gr hp _) (ow.new hp _) ⟨p, _, rfl, .inl (.inl upd_same), _, _, rfl, rfl, _, _, rfl, rfl, rfl⟩⟩
theorem rc_intS (h : l.all (fun c => decide (48 ≤ c) && decide (c ≤ 57)) = true) (hne : l ≠ []) (hl : l.length ≤ 640) : RC K (fun xs H Q => ∃ a n, xs = [.str a] ∧ PySem.intText? a = some n ∧ a.length ≤ 640 ∧ Q (.int n) H) [.str l] (.int ((NumText.digitsVal l : Nat) : Int)) := fun F B as M H vs Q ow r q =>
  ⟨tx l, _, two_str r, SX.int_S h hne (by omega), by rw [tx_len]; exact hl, q _ B H (Gr.refl F B) ow rfl⟩
theorem ev_revO {k : Nat} {xs : List Dt} (h : EvE K te G M (.o k) M1) (hm : M1[k]? = some (.lst xs)) : EvE K (tRevL K te) G M (.d (.lst xs.reverse)) M1 := fun F B as σ H ow sl Q q =>
  h F B as σ H ow sl _ fun v B1 as1 H1 g1 p1 o1 r1 => by
    obtain ⟨a, ha, rfl⟩ := r1
    obtain ⟨_, _, vs, hv, hr⟩ := o1.own k a _ ha hm (fun z => nomatch z)
    refine ⟨a, vs, rfl, .inl (.inl hv), fun p hp => ?_⟩
    have g2 := o1.gr hp (.lst vs.reverse)
    exact q _ _ as1 _ (g1.trans g2) p1 (o1.new hp _) ⟨p, vs.reverse, rfl, .inl (.inl upd_same), RpL.mono g2.1 _ _ hr.reverse⟩
theorem ev_repl {y z : List Nat} {ys zs : Str} (h : EvE K te G M (.d (.str l)) M1) (hy : ys = tx y) (hz : zs = tx z) (h1 : 1 ≤ y.length) (hl : l.length + (l.length + 1) * z.length ≤ 1000000) : EvE K (CwR.tReplC te ys zs) G M (.d (.str (StrLaws.replL y z l))) M1 := fun F B as σ H ow sl Q q =>
  h F B as σ H ow sl _ fun v B1 as1 H1 g1 p1 o1 r1 => ⟨tx l, r1, by rw [hz, tx_len, tx_len]; exact Nat.le_trans hl (by decide), q _ B1 as1 H1 g1 p1 o1 (by rw [hy, hz, repl_tx l y z h1] <;> rfl)⟩
end
end DJ
namespace DJ
open PySem PySem.Spec PyProof.Rows L2
section
variable {K : PySem.W.Frag} {G G1 G2 : List (Option Sl)} {M M1 M2 M3 : List MO} {s r : Sl} {ta tb te : TE} {tt : TT} {t u w : TS} {x y z : Dt} {b : Bool} {i j : Int} {l m : List Nat} {o : Out}
theorem es_retD (h : EvE K te G M (.d x) M1) (e : x = y) : EvS K (tRet te) G M (.rt (.d y) M1) := es_ret (ev_isD h e)
/-- an if that hands back, then the rest -/
theorem es_guard (h : EvT K tt G M b M1) (h1 : b = true → EvS K t G M1 (.rt r M2)) (h2 : b = false → EvS K u G M1 (.rt r M2)) : EvS K (tSeq (tIfS tt t tNext) u) G M (.rt r M2) := fun F B as σ H ow sl D gd =>
  h F B as σ H ow sl _ fun B' as' H' g p o' => by
    cases b with
    | true => exact h1 rfl F B' as' σ H' o' (sl.mono g.1 p) { D with nx := u D } (gd.later g p)
    | false => exact h2 rfl F B' as' σ H' o' (sl.mono g.1 p) D (gd.later g p)
/-- .. where both ends are any -/
theorem es_split (h : EvT K tt G M b M1) (h1 : b = true → EvS K (tSeq t u) G M1 o) (h2 : b = false → EvS K (tSeq w u) G M1 o) : EvS K (tSeq (tIfS tt t w) u) G M o := fun F B as σ H ow sl D gd =>
  h F B as σ H ow sl _ fun B' as' H' g p o' => by
    cases b with
    | true => exact h1 rfl F B' as' σ H' o' (sl.mono g.1 p) D (gd.later g p)
    | false => exact h2 rfl F B' as' σ H' o' (sl.mono g.1 p) D (gd.later g p)
theorem es_nextR (h : EvS K u G M o) : EvS K (tSeq tNext u) G M o := h
/-- an if that can't be taken -/
theorem es_pass (h : EvT K tt G M false M1) (h2 : EvS K u G M1 o) : EvS K (tSeq (tIfS tt t tNext) u) G M o := fun F B as σ H ow sl D gd =>
  h F B as σ H ow sl _ fun B' as' H' g p o' => h2 F B' as' σ H' o' (sl.mono g.1 p) D (gd.later g p)
theorem es_nG {G' : List (Option Sl)} (e : G = G') (h : EvS K t G' M o) : EvS K t G M o := e ▸ h
theorem es_never (h : False) : EvS K t G M o := h.elim
theorem ev_iteS (h : EvT K tt G M b M1) (h1 : b = true → EvE K ta G M1 (.d (.str l)) M2) (h2 : b = false → EvE K tb G M1 (.d (.str m)) M2) : EvE K (tIf tt ta tb) G M (.d (.str (if b = true then l else m))) M2 :=
  ev_if h (fun e => by rw [if_pos e]; exact h1 e) (fun e => by rw [if_neg (by rw [e]; exact Bool.false_ne_true)]; exact h2 e)
theorem ev_iteI (h : EvT K tt G M b M1) (h1 : b = true → EvE K ta G M1 (.d (.int i)) M2) (h2 : b = false → EvE K tb G M1 (.d (.int j)) M2) : EvE K (tIf tt ta tb) G M (.d (.int (if b = true then i else j))) M2 :=
  ev_if h (fun e => by rw [if_pos e]; exact h1 e) (fun e => by rw [if_neg (by rw [e]; exact Bool.false_ne_true)]; exact h2 e)
/-- if c: x = e -/
theorem es_ifI {n : Nat} (h : EvT K tt G M b M1) (h1 : b = true → EvE K te G M1 (.d (.int i)) M1) (hj : G[n]? = some (some (.d (.int j)))) : EvS K (tIfS tt (tAsg te (gName n)) tNext) G M (.nx (G.set n (some (.d (.int (if b = true then i else j))))) M1) :=
  es_if h (fun e => by rw [if_pos e]; exact es_asg (h1 e)) (fun e => by
    rw [if_neg (by rw [e]; exact Bool.false_ne_true)]
    refine es_nxw es_next ⟨by rw [List.length_set], fun k s q => ?_⟩
    by_cases hk : n = k
    · subst hk
      rw [List.getElem?_set_self (List.getElem?_eq_some_iff.mp hj).1] at q
      cases q
      exact hj
    · rw [List.getElem?_set_ne hk] at q
      exact q)
/-- a for that is not left, its state told by the number of turns -/
theorem es_forN {β : Type} {wi : TI} {g : TG} {tb : TS} (xs : List β) (en : β → Dt) (Gn : Nat → List (Option Sl)) (Mn : Nat → List MO) (hI : EvI K wi G M (xs.map en) (Mn 0)) (h0 : Lg G (Gn 0))
    (turn : ∀ (i : Nat) (x : β), xs[i]? = some x → ∃ G1, EvG K g (Gn i) (.d (en x)) G1 ∧ (EvS K tb G1 (Mn i) (.nx (Gn (i + 1)) (Mn (i + 1))) ∨ EvS K tb G1 (Mn i) (.ct (Gn (i + 1)) (Mn (i + 1))))) :
    EvS K (tFor wi g tb) G M (.nx (Gn xs.length) (Mn xs.length)) := fun F B as σ H ow sl D gd => by
  refine hI F B as σ H ow sl _ fun J B1 as1 H1 g1 p1 o1 yl => ?_
  refine ⟨fun i m σ' H' => ∃ B' as', m = xs.length - i ∧ i ≤ xs.length ∧ Gr F B1 B' ∧ Px as1 as' ∧ Ow K F B' as' (Mn i) H' ∧ Slt K B' as' (Gn i) σ', ⟨xs.length, B1, as1, by simp, Nat.zero_le _, Gr.refl F B1, Px.refl as1, o1, (sl.mono g1.1 p1).weak h0⟩, fun i m σ' H' w => ?_⟩
  obtain ⟨B', as', rfl, hi, g', p', o', s'⟩ := w
  obtain ⟨y1, y2⟩ := yl F B' as' (Mn i) H' i g'.1 o'
  by_cases hlt : i < xs.length
  · have hx : xs[i]? = some xs[i] := List.getElem?_eq_getElem hlt
    obtain ⟨go, yld⟩ := y1 (en xs[i]) (by rw [List.getElem?_map, hx] <;> rfl)
    refine .inr ⟨go, fun σ2 H2 => ∃ B' as', i + 1 ≤ xs.length ∧ Gr F B1 B' ∧ Px as1 as' ∧ Ow K F B' as' (Mn (i + 1)) H2 ∧ Slt K B' as' (Gn (i + 1)) σ2, fun σ2 H2 n2 => ?_, fun v H2 yv => ?_⟩
    · obtain ⟨B2, as2, q1, q3, q4, q5, q6⟩ := n2
      exact ⟨xs.length - (i + 1), by omega, B2, as2, rfl, q1, q3, q4, q5, q6⟩
    · obtain ⟨B2, g2, o2, r2⟩ := yld v H2 yv
      obtain ⟨G1, hg, ht⟩ := turn i xs[i] hx
      refine hg F B2 as' (Mn i) σ' H2 v o2 (s'.mono g2.1 (Px.refl as')) r2 _ fun B3 as3 σ3 H3 g3 p3 o3 s3 => ?_
      have gg : Gr F B1 B3 := g'.trans (g2.trans g3)
      have pp : Px as1 as3 := p'.trans p3
      rcases ht with ht | ht
      · exact ht F B3 as3 σ3 H3 o3 s3 _ fun B4 as4 σ4 H4 g4 p4 o4 s4 => ⟨B4, as4, hlt, gg.trans g4, pp.trans p4, o4, s4⟩
      · exact ht F B3 as3 σ3 H3 o3 s3 _ fun B4 as4 σ4 H4 g4 p4 o4 s4 => ⟨B4, as4, hlt, gg.trans g4, pp.trans p4, o4, s4⟩
  · have e : i = xs.length := by omega
    subst e
    exact .inl ⟨y2 (by rw [List.length_map]; exact Nat.le_refl _), gd B' as' σ' H' (g1.trans g') (p1.trans p') o' s'⟩
theorem ro_fdiv (h : CDiv i j) : RO K (rI CDiv fun i j => .int (i / j)) (.int i) (.int j) (.int (i / j)) := ro_I h fun _ _ => rfl
/-- an item of a list or a text, and its length -/
theorem ro_ixL' {xs : List Dt} (h : atI xs i = some x) : RO K (rIx K) (.lst xs) (.int i) x := fun F B as M H v u Q ow r1 r2 q => .inl (ro_ixL h F B as M H v u Q ow r1 r2 q)
theorem ro_ixS' {c : Nat} (hl : l.length ≤ 1000000) (h : atI l i = some c) : RO K (rIx K) (.str l) (.int i) (.str [c]) := fun F B as M H v u Q ow r1 r2 q => .inr (.inr (ro_ixS hl h F B as M H v u Q ow r1 r2 q))
theorem rc_lenL' {xs : List Dt} : RC K (fun xs H Q => ∃ x n, xs = [x] ∧ LenV K x H n ∧ Q (.int n) H) [.lst xs] (.int (xs.length : Nat)) := fun F B as M H vs Q ow r q => by
  obtain ⟨v1, rr, e, h1, h2⟩ := r
  obtain ⟨a, us, e1, h3, h4⟩ := h1
  have h2 : rr = [] := h2
  subst h2; subst e1
  exact ⟨.ref a, us.length, e, .inl ⟨us, ow.bb.seq h3, rfl⟩, q _ B H (Gr.refl F B) ow (by rw [h4.len] <;> rfl)⟩
theorem rc_lenS' (h : l.length ≤ 1000000) : RC K (fun xs H Q => ∃ x n, xs = [x] ∧ LenV K x H n ∧ Q (.int n) H) [.str l] (.int (l.length : Nat)) := fun F B as M H vs Q ow r q =>
  ⟨.str (tx l), (tx l).length, two_str r, ⟨by rw [tx_len]; exact Nat.le_trans h (by decide), rfl⟩, q _ B H (Gr.refl F B) ow (by rw [tx_len] <;> rfl)⟩
theorem sub_one (c : Nat) : ∀ l : List Nat, sub [c] l = decide (c ∈ l)
  | [] => rfl
  | d :: r => by
    unfold sub
    rw [sub_one c r]
    by_cases e : c = d
    · subst e
      have : pre [c] (c :: r) = true := beq_self_eq_true [c]
      rw [this]
      simp
    · have : pre [c] (d :: r) = false := TL.pre_of_head [] r (fun h => e h.symm)
      rw [this, Bool.false_or]
      simp [e]
end
end DJ
namespace DJ
open PySem PySem.Spec PyProof.Rows L2
open PySem.NumText PySem.Calls
/-! ### int(t, 8) -/
def Oct (c : Nat) : Prop := 48 ≤ c ∧ c ≤ 55
def octNum (l : List Nat) : Nat := l.foldl (fun a c => a * 8 + Hx.hv c) 0
theorem Oct.hex {c : Nat} (h : Oct c) : Hx.IsHex c := .inl ⟨h.1, by unfold Oct at h; omega⟩
theorem Oct.lt {c : Nat} (h : Oct c) : Hx.hv c < 8 := by
  unfold Oct at h
  unfold Hx.hv
  rw [if_pos (by omega)]
  omega
theorem step_oct {ds : Array Nat} {b : Bool} {c : Nat} (h : Oct c) : NumText.step 8 (ds, b) c = some (ds.push (Hx.hv c), true) := by
  have hr := (Hx.hex_rng h.hex).2.2
  unfold NumText.step
  rw [if_neg (by rw [beq_iff_eq]; exact hr)]
  rw [Hx.digit_hex h.hex]
  exact if_pos h.lt
theorem fold_oct : ∀ (cs : List Nat) (ds : Array Nat), (∀ c ∈ cs, Oct c) → cs.foldlM (NumText.step 8) (ds, true) = some (cs.foldl (fun acc c => acc.push (Hx.hv c)) ds, true)
  | [], _, _ => rfl
  | c :: cs, ds, h => by
    rw [List.foldlM_cons, step_oct (h c List.mem_cons_self)]
    exact fold_oct cs (ds.push (Hx.hv c)) fun d hd => h d (List.mem_cons_of_mem _ hd)
theorem digits_oct : ∀ {cs : List Nat}, (∀ c ∈ cs, Oct c) → cs ≠ [] → digits? 8 cs = some (cs.foldl (fun acc c => acc.push (Hx.hv c)) #[])
  | [], _, hne => absurd rfl hne
  | c :: cs, h, _ => by
    unfold digits?
    rw [List.foldlM_cons, step_oct (h c List.mem_cons_self)]
    show (cs.foldlM (NumText.step 8) ((#[] : Array Nat).push (Hx.hv c), true)).bind _ = _
    rw [fold_oct cs _ fun d hd => h d (List.mem_cons_of_mem _ hd)] <;> rfl
theorem push_oct : ∀ (cs : List Nat) (ds : Array Nat), (cs.foldl (fun acc c => acc.push (Hx.hv c)) ds).foldl (fun acc d => acc * 8 + d) 0 = cs.foldl (fun a c => a * 8 + Hx.hv c) (ds.foldl (fun acc d => acc * 8 + d) 0)
  | [], _ => rfl
  | c :: cs, ds => by
    rw [List.foldl_cons, push_oct cs (ds.push (Hx.hv c)), List.foldl_cons, Array.foldl_push]
theorem oct_cases {c : Nat} (h : Oct c) : c = 48 ∨ c = 49 ∨ c = 50 ∨ c = 51 ∨ c = 52 ∨ c = 53 ∨ c = 54 ∨ c = 55 := by
  unfold Oct at h
  omega
theorem based_oct : ∀ {cs : List Nat}, (∀ c ∈ cs, Oct c) → based 8 cs = (8, false, cs)
  | [], _ => rfl
  | [a], h => by
    rcases oct_cases (h a List.mem_cons_self) with e | e | e | e | e | e | e | e <;> subst e <;> rfl
  | a :: c :: r, h => by
    have hc := oct_cases (h c (List.mem_cons_of_mem _ List.mem_cons_self))
    rcases oct_cases (h a List.mem_cons_self) with e | e | e | e | e | e | e | e <;> subst e <;> first
      | rfl
      | (rcases hc with e | e | e | e | e | e | e | e <;> subst e <;> rfl)
theorem read_oct {cs : List Nat} (h : ∀ c ∈ cs, Oct c) (hne : cs ≠ []) : (int_private% "readNumeral") 0 8 cs = (int_private% "Numeral.value") ((octNum cs : Nat) : Int) := by
  have hr : ∀ c ∈ cs.reverse, Hx.IsHex c := fun c hc => (h c (List.mem_reverse.mp hc)).hex
  have hb : based 8 cs = (8, false, cs) := based_oct h
  refine (readNumeral_eq 0 8 cs).trans ?_
  rw [Hx.dropB fun c hc => (h c hc).hex, Hx.signH fun c hc => (h c hc).hex]
  show judge 0 false (based 8 cs).1 (based 8 cs).2.1 (digits? (based 8 cs).1 (((based 8 cs).2.2.reverse.dropWhile blank).reverse)) = _
  rw [hb]
  show judge 0 false 8 false (digits? 8 ((cs.reverse.dropWhile blank).reverse)) = _
  rw [Hx.dropB hr, List.reverse_reverse, digits_oct h hne]
  show (int_private% "Numeral.value") (((cs.foldl (fun acc c => acc.push (Hx.hv c)) (#[] : Array Nat)).foldl (fun acc d => acc * 8 + d) 0 : Nat) : Int) = _
  rw [push_oct]
  rfl
theorem gives_oct {x : PySem.Str} {u t : Tok} (hl : x.length ≤ 640) (h : ∀ c ∈ x.cps.toList, Oct c) (hne : x.cps.toList ≠ []) :
    Gives (Builtin.«int.__new__» ⟨[.type "int", .str x u, .int 8 t], []⟩) (.int ((octNum x.cps.toList : Nat) : Int)) :=
  .of_wp fun M A E s Q hQ => by
    obtain ⟨hp, g, d, tk, os⟩ := s
    have g1 := F.conv_sub_int
    have g2 := F.madeHere_int
    have g6 : typeOf (.str x u) = pure (.type "str") := rfl
    have e12 := Hx.seen_hex (x := x) fun c hc => (h c hc).hex
    have hs : (numSeenOf x).length ≤ 640 := by
      rw [e12.2, Array.length_toList]
      exact hl
    have hr : (int_private% "readNumeral") 0 8 (numSeenOf x) = (int_private% "Numeral.value") ((octNum x.cps.toList : Nat) : Int) := by
      rw [e12.2]
      exact read_oct h hne
    have ha : ((numSeenOf x).length == (numTextOf x).length) = true := by
      rw [e12.1, e12.2]
      exact beq_self_eq_true _
    have hk := Hx.Hid.mk (And.intro hs (And.intro hr ha))
    clear hs hr ha e12 hl hne h
    repeat (any_goals (first
      | assumption
      | ((with_reducible show wpAny _ _ ((int_private% "intFromText") _ _ _) _ _ _); refine Hx.wp_textB hk.out.1 hk.out.2.1 hk.out.2.2 ?_)
      | wp_step))
    all_goals first | exact ⟨_, rfl, hQ⟩ | skip
def rIntOct : List V → Hp → VK → Prop := fun xs H Q => ∃ l : List Nat, xs = [.str (SX.S l), .int 8] ∧ l ≠ [] ∧ l.length ≤ 640 ∧ (∀ c ∈ l, Oct c) ∧ Q (.int ((octNum l : Nat) : Int)) H
theorem call_int_oct {X : Cx} : CallR X (.type "int") rIntOct := by
  intro pins s σ H xs us Q I r h
  obtain ⟨l, rfl, hne, hl, hx, q⟩ := h
  obtain ⟨u, w', rfl, r1, r2⟩ := vals2 r
  obtain ⟨t1, rfl⟩ := r1
  obtain ⟨t2, rfl⟩ := r2
  exact callType_new F.called_int F.newNe_int (Hx.typeCall_int_2 _ _) (Hx.newCall_int_2 _ _) (fun obj => F.initArgs_range_2 obj _ _) F.entry_int_new (gives_oct (x := SX.S l) (by rw [SX.S_len]; exact hl) hx hne).meets
    (show (PySem.Made.int ((octNum l : Nat) : Int)).post _ s from ⟨rfl, ⟨.int ((octNum l : Nat) : Int), H, I.tok _, ⟨_, rfl⟩, q⟩⟩)
section
variable {K : PySem.W.Frag} {B : Hp} {l : List Nat}
theorem rc_intOct (hne : l ≠ []) (hl : l.length ≤ 640) (h : ∀ c ∈ l, Oct c) : RC K rIntOct [.str l, .int 8] (.int ((octNum l : Nat) : Int)) := fun F B as M H vs Q ow r q => by
  obtain ⟨v, r1, e1, h1, w, r2, e2, h2, e3⟩ := r
  have h1 : v = V.str (tx l) := h1
  have h2 : w = V.int 8 := h2
  have e3 : r2 = [] := e3
  subst e3; subst e2; subst e1; subst h1; subst h2
  exact ⟨l, rfl, hne, hl, h, q _ B H (Gr.refl F B) ow rfl⟩
theorem rc_intHex (hne : l ≠ []) (hl : l.length ≤ 640) (h : ∀ c ∈ l, Hx.IsHex c) : RC K rIntHex [.str l, .int 16] (.int ((Hx.hexNum l : Nat) : Int)) := fun F B as M H vs Q ow r q => by
  obtain ⟨v, r1, e1, h1, w, r2, e2, h2, e3⟩ := r
  have h1 : v = V.str (tx l) := h1
  have h2 : w = V.int 16 := h2
  have e3 : r2 = [] := e3
  subst e3; subst e2; subst e1; subst h1; subst h2
  exact ⟨l, rfl, hne, hl, h, q _ B H (Gr.refl F B) ow rfl⟩
end
/-- what they are worth has few figures -/
theorem hexNum_lt : ∀ (l : List Nat), (∀ c ∈ l, Hx.IsHex c) → Hx.hexNum l < 16 ^ l.length := by
  intro l
  have : ∀ (l : List Nat) (a : Nat), (∀ c ∈ l, Hx.IsHex c) → l.foldl (fun a c => a * 16 + Hx.hv c) a < (a + 1) * 16 ^ l.length := by
    intro l
    induction l with
    | nil => intro a _; simp
    | cons c l ih =>
      intro a h
      have h1 := Hx.hv_lt (h c List.mem_cons_self)
      refine Nat.lt_of_lt_of_le (ih _ fun d hd => h d (List.mem_cons_of_mem _ hd)) ?_
      rw [List.length_cons, Nat.pow_succ, Nat.mul_comm _ 16, ← Nat.mul_assoc]
      exact Nat.mul_le_mul_right _ (by dsimp only; omega)
  intro h
  have := this l 0 h
  rwa [Nat.zero_add, Nat.one_mul] at this
theorem octNum_lt : ∀ (l : List Nat), (∀ c ∈ l, Oct c) → octNum l < 8 ^ l.length := by
  intro l
  have : ∀ (l : List Nat) (a : Nat), (∀ c ∈ l, Oct c) → l.foldl (fun a c => a * 8 + Hx.hv c) a < (a + 1) * 8 ^ l.length := by
    intro l
    induction l with
    | nil => intro a _; simp
    | cons c l ih =>
      intro a h
      have h1 := (h c List.mem_cons_self).lt
      refine Nat.lt_of_lt_of_le (ih _ fun d hd => h d (List.mem_cons_of_mem _ hd)) ?_
      rw [List.length_cons, Nat.pow_succ, Nat.mul_comm _ 8, ← Nat.mul_assoc]
      exact Nat.mul_le_mul_right _ (by dsimp only; omega)
  intro h
  have := this l 0 h
  rwa [Nat.zero_add, Nat.one_mul] at this
end DJ
namespace DJ
open PySem PySem.Spec PyProof.Rows L2
theorem atI_nat {α : Type} {xs : List α} {j : Nat} (h : j < xs.length) : atI xs (j : Int) = some xs[j] := by
  have e : ixN xs.length (j : Int) = some j := by
    unfold ixN
    rw [if_pos (Int.natCast_nonneg j), if_pos (by omega), Int.toNat_natCast]
  unfold atI
  rw [e]
  exact List.getElem?_eq_getElem h
/-! ### a walk that hands back the first thing of a kind -/
def ffS {β : Type} (p : β → Bool) (f : β → Sl) (M : List MO) : Unit → β → Unit ⊕ Out := fun _ x => if p x = true then .inr (.rt (f x) M) else .inl ()
theorem ff_loop {β : Type} (p : β → Bool) (f : β → Sl) (M : List MO) : ∀ xs : List β, (∃ x, xs.find? p = some x ∧ loopF (ffS p f M) xs () = .inr (.rt (f x) M)) ∨ (xs.find? p = none ∧ loopF (ffS p f M) xs () = .inl ())
  | [] => .inr ⟨rfl, rfl⟩
  | x :: xs => by
    by_cases h : p x = true
    · have e : ffS p f M () x = .inr (.rt (f x) M) := if_pos h
      refine .inl ⟨x, List.find?_cons_of_pos h, ?_⟩
      unfold loopF
      rw [e]
    · have e : ffS p f M () x = .inl () := if_neg h
      have e2 : (x :: xs).find? p = xs.find? p := List.find?_cons_of_neg h
      have e3 : loopF (ffS p f M) (x :: xs) () = loopF (ffS p f M) xs () := by
        rw [loopF, e]
      rw [e2, e3]
      exact ff_loop p f M xs
section
variable {K : PySem.W.Frag} {G G0 : List (Option Sl)} {M : List MO} {u : TS} {r : Sl}
theorem loop_inl {α β : Type} (f : α → β → α) : ∀ (xs : List β) (a : α), loopF (fun a x => (.inl (f a x) : α ⊕ Out)) xs a = .inl (xs.foldl f a)
  | [], _ => rfl
  | x :: xs, a => loop_inl f xs (f a x)
/-- a walk that hands a state on -/
theorem es_forA {α β : Type} {wi : TI} {g : TG} {tb : TS} (xs : List β) (en : β → Dt) (enc : α → List (Option Sl)) (encM : α → List MO) (f : α → β → α) (a0 : α) (hI : EvI K wi G M (xs.map en) (encM a0)) (h0 : Lg G (enc a0))
    (turn : ∀ a x, x ∈ xs → ∃ G1, EvG K g (enc a) (.d (en x)) G1 ∧ EvS K tb G1 (encM a) (.nx (enc (f a x)) (encM (f a x)))) : EvS K (tFor wi g tb) G M (.nx (enc (xs.foldl f a0)) (encM (xs.foldl f a0))) := by
  have h := es_for (tb := tb) xs en enc encM (fun a x => .inl (f a x)) a0 hI h0 fun a x hx => by
    obtain ⟨G1, h1, h2⟩ := turn a x hx
    exact ⟨G1, h1, .inl h2⟩
  rw [loop_inl] at h
  exact h
theorem es_yes {tt : TT} {t w : TS} {b : Bool} {M1 : List MO} {o : Out} (h : EvT K tt G M b M1) (e : b = true) (h1 : EvS K t G M1 o) : EvS K (tIfS tt t w) G M o := es_if h (fun _ => h1) (fun z => by rw [e] at z; cases z)
theorem es_no {tt : TT} {t w : TS} {b : Bool} {M1 : List MO} {o : Out} (h : EvT K tt G M b M1) (e : b = false) (h1 : EvS K w G M1 o) : EvS K (tIfS tt t w) G M o := es_if h (fun z => by rw [e] at z; cases z) (fun _ => h1)
theorem es_forFind {β : Type} {wi : TI} {g : TG} {tb : TS} (xs : List β) (en : β → Dt) (p : β → Bool) (f : β → Sl) (hI : EvI K wi G M (xs.map en) M) (h0 : Lg G G0)
    (turn : ∀ x, x ∈ xs → ∃ G1, EvG K g G0 (.d (en x)) G1 ∧ (p x = true → EvS K tb G1 M (.rt (f x) M)) ∧ (p x = false → EvS K tb G1 M (.nx G0 M)))
    (hr : ∀ x, xs.find? p = some x → r = f x) (rest : xs.find? p = none → EvS K u G0 M (.rt r M)) : EvS K (tSeq (tFor wi g tb) u) G M (.rt r M) := by
  have h := es_for (α := Unit) (tb := tb) xs en (fun _ => G0) (fun _ => M) (ffS p f M) () hI h0 fun _ x hx => by
    obtain ⟨G1, h1, h2, h3⟩ := turn x hx
    refine ⟨G1, h1, ?_⟩
    cases e : p x with
    | true =>
      have e2 : ffS p f M () x = .inr (.rt (f x) M) := if_pos e
      show Turns K _ _ tb G1 M (ffS p f M () x)
      rw [e2]
      exact h2 e
    | false =>
      have e2 : ffS p f M () x = .inl () := if_neg (by rw [e]; exact Bool.false_ne_true)
      show Turns K _ _ tb G1 M (ffS p f M () x)
      rw [e2]
      exact .inl (h3 e)
  rcases ff_loop p f M xs with ⟨x, e1, e2⟩ | ⟨e1, e2⟩
  · rw [e2] at h
    rw [hr x e1]
    exact es_seqR h
  · rw [e2] at h
    exact es_seq h (rest e1)
end
end DJ
namespace DJ
open PySem PySem.Spec PyProof.Rows L2
/-! ### a display of pairs whose keys are tuples -/
abbrev KTa (H : Hp) : List (V × V) → List (List Key × V) → Prop := Paired fun p q => ∃ b, p.1 = .ref b ∧ H b = some (.tup (q.1.map kV)) ∧ p.2 = q.2
def mergeT (kvs more : List (List Key × V)) : List (List Key × V) := more.foldl (fun acc kv => putK acc kv.1 kv.2) kvs
theorem len_mergeT : ∀ (more kvs : List (List Key × V)), (mergeT kvs more).length ≤ kvs.length + more.length
  | [], kvs => Nat.le_refl _
  | p :: r, kvs => by
    have h1 := len_mergeT r (putK kvs p.1 p.2)
    have h2 := length_putK kvs p.1 p.2
    rw [List.length_cons]
    exact Nat.le_trans h1 (by omega)
theorem KT_merge {H : Hp} : ∀ {more : List (List Key × V)} {rs : List (List Key × Addr × Value)}, KT H more rs → ∀ {kvs : List (List Key × V)} {xs : List (List Key × Addr × Value)}, KT H kvs xs → KT H (mergeT kvs more) (storedAllH xs rs) := by
  intro more rs r
  induction r with
  | nil => exact fun q => q
  | @cons p q ps qs h t ih =>
    intro kvs xs r0
    obtain ⟨h1, h2, h3⟩ := h
    have e : KT H (putK kvs p.1 p.2) (storedH xs q.1 q.2.1 q.2.2) := by
      rw [← h1]
      exact r0.put p.1 h2 h3
    exact ih e
theorem carriesT {P : Program} {w : World} {H : Hp} {h : Heap} (ok : HOk P w H h) : ∀ {ps : List (V × V)} {kvs : List (List Key × V)}, KTa H ps kvs → ∀ {ws : List (Value × Value)}, VV ps ws →
    ∃ rs : List (List Key × Addr × Value), CarriesH (tupleKind (mixKind P w)) h ws rs ∧ KT H kvs rs := by
  intro ps kvs r
  induction r with
  | nil =>
    intro ws v
    cases v
    exact ⟨[], True.intro, .nil⟩
  | @cons p q ps qs hp t ih =>
    intro ws v
    cases v with
    | @cons a b as bs h1 h2 =>
      obtain ⟨rs, c, k⟩ := ih h2
      obtain ⟨x, e1, e2, e3⟩ := hp
      obtain ⟨b1, b2⟩ := b
      obtain ⟨h3, h4⟩ := h1
      have h3 : RelV p.1 b1 := h3
      have h4 : RelV p.2 b2 := h4
      rw [e1] at h3
      rw [e3] at h4
      exact ⟨(q.1, x, b2) :: rs, ⟨h3, rfl, key_of ok e2, c⟩, .cons ⟨rfl, e2, h4⟩ k⟩
def tDispT (trs : List (TE × TE)) : TE := fun σ H Q => ∀ p, H p = none → tPairs trs σ (upd H p (.dT [])) fun ps H2 => H2 p = some (.dT []) ∧ ∃ kvs : List (List Key × V), KTa H2 ps kvs ∧ kvs.length ≤ 15 ∧ Q (.ref p) (upd H2 p (.dT (mergeT [] kvs)))
theorem pe_dispT {X : Cx} {pos : Pos} {keys : List (Option Expr)} {values : List Expr} {trs : List (TE × TE)} (h : PPs X pos keys values trs) (hu : X.A.units + 1 < cLine) (hall : keys.all (·.isSome) = true) (hl : keys.length = values.length) (h0 : keys ≠ [])
    (h15 : keys.length ≤ 15) : PE X (.Dict keys values pos) (tDispT trs) := by
  refine ⟨fun pins s σ H Q I q => ?_⟩
  have hn := I.hok.fresh (Nat.le_refl s.heap.objs.size)
  have I1 := I.laid (a := s.heap.objs.size) (o := .dT []) (h' := s.heap.push { cls := .type "dict", data := .dict #[] }) (t' := s.toks) (fun _ _ q => Heap.get?_push_of_some _ q) (Nat.le_refl _) (dt_empty s.heap I.big)
  have hm := pairTrees_length keys values X.env pos hall hl
  have hz := zip_pairTrees keys values X.env pos hall hl
  have hne : pairTrees keys values X.env pos ≠ [] := fun he => by
    rw [he] at hm
    exact h0 (List.length_eq_zero_iff.mp hm.symm)
  rw [arm_eval_Dict, hz, dictDisplay_pairs (pairTrees keys values X.env pos) hne (by omega)]
  refine wpAny_bind (wpAny_standAt (wpAny_bind (wpAny_subDictH (knd := tupleKind (mixKind X.prog X.w)) (Q := fun d s' => wpAny (model X.prog X.w) X.A (pure (Value.ref d)) (EP X pins σ Q) X.xe s') (show X.A.units < cLine by omega) (by omega) ?_)))
  refine thn (h.run pins _ σ _ _ I1 (q _ hn)) fun ws s2 r2 => ?_
  obtain ⟨ps, H2, I2, rel, e, kvs, ka, lk, q2⟩ := r2
  obtain ⟨rs, c, rk⟩ := carriesT (P := X.prog) (w := X.w) I2.hok ka rel
  obtain ⟨z, hd, xs0, r0, dd⟩ := dt_of I2.hok e
  cases r0
  refine ⟨rs, c, dd, fun h' tk dd' hs => wpAny_pure ⟨.ref s.heap.objs.size, _, ?_, rfl, q2⟩⟩
  have hz : (mergeT [] kvs).length ≤ sizeLine := by
    have h1 := len_mergeT kvs []
    rw [List.length_nil] at h1
    rw [sizeLine_eq]; omega
  obtain ⟨o, es, ep, hq, h2, h3, h4, _, h5⟩ := dd'
  refine d_write I2 (by rw [e]; exact True.intro) hs ⟨o, hq⟩ ⟨hz, hd, _, (KT_merge rk .nil).keeps fun c ys ec => ?_, o, es, ep, hq, h2, h3, h4, h5⟩
  rw [upd_ne (ne_of ec e (fun z => nomatch z))]
  exact ec
end DJ
namespace DJ
open PySem PySem.Spec PyProof.Rows L2
theorem room64 {k : Nat} {A : Around} (r : Room k A) : A.units + 64 < cLine := by have := r.un; omega
theorem room1 {k : Nat} {A : Around} (r : Room k A) : A.units + 1 < cLine := by have := r.un; omega
/-! ### a thing framed while pieces are made, then kept -/
section
variable {K : PySem.W.Frag} {F B H : Hp} {as : List Addr} {M : List MO} {p : Addr}
theorem Ow.frame (h : Ow K F B as M H) (hp : H p = none) (o : HO) : Ow K (upd F p o) B as M (upd H p o) := by
  obtain ⟨h1, h2, h3⟩ := h.fresh hp
  have ne : ∀ a ∈ as, a ≠ p := fun a ha e => h3 (e ▸ ha)
  refine ⟨fun a u e => ?_, fun a u e => ?_, h.len, h.nd, fun a ha => ?_, fun a ha => ?_, fun k a m e1 e2 hm => ?_⟩
  · by_cases ea : a = p
    · subst ea; rw [upd_same] at e ⊢; exact e
    · rw [upd_ne ea] at e ⊢; exact h.fb _ _ e
  · rw [upd_ne (ne_of_none e h2)]; exact h.bb _ _ e
  · rw [upd_ne (ne a ha)]; exact h.al a ha
  · rw [upd_ne (ne a ha)]; exact h.fa a ha
  · have ha := ne a (List.mem_of_getElem? e1)
    obtain ⟨q1, q2, q3⟩ := h.own k a m e1 e2 hm
    exact ⟨by rw [upd_ne ha]; exact q1, q2, MoR.mono (Same.refl B) (upd_ne ha) q3⟩
theorem Ow.keep {o o' : HO} (h : Ow K (upd F p o) B as M H) (hF : F p = none) (hB : B p = none) : Ow K F (upd B p o') as M (upd H p o') := by
  have ne : ∀ a ∈ as, a ≠ p := fun a ha e => by
    have := h.fa a ha
    rw [e, upd_same] at this
    cases this
  have sm : Same B (upd B p o') := fun a u e => by rw [upd_ne (ne_of_none e hB)]; exact e
  refine ⟨fun a u e => ?_, fun a u e => ?_, h.len, h.nd, fun a ha => ?_, fun a ha => ?_, fun k a m e1 e2 hm => ?_⟩
  · have ea := ne_of_none e hF
    rw [upd_ne ea]
    exact h.fb a u (by rw [upd_ne ea]; exact e)
  · by_cases ea : a = p
    · subst ea; rw [upd_same] at e ⊢; exact e
    · rw [upd_ne ea] at e ⊢; exact h.bb _ _ e
  · rw [upd_ne (ne a ha)]; exact h.al a ha
  · have := h.fa a ha
    rw [upd_ne (ne a ha)] at this
    exact this
  · have ha := ne a (List.mem_of_getElem? e1)
    obtain ⟨q1, q2, q3⟩ := h.own k a m e1 e2 hm
    rw [upd_ne ha] at q1
    exact ⟨q1, by rw [upd_ne ha]; exact q2, MoR.mono sm (upd_ne ha) q3⟩
theorem Gr.frame {o : HO} {B' : Hp} (g : Gr (upd F p o) B B') (hF : F p = none) : Gr F B B' := ⟨g.1, fun a f n => g.2 a (by
  have ea : a ≠ p := fun e => f.1 (by rw [e]; exact hF)
  rw [upd_ne ea]; exact f) n⟩
theorem Gr.keep {o o' : HO} {B' : Hp} (g : Gr (upd F p o) B B') (hF : F p = none) (hB : B p = none) (hk : Kp (some o)) : Gr F B (upd B' p o') := by
  have hB' : B' p = none := g.2 p (by rw [upd_same]; exact hk) hB
  refine ⟨fun a u e => ?_, fun a f n => ?_⟩
  · rw [upd_ne (ne_of_none e hB)]; exact g.1 a u e
  · have ea : a ≠ p := fun e => f.1 (by rw [e]; exact hF)
    rw [upd_ne ea]
    exact g.2 a (by rw [upd_ne ea]; exact f) n
end
/-! ### pairs -/
def RpP (K : PySem.W.Frag) (H : Hp) : List (Dt × Dt) → List (V × V) → Prop
  | [], ps => ps = []
  | d :: ds, ps => ∃ p r, ps = p :: r ∧ (Rp K H d.1 p.1 ∧ Rp K H d.2 p.2) ∧ RpP K H ds r
def EvP (K : PySem.W.Frag) (trs : List (TE × TE)) (G : List (Option Sl)) (M : List MO) (ds : List (Dt × Dt)) : Prop :=
  ∀ F B as σ H, Ow K F B as M H → Slt K B as G σ → ∀ Q : List (V × V) → Hp → Prop, (∀ ps B' as' H', Gr F B B' → Px as as' → Ow K F B' as' M H' → RpP K B' ds ps → Q ps H') → tPairs trs σ H Q
/-- a tuple of texts, as a key -/
def keyD (ks : List (List Nat)) : Dt := .ext fun H v => ∃ a, v = .ref a ∧ H a = some (.tup ((ks.map fun k => (Sum.inr (tx k) : Key)).map kV))
abbrev encT (p : List (List Nat) × List Nat) : List Key × V := (p.1.map fun k => (Sum.inr (tx k) : Key), .str (tx p.2))
abbrev encK (p : List Nat × List Nat) : Key × V := (Sum.inr (tx p.1), .str (tx p.2))
def dicT (kvs : List (List (List Nat) × List Nat)) : Dt := .ext fun H v => ∃ a, v = .ref a ∧ H a = some (.dT (mergeT [] (kvs.map encT)))
def dicK (kvs : List (List Nat × List Nat)) : Dt := .ext fun H v => ∃ a, v = .ref a ∧ H a = some (.dK (mergeK [] (kvs.map encK)))
section
variable {K : PySem.W.Frag} {B H : Hp} {G : List (Option Sl)} {M M1 M2 M3 : List MO} {tk tv td ty : TE} {trs : List (TE × TE)} {k v : Dt}
theorem RpP.mono {H' : Hp} (e : Same H H') : ∀ {ds : List (Dt × Dt)} {ps : List (V × V)}, RpP K H ds ps → RpP K H' ds ps
  | [], _, h => h
  | d :: ds, _, ⟨p, r, e1, h1, h2⟩ => ⟨p, r, e1, ⟨Rp.mono e _ _ h1.1, Rp.mono e _ _ h1.2⟩, RpP.mono e h2⟩
theorem ep_nil : EvP K [] G M [] := fun F B as σ H ow sl Q q => q [] B as H (Gr.refl F B) (Px.refl as) ow rfl
theorem ep_cons {ds : List (Dt × Dt)} (h1 : EvE K tk G M (.d k) M) (h2 : EvE K tv G M (.d v) M) (h3 : EvP K trs G M ds) : EvP K ((tk, tv) :: trs) G M ((k, v) :: ds) := fun F B as σ H ow sl Q q =>
  h1 F B as σ H ow sl _ fun x B1 as1 H1 g1 p1 o1 r1 => h2 F B1 as1 σ H1 o1 (sl.mono g1.1 p1) _ fun y B2 as2 H2 g2 p2 o2 r2 =>
    h3 F B2 as2 σ H2 o2 ((sl.mono g1.1 p1).mono g2.1 p2) _ fun ps B3 as3 H3 g3 p3 o3 r3 =>
      q _ B3 as3 H3 ((g1.trans g2).trans g3) ((p1.trans p2).trans p3) o3 ⟨(x, y), ps, rfl, ⟨Rp.mono (g2.trans g3).1 _ _ r1, Rp.mono g3.1 _ _ r2⟩, r3⟩
theorem strs_kV : ∀ ks : List (List Nat), ((ks.map tx).map V.str) = ((ks.map fun k => (Sum.inr (tx k) : Key)).map kV)
  | [] => rfl
  | k :: ks => by
    rw [List.map_cons, List.map_cons, List.map_cons, List.map_cons, strs_kV ks] <;> rfl
theorem ev_tupK {tr : TA} {ks : List (List Nat)} (ha : EvA K tr G M (ks.map fun k => Sl.d (.str k)) M1) (hl : ks.length ≤ 1000) : EvE K (tTup tr) G M (.d (keyD ks)) M1 := fun F B as σ H o sl Q q =>
  ha F B as σ H o sl _ fun vs B1 as1 H1 g1 p1 o1 r1 => ⟨by rw [r1.len, List.length_map]; exact Nat.le_trans hl (by decide), fun p hp => by
    have e : (ks.map fun k => Sl.d (.str k)) = (ks.map Dt.str).map Sl.d := by rw [List.map_map] <;> rfl
    rw [e] at r1
    have r2 := (SlL.data r1).strs
    have g2 := o1.gr hp (.tup vs)
    refine q _ _ as1 _ (g1.trans g2) p1 (o1.new hp _) fun H' s => ⟨p, rfl, s _ _ ?_⟩
    rw [upd_same, r2, strs_kV]⟩
theorem kta_of : ∀ {kvs : List (List (List Nat) × List Nat)} {ps : List (V × V)}, RpP K B (kvs.map fun p => (keyD p.1, Dt.str p.2)) ps → KTa B ps (kvs.map encT)
  | [], _, h => by
    rw [show _ = [] from h]
    exact .nil
  | p :: kvs, _, ⟨x, r, e, ⟨h1, h2⟩, h3⟩ => by
    subst e
    obtain ⟨a, e1, e2⟩ := h1 B (Same.refl B)
    exact .cons ⟨a, e1, e2, h2⟩ (kta_of h3)
theorem KTa.mono {H' : Hp} (e : Same B H') {ps : List (V × V)} {kvs : List (List Key × V)} (r : KTa B ps kvs) : KTa H' ps kvs := Paired.mapP r fun _ _ z => let ⟨b, h1, h2, h3⟩ := z; ⟨b, h1, e _ _ h2, h3⟩
theorem ev_dispT (kvs : List (List (List Nat) × List Nat)) (h : EvP K trs G M (kvs.map fun p => (keyD p.1, Dt.str p.2))) (hl : kvs.length ≤ 15) : EvE K (tDispT trs) G M (.d (dicT kvs)) M := fun F B as σ H ow sl Q q p hp => by
  obtain ⟨f1, f2, _⟩ := ow.fresh hp
  refine h (upd F p (.dT [])) B as σ _ (ow.frame hp _) sl _ fun ps B1 as1 H1 g1 p1 o1 r1 => ?_
  refine ⟨o1.fb p _ upd_same, kvs.map encT, KTa.mono o1.bb (kta_of r1), by rw [List.length_map]; exact hl, ?_⟩
  have b1 : B1 p = none := g1.2 p (by rw [upd_same]; exact ⟨fun z => (nomatch z), fun _ z => (nomatch z)⟩) f2
  exact q _ (upd B1 p _) as1 _ (g1.keep f1 f2 ⟨fun z => (nomatch z), fun _ z => (nomatch z)⟩) p1 (o1.keep f1 b1) fun H' s => ⟨p, rfl, s _ _ upd_same⟩
theorem vk_of : ∀ {kvs : List (List Nat × List Nat)} {ps : List (V × V)}, RpP K B (kvs.map fun p => (Dt.str p.1, Dt.str p.2)) ps → ps = (kvs.map encK).map fun kv => (kV kv.1, kv.2)
  | [], _, h => h
  | p :: kvs, _, ⟨x, r, e, ⟨h1, h2⟩, h3⟩ => by
    subst e
    obtain ⟨x1, x2⟩ := x
    have h1 : x1 = V.str (tx p.1) := h1
    have h2 : x2 = V.str (tx p.2) := h2
    rw [vk_of h3, h1, h2]
    rfl
theorem ev_dispK (kvs : List (List Nat × List Nat)) (h : EvP K trs G M (kvs.map fun p => (Dt.str p.1, Dt.str p.2))) (hl : kvs.length ≤ 15) : EvE K (tDisp trs) G M (.d (dicK kvs)) M := fun F B as σ H ow sl Q q p hp => by
  obtain ⟨f1, f2, _⟩ := ow.fresh hp
  refine h (upd F p (.dK [])) B as σ _ (ow.frame hp _) sl _ fun ps B1 as1 H1 g1 p1 o1 r1 => ?_
  refine ⟨o1.fb p _ upd_same, kvs.map encK, vk_of r1, by rw [List.length_map]; exact hl, ?_⟩
  have b1 : B1 p = none := g1.2 p (by rw [upd_same]; exact ⟨fun z => (nomatch z), fun _ z => (nomatch z)⟩) f2
  exact q _ (upd B1 p _) as1 _ (g1.keep f1 f2 ⟨fun z => (nomatch z), fun _ z => (nomatch z)⟩) p1 (o1.keep f1 b1) fun H' s => ⟨p, rfl, s _ _ upd_same⟩
/-- d.get(k, x) -/
theorem ev_getT {tx' : TE} {kvs : List (List (List Nat) × List Nat)} {ks : List (List Nat)} {x z : List Nat} (hd : EvE K td G M (.d (dicT kvs)) M1) (hk : EvE K ty G M1 (.d (keyD ks)) M2) (hx : EvE K tx' G M2 (.d (.str x)) M3)
    (hz : (valV (mergeT [] (kvs.map encT)) (ks.map fun k => (Sum.inr (tx k) : Key))).getD (.str (tx x)) = .str (tx z)) : EvE K (tDGet2 td ty tx') G M (.d (.str z)) M3 := fun F B as σ H ow sl Q q =>
  hd F B as σ H ow sl _ fun v B1 as1 H1 g1 p1 o1 r1 => by
    obtain ⟨a, rfl, ha⟩ := r1 B1 (Same.refl _)
    refine ⟨a, rfl, .inr ⟨_, .inl (o1.bb _ _ ha)⟩, hk F B1 as1 σ H1 o1 (sl.mono g1.1 p1) _ fun y B2 as2 H2 g2 p2 o2 r2 => hx F B2 as2 σ H2 o2 ((sl.mono g1.1 p1).mono g2.1 p2) _ fun u B3 as3 H3 g3 p3 o3 r3 => ?_⟩
    obtain ⟨b, rfl, hb⟩ := r2 B2 (Same.refl _)
    have r3 : u = .str (tx x) := r3
    subst r3
    refine ⟨_, .inr ⟨_, _, b, .inl (o3.bb _ _ (g3.1 _ _ (g2.1 _ _ ha))), rfl, o3.bb _ _ (g3.1 _ _ hb), rfl⟩, ?_⟩
    exact q _ B3 as3 H3 ((g1.trans g2).trans g3) ((p1.trans p2).trans p3) o3 hz
theorem ev_getK {tx' : TE} {kvs : List (List Nat × List Nat)} {k x z : List Nat} (hd : EvE K td G M (.d (dicK kvs)) M1) (hk : EvE K ty G M1 (.d (.str k)) M2) (hx : EvE K tx' G M2 (.d (.str x)) M3)
    (hz : (valV (mergeK [] (kvs.map encK)) (Sum.inr (tx k))).getD (.str (tx x)) = .str (tx z)) : EvE K (tDGet2 td ty tx') G M (.d (.str z)) M3 := fun F B as σ H ow sl Q q =>
  hd F B as σ H ow sl _ fun v B1 as1 H1 g1 p1 o1 r1 => by
    obtain ⟨a, rfl, ha⟩ := r1 B1 (Same.refl _)
    refine ⟨a, rfl, .inl ⟨_, .inl (o1.bb _ _ ha)⟩, hk F B1 as1 σ H1 o1 (sl.mono g1.1 p1) _ fun y B2 as2 H2 g2 p2 o2 r2 => hx F B2 as2 σ H2 o2 ((sl.mono g1.1 p1).mono g2.1 p2) _ fun u B3 as3 H3 g3 p3 o3 r3 => ?_⟩
    have r2 : y = .str (tx k) := r2
    have r3 : u = .str (tx x) := r3
    subst r3; subst r2
    refine ⟨_, .inl ⟨_, (Sum.inr (tx k) : Key), .inl (o3.bb _ _ (g3.1 _ _ (g2.1 _ _ ha))), rfl, rfl⟩, ?_⟩
    exact q _ B3 as3 H3 ((g1.trans g2).trans g3) ((p1.trans p2).trans p3) o3 hz
end
/-! ### == of lists of texts -/
section
variable {K : PySem.W.Frag}
theorem dp_strs {H : Hp} : ∀ xs : List (List Nat), DpAll K H ((xs.map tx).map V.str) (xs.map fun x => PyData.str (tx x))
  | [] => .nil
  | x :: xs => .cons (.str _) (dp_strs xs)
theorem tx_beq (x y : List Nat) : (tx x == tx y) = decide (x = y) := by
  by_cases h : x = y
  · subst h
    rw [decide_eq_true rfl, beq_self_eq_true]
  · rw [decide_eq_false h]
    refine beq_eq_false_iff_ne.mpr fun e => h ?_
    have e2 : (tx x).cps = (tx y).cps := congrArg _ e
    simpa using congrArg Array.toList e2
theorem eqv_strs : ∀ xs ys : List (List Nat), PyData.eqvAll (xs.map fun x => PyData.str (tx x)) (ys.map fun x => PyData.str (tx x)) = decide (xs = ys)
  | [], [] => rfl
  | [], _ :: _ => rfl
  | _ :: _, [] => rfl
  | x :: xs, y :: ys => by
    show ((tx x == tx y) && PyData.eqvAll (xs.map _) (ys.map _)) = _
    rw [eqv_strs xs ys, tx_beq]
    by_cases h : x = y
    · subst h
      rw [decide_eq_true rfl, Bool.true_and]
      simp
    · rw [decide_eq_false h, Bool.false_and]
      simp [h]
def Asc (l : List Nat) : Prop := ∀ c ∈ l, c < 128
theorem lay_strs : ∀ xs : List (List Nat), (∀ x ∈ xs, Asc x) → PyData.canLayAll0 (xs.map fun x => PyData.str (tx x)) = true ∧ PyData.depthAll (xs.map fun x => PyData.str (tx x)) = 0
  | [], _ => ⟨rfl, rfl⟩
  | x :: xs, h => by
    obtain ⟨h1, h2⟩ := lay_strs xs fun y hy => h y (List.mem_cons_of_mem _ hy)
    have hx := h x List.mem_cons_self
    have h3 : PyData.strOk (tx x) = true := by
      unfold PyData.strOk
      show x.toArray.all _ = true
      rw [← Array.all_toList]
      show x.all _ = true
      rw [List.all_eq_true]
      intro c hc
      exact decide_eq_true (Nat.lt_trans (hx c hc) (by decide))
    refine ⟨?_, ?_⟩
    · show (PyData.strOk (tx x) && PyData.canLayAll0 _) = true
      rw [h3, h1] <;> rfl
    · show max 0 (PyData.depthAll _) = 0
      rw [h2] <;> rfl
theorem shp_strs {xs : List (List Nat)} (h : ∀ x ∈ xs, Asc x) : SeqAt.shaped (.list (xs.map fun x => PyData.str (tx x))) = true := by
  obtain ⟨h1, h2⟩ := lay_strs xs h
  unfold SeqAt.shaped
  rw [Bool.and_eq_true]
  refine ⟨h1, decide_eq_true ?_⟩
  show PyData.depthAll _ + 1 ≤ 64
  rw [h2]
  decide
theorem ro_eqTs {xs ys : List (List Nat)} (hx : ∀ x ∈ xs, Asc x) (hy : ∀ x ∈ ys, Asc x) : RO K (rEqD K) (.lst (xs.map .str)) (.lst (ys.map .str)) (.bl (decide (xs = ys))) := fun F B as M H v u Q ow r1 r2 q => by
  obtain ⟨a, vs, e1, h1, h2⟩ := r1
  obtain ⟨b, us, e2, h3, h4⟩ := r2
  have h2 := h2.strs
  have h4 := h4.strs
  subst h2; subst h4; subst e1; subst e2
  refine ⟨_, _, .lst (ow.bb.seq h1) (dp_strs xs), .lst (ow.bb.seq h3) (dp_strs ys), shp_strs hx, shp_strs hy, q _ B H (Gr.refl F B) ow ?_⟩
  show V.bl (PyData.eqvAll _ _) = _
  rw [eqv_strs]
end
end DJ
namespace DJ
open PySem PySem.Spec PyProof.Rows L2
/-! ### lists that are put together -/
def lstX (K : PySem.W.Frag) (xs : List Dt) : Dt := .ext fun H v => ∃ a vs, v = .ref a ∧ H a = some (.lst vs) ∧ RpL K H xs vs
section
variable {K : PySem.W.Frag} {B H : Hp} {G : List (Option Sl)} {M M1 M2 M3 : List MO} {te : TE} {x y : Dt}
theorem ev_wk (h : EvE K te G M (.d x) M1) (w : ∀ B v, Rp K B x v → Rp K B y v) : EvE K te G M (.d y) M1 := fun F B as σ H o sl Q q =>
  h F B as σ H o sl _ fun v B1 as1 H1 g1 p1 o1 r1 => q v B1 as1 H1 g1 p1 o1 (w B1 v r1)
theorem lstX_lst {xs : List Dt} (B : Hp) (v : V) (h : Rp K B (lstX K xs) v) : Rp K B (.lst xs) v := by
  obtain ⟨a, vs, e, h1, h2⟩ := h B (Same.refl B)
  exact ⟨a, vs, e, .inl (.inl h1), h2⟩
theorem ev_lstX {tr : TA} {xs : List Dt} (ha : EvA K tr G M (xs.map Sl.d) M1) (hl : xs.length ≤ 1000) : EvE K (tLst tr) G M (.d (lstX K xs)) M1 := fun F B as σ H o sl Q q =>
  ha F B as σ H o sl _ fun vs B1 as1 H1 g1 p1 o1 r1 => ⟨by rw [r1.len, List.length_map]; exact Nat.le_trans hl (by decide), fun p hp => by
    have g2 := o1.gr hp (.lst vs)
    exact q _ _ as1 _ (g1.trans g2) p1 (o1.new hp _) fun H' s => ⟨p, vs, rfl, s _ _ upd_same, RpL.mono (g2.1.trans s) _ _ (SlL.data r1)⟩⟩
theorem ro_cat {xs ys : List Dt} (h : xs.length + ys.length ≤ 100000) : RO K rCat (lstX K xs) (lstX K ys) (lstX K (xs ++ ys)) := fun F B as M H v u Q ow r1 r2 q => by
  obtain ⟨a, vs, e1, h1, h2⟩ := r1 B (Same.refl B)
  obtain ⟨b, us, e2, h3, h4⟩ := r2 B (Same.refl B)
  refine ⟨a, b, vs, us, e1, e2, ow.bb _ _ h1, ow.bb _ _ h3, by rw [h2.len, h4.len]; exact Nat.le_trans h (by decide), fun p hp => ?_⟩
  have g2 := ow.gr hp (.lst (vs ++ us))
  exact q _ _ _ g2 (ow.new hp _) fun H' s => ⟨p, _, rfl, s _ _ upd_same, RpL.append (RpL.mono (g2.1.trans s) _ _ h2) (RpL.mono (g2.1.trans s) _ _ h4)⟩
theorem RpL.rep {xs : List Dt} {vs : List V} (h : RpL K H xs vs) : ∀ n : Nat, RpL K H (List.replicate n xs).flatten (List.replicate n vs).flatten
  | 0 => rfl
  | n + 1 => by
    rw [List.replicate_succ, List.replicate_succ, List.flatten_cons, List.flatten_cons]
    exact RpL.append h (RpL.rep h n)
theorem ro_rep {xs : List Dt} {k : Nat} (h : xs.length * k ≤ 100000) (hk : k ≤ 100000) : RO K rRep (lstX K xs) (.int (k : Int)) (lstX K (List.replicate k xs).flatten) := fun F B as M H v u Q ow r1 r2 q => by
  obtain ⟨a, vs, e1, h1, h2⟩ := r1 B (Same.refl B)
  have r2 : u = .int (k : Int) := r2
  refine ⟨a, (k : Int), vs, e1, r2, ow.bb _ _ h1, by omega, by omega, by rw [h2.len, Int.toNat_natCast]; exact Nat.le_trans h (by decide), fun p hp => ?_⟩
  have g2 := ow.gr hp (.lst (List.replicate (k : Int).toNat vs).flatten)
  rw [Int.toNat_natCast] at g2 ⊢
  exact q _ _ _ g2 (ow.new hp _) fun H' s => ⟨p, _, rfl, s _ _ upd_same, RpL.mono (g2.1.trans s) _ _ (RpL.rep h2 k)⟩
/-- the one owned thing is handed on -/
theorem ev_w {E : XK} {n : Nat} {R : List Sl → List MO → Sl → List MO → Prop} {ta : TA} {ds : List Dt} {m m' : MO} {z : Dt} (h : EvA K ta G M (.o 0 :: ds.map Sl.d) [m]) (hg : m ≠ .gone) (hR : R (.o 0 :: ds.map Sl.d) [m] (.d z) [m']) (hg' : m' ≠ .gone) (hn : ds.length + 1 = n) :
    EvE K (tCall (SpR K n R) [] E ta) G M (.d z) [m'] := by
  have e : (.o 0 :: ds.map Sl.d : List Sl).map (to0 0) = .o 0 :: ds.map Sl.d := by
    rw [List.map_cons, List.map_map]
    congr 1
  have := ev_call1 (k := 0) (es := []) (dvs := []) (E := E) (n := n) (R := R) (z := z) h rfl hg (fun s hs j e => ?_) (by rw [e, List.map_nil, List.append_nil]; exact hR) hg' (by rw [List.length_cons, List.length_map]; exact hn) (fun _ => rfl)
  · exact this
  · rcases List.mem_cons.mp hs with z | z
    · rw [e] at z; cases z; rfl
    · obtain ⟨d, _, hd⟩ := List.mem_map.mp z
      rw [e] at hd; cases hd
theorem es_nM {t : TS} {o : Out} {M' : List MO} (e : M = M') (h : EvS K t G M' o) : EvS K t G M o := e ▸ h
end
/-- words of few signs -/
def Wd (n : Nat) (l : List Nat) : Prop := l.length ≤ n ∧ Asc l
theorem Wd.mono {n m : Nat} {l : List Nat} (h : Wd n l) (e : n ≤ m) : Wd m l := ⟨Nat.le_trans h.1 e, h.2⟩
theorem Wd.app {n m k : Nat} {l l' : List Nat} (h : Wd n l) (h' : Wd m l') (e : n + m ≤ k) : Wd k (l ++ l') := ⟨by rw [List.length_append]; have := h.1; have := h'.1; omega, fun c hc => (List.mem_append.mp hc).elim (h.2 c) (h'.2 c)⟩
theorem Wd.take {n : Nat} {l : List Nat} (h : Wd n l) (k : Nat) : Wd n (l.take k) := ⟨by rw [List.length_take]; have := h.1; omega, fun c hc => h.2 c (List.mem_of_mem_take hc)⟩
theorem Wd.drop {n : Nat} {l : List Nat} (h : Wd n l) (k : Nat) : Wd n (l.drop k) := ⟨by rw [List.length_drop]; have := h.1; omega, fun c hc => h.2 c (List.mem_of_mem_drop hc)⟩
instance (l : List Nat) : Decidable (Asc l) := inferInstanceAs (Decidable (∀ c ∈ l, c < 128))
instance (n : Nat) (l : List Nat) : Decidable (Wd n l) := inferInstanceAs (Decidable (l.length ≤ n ∧ ∀ c ∈ l, c < 128))
theorem Wd.flat {n : Nat} : ∀ {xs : List (List Nat)}, (∀ x ∈ xs, Wd n x) → Wd (n * xs.length) xs.flatten
  | [], _ => ⟨Nat.zero_le _, fun _ h => nomatch h⟩
  | x :: xs, h => by
    rw [List.flatten_cons]
    exact Wd.app (h x List.mem_cons_self) (Wd.flat fun y hy => h y (List.mem_cons_of_mem _ hy)) (by rw [List.length_cons, Nat.mul_succ]; omega)
theorem mapA_all {μ β γ : Type} {f : μ → β → γ × μ} {p : γ → Prop} (h : ∀ m x, p (f m x).1) : ∀ (xs : List β) (m : μ), ∀ y ∈ (mapA f xs m).1, p y
  | [], _, _, hy => nomatch hy
  | x :: xs, m, y, hy => by
    rcases List.mem_cons.mp hy with e | hy
    · rw [e]; exact h m x
    · exact mapA_all h xs _ y hy
theorem mapA_len {μ β γ : Type} {f : μ → β → γ × μ} : ∀ (xs : List β) (m : μ), (mapA f xs m).1.length = xs.length
  | [], _ => rfl
  | x :: xs, m => by
    show (mapA f xs _).1.length + 1 = _
    rw [mapA_len xs, List.length_cons]
theorem flat_one : ∀ l : List Nat, (l.map fun c => [c]).flatten = l
  | [] => rfl
  | c :: l => by
    rw [List.map_cons, List.flatten_cons, flat_one l] <;> rfl
theorem sum_one : ∀ l : List Nat, (l.map fun c => ([c] : List Nat).length).sum = l.length
  | [] => rfl
  | c :: l => by
    rw [List.map_cons, List.sum_cons, sum_one l, List.length_cons]
    exact Nat.add_comm 1 l.length
end DJ
namespace DJ
open PySem PySem.Spec PyProof.Rows L2
/-! ### called by names -/
structure CalF (P : Program) (w : World) (K : PySem.W.Frag) (mg : Str → Option Value) (base : Heap) (k : Nat) (x : Str) (st : Stmt) (ps : List Str) (sp : Sp) : Prop where
  ex : ∃ (f : Addr) (fd : FuncData), FnOk P w K mg base CX0 k f fd ps sp ∧ L2.Fun K x x st f fd ∧ mg x = some (.ref f) ∧ Binds K fd ps []
abbrev gCat (us ws : List Value) : List Value := us ++ ws
abbrev gCatV (us ws : List V) : List V := us ++ ws
structure CalK (P : Program) (w : World) (K : PySem.W.Frag) (mg : Str → Option Value) (base : Heap) (k : Nat) (x : Str) (ks : List Str) (sp : Sp) : Prop where
  ex : ∃ (f : Addr) (fd : FuncData) (ps : List Str), FnOk P w K mg base CX0 k f fd ps sp ∧ mg x = some (.ref f) ∧ PySem.W.keepIn K (.ref f) = true ∧ KBinds K fd ps ks gCat gCatV
section
variable {P : Program} {w : World} {K : PySem.W.Frag} {mg : Str → Option Value} {base : Heap}
theorem CalF.cal {k : Nat} {x : Str} {st : Stmt} {ps : List Str} {sp : Sp} (c : CalF P w K mg base k x st ps sp) : Cal P w K mg base k x sp [] := by
  obtain ⟨f, fd, F, U, hm, b⟩ := c.ex
  exact ⟨f, fd, ps, [], F, hm, U.kp, b, .nil⟩
theorem CalF.kw {k : Nat} {x y : Str} {st : Stmt} {sp : Sp} (c : CalF P w K mg base k x st [y] sp)
    (h : ∀ (kV doc pm : Value) (an : Option Addr) (cdv ct u : Value), bindArgs (PySem.W.fnOf x x (defArgs st) (defBody st) (defScope st) .none kV doc pm an cdv ct) ⟨[], [(y, u)]⟩ = pure [(y, u)]) : CalK P w K mg base k x [y] sp := by
  obtain ⟨f, fd, F, U, hm, b⟩ := c.ex
  refine ⟨f, fd, [y], F, hm, U.kp, ⟨fun s us ws hK hl => ?_, fun r1 r2 => Vals.append r1 r2⟩⟩
  have hl : (us ++ ws).length = 1 := hl
  match us, ws, hl with
  | [u], [], _ => exact b s [u] hK rfl
  | [], [u], _ =>
    obtain ⟨oc, od, kV, doc, pm, an, cdv, ct, osl, rfl, lk, hcd⟩ := U.ex
    exact .of_eq (h kV doc pm an cdv ct u)
theorem cal_mkF {x : Str} {st : Stmt} {N ps : List Str} {k n : Nat} {R : List Sl → List MO → Sl → List MO → Prop} (D : Df K mg x st ps) (S : FnScope N ps (defScope st)) (hn : ps.length = n)
    (hb : ∀ (f : Addr) (cdv : Value) (A : Around) (outer : List Env) (s : Shared) (H : Hp) (E : XK), Room k (A.deeper (envOfC x (defScope st) s.heap.objs.size f cdv)) → ∀ ss M r M', R ss M r M' →
      ∃ t X, PSs (cxOf CX0 P w K mg base N x (defScope st) f cdv A outer s H E).nox (defBody st) t ∧ EvS K t (start N.length ss) M (.rt r (M' ++ X)) ∧ M.length ≤ M'.length ∧ ∀ j, r = .o j → j < M'.length) :
    CalF P w K mg base (k + 1) x st ps (SpR K n R) := by
  obtain ⟨f, fd, F, hm, b⟩ := D.ex
  refine ⟨f, fd, F.ok S (fun vs H Q E h => ?_) (fun cdv A outer s H vs Q E hr h => ?_), F, hm, b⟩
  · obtain ⟨_, _, _, _, _, _, _, _, _, _, e, _⟩ := h
    rw [e, hn]
  · obtain ⟨F', B, as, ss, M, r, M', hR, ow, sl, _, q⟩ := h
    obtain ⟨t, X, ht, he, hl, hr'⟩ := hb f cdv A outer s H E hr ss M r M' hR
    exact ⟨t, ht, run_body (X := X) he hl hr' ow sl q⟩
end
section
variable {X : Cx} {k j : Nat} {x : Str} {ks : List Str} {sp : Sp} {p pos : Pos} {kws : List Keyword} {tk : TA}
theorem pe_cK (c : CalK X.prog X.w X.K X.mg X.base k x ks sp) (hr : Room j X.A) (hk : k ≤ j) (hg : Gl X x) (hkw : PK X kws tk)
    (hall : (backToKw pos (keywordEach kws X.env)).all (·.1.isSome) = true := by rfl) (hks : (backToKw pos (keywordEach kws X.env)).filterMap (·.1) = ks := by rfl) (hdb : (x == ("__debug__" : Str)) = false := by decide)
    (hpl : ((backTo pos (starEach [] X.env)).any (·.1) || (backToKw pos (keywordEach kws X.env)).any (·.1.isNone)) = false := by rfl) : PE X (.Call (.Name x p) [] kws pos) (tCallK sp gCatV L2.E0 tNil tk) := by
  obtain ⟨f, fd, ps, F, hm, kp, hb⟩ := c.ex
  refine ⟨fun pins s σ H Q I h => ?_⟩
  refine wpAny_Call_Name_kw (ld_glob I hg hm ?_ hdb)
  refine PySem.W.callWith_KW0 (h₀ := X.base) I.ok.mod.kin kp hall (thn (hkw.run pos pins s σ H _ I h) fun ws s2 r2 => ?_) hpl
  obtain ⟨zs, H2, I2, rz, q2⟩ := r2
  refine ⟨I2.kIn, ?_⟩
  rw [hks]
  exact run_fnk (us := []) (vs := []) F (hr.mono hk) hb L2.pass0 I2 .nil rz q2
end
section
variable {K : PySem.W.Frag} {G : List (Option Sl)} {M M1 : List MO} {sp : Sp} {E : XK} {tk : TA} {s : Sl}
theorem ev_kw (h : EvE K (tCall sp [] E tk) G M s M1) : EvE K (tCallK sp gCatV E tNil tk) G M s M1 := by
  have e : tCallK sp gCatV E tNil tk = tCall sp [] E tk := by
    funext σ H Q
    show tk σ H (fun zs H2 => sp ([] ++ zs) H2 Q E) = tk σ H (fun zs H2 => sp (zs ++ []) H2 Q E)
    simp only [List.append_nil, List.nil_append]
  rw [e]
  exact h
end
/-! ### what was made for a turn is let go -/
section
variable {K : PySem.W.Frag} {G G1 : List (Option Sl)} {M X M1 : List MO} {t : TS} {wi : TI} {te : TE}
theorem es_nxT (h : EvS K t G M (.nx G1 (M ++ X))) (hg : ∀ k, some (Sl.o k) ∉ G1) : EvS K t G M (.nx G1 M) := fun F B as σ H ow sl D gd =>
  h F B as σ H ow sl D fun B' as' σ' H' g p o' s' => by
    obtain ⟨tl, rfl⟩ := p
    refine gd B' as σ' H' g (Px.refl as) ⟨o'.fb, o'.bb, ow.len, ow.nd, fun a ha => o'.al a (List.mem_append_left _ ha), fun a ha => o'.fa a (List.mem_append_left _ ha), fun k a m e1 e2 hm => ?_⟩ ⟨s'.1, fun i s e => ?_⟩
    · refine o'.own k a m ?_ ?_ hm
      · rw [List.getElem?_append_left (List.getElem?_eq_some_iff.mp e1).1]
        exact e1
      · rw [List.getElem?_append_left (List.getElem?_eq_some_iff.mp e2).1]
        exact e2
    · obtain ⟨v, e1, r⟩ := s'.2 i s e
      refine ⟨v, e1, ?_⟩
      cases s with
      | d x => exact r
      | o k => exact absurd (List.mem_of_getElem? e) (hg k)
theorem ei_is {xs ys : List Dt} (h : EvI K wi G M xs M1) (e : xs = ys) : EvI K wi G M ys M1 := e ▸ h
end
/-- a law's promise, asked with a list of whole numbers -/
theorem sp_of {K : PySem.W.Frag} {R : List Sl → List MO → Sl → List MO → Prop} {H : Hp} {a : Addr} {ns : List Int} {E : XK} (hS : SqL K H a (ns.map V.int)) (hR : R [.d (.lst (ns.map .int))] [] (.d (.bl true)) []) : SpR K 1 R [.ref a] H (fun v _ => v = .bl true) E := by
  have ri : ∀ ns : List Int, RpL K H (ns.map Dt.int) (ns.map V.int) := fun ns => by
    induction ns with
    | nil => rfl
    | cons n ns ih => exact ⟨_, _, rfl, rfl, ih⟩
  refine ⟨fun _ => none, H, [], _, [], _, [], hR, ⟨fun _ _ e => (nomatch e), Same.refl H, rfl, List.nodup_nil, fun _ h => (nomatch h), fun _ h => (nomatch h), fun k a m e => by simp at e⟩, ⟨.ref a, [], rfl, ⟨a, _, rfl, hS, ri ns⟩, rfl⟩, rfl, fun v B' as' H' _ _ _ r => ?_⟩
  exact r
section
variable {K : PySem.W.Frag} {mg : Str → Option Value} {h : Heap}
theorem df_mk {x : Str} {st : Stmt} {ps : List Str} {f : Addr} {oc : Value} {od an : Option Addr} {osl : Array (Option Value)} {kV doc pm cdv ct : Value} (X : K.In h) (G : h.Ns mainGlobals mg) (a : PySem.W.nsIn K mainGlobals x = some (some (.ref f)))
    (l : K.lookup f = some ⟨oc, od, .func (PySem.W.fnOf x x (defArgs st) (defBody st) (defScope st) .none kV doc pm an cdv ct), osl⟩) (c : PySem.W.codeIn K cdv x = true) (k : PySem.W.keepIn K (.ref f) = true)
    (hb : ∀ (kV doc pm : Value) (an : Option Addr) (cdv ct : Value) (us : List Value), us.length = ps.length → bindArgs (PySem.W.fnOf x x (defArgs st) (defBody st) (defScope st) .none kV doc pm an cdv ct) ⟨us, []⟩ = pure (ps.zip us)) : Df K mg x st ps :=
  ⟨f, _, fun_mk l c k, PySem.W.mg_of X G a, (fun_mk l c k).binds hb⟩
theorem gc_str {x : Str} {l : List Nat} {t : Tok} (X : K.In h) (G : h.Ns mainGlobals mg) (a : PySem.W.nsIn K mainGlobals x = some (some (.str (tx l) t))) : Gc K mg x (.str l) := ⟨.str (tx l), _, PySem.W.mg_of X G a, ⟨t, rfl⟩, fun _ => rfl⟩
theorem gc_int {x : Str} {i : Int} {t : Tok} (X : K.In h) (G : h.Ns mainGlobals mg) (a : PySem.W.nsIn K mainGlobals x = some (some (.int i t))) : Gc K mg x (.int i) := ⟨.int i, _, PySem.W.mg_of X G a, ⟨t, rfl⟩, fun _ => rfl⟩
/-- these values are these texts -/
def strsOf : List (List Nat) → List Value → Bool
  | [], [] => true
  | l :: ls, .str x _ :: vs => decide (x = tx l) && strsOf ls vs
  | _, _ => false
theorem vals_strs : ∀ {ls : List (List Nat)} {vs : List Value}, strsOf ls vs = true → Vals ((ls.map tx).map V.str) vs
  | [], [], _ => .nil
  | l :: ls, .str x t :: vs, h => by
    have h : (decide (x = tx l) && strsOf ls vs) = true := h
    rw [Bool.and_eq_true, decide_eq_true_eq] at h
    exact .cons ⟨t, by rw [h.1]⟩ (vals_strs h.2)
  | [], _ :: _, h => by cases h
  | _ :: _, [], h => by cases h
  | _ :: _, .none :: _, h => by cases h
  | _ :: _, .bool _ :: _, h => by cases h
  | _ :: _, .int _ _ :: _, h => by cases h
  | _ :: _, .ref _ :: _, h => by cases h
theorem gc_tup {x : Str} {ls : List (List Nat)} {a : Addr} {oc : Value} {od : Option Addr} {its : Array Value} {n : Nat} {sl : Array (Option Value)} (X : K.In h) (G : h.Ns mainGlobals mg) (e : PySem.W.nsIn K mainGlobals x = some (some (.ref a)))
    (l : K.lookup a = some ⟨oc, od, .seq its n, sl⟩) (hc : oc = .type "tuple") (hz : its.size ≤ 1000) (hs : strsOf ls its.toList = true) : Gc K mg x (.tup (ls.map Dt.str)) :=
  ⟨.ref a, _, PySem.W.mg_of X G e, rfl, fun B => ⟨a, _, rfl, .inr ⟨_, its, n, l, hc, rfl, Nat.le_trans hz (by decide), vals_strs hs⟩, RpL.strs_of ls⟩⟩
end
end DJ
namespace DJ
open PySem PySem.W PyProof.Rows PySem.Spec L2
/-! ### the order of tuples of two texts -/
def txo : Option Value → Str
  | some (.str x _) => x
  | _ => ⟨#[]⟩
def itemsAt (h : Heap) (a : Addr) : List Value := match h.get? a with
  | some o => (match o.data with
    | .seq xs _ => xs.toList
    | _ => [])
  | none => []
def twoAt (h : Heap) : Value → Str × Str
  | .ref a => (txo (itemsAt h a)[0]?, txo (itemsAt h a)[1]?)
  | _ => (⟨#[]⟩, ⟨#[]⟩)
/-- v is a tuple of two texts -/
def Two (h : Heap) (v : Value) (e : Str × Str) : Prop := ∃ (a : Addr) (t u : Tok), v = .ref a ∧ IsTup h a #[.str e.1 t, .str e.2 u]
theorem Two.at {h : Heap} {v : Value} {e : Str × Str} (x : Two h v e) : twoAt h v = e := by
  obtain ⟨a, t, u, rfl, o, ho, hc, n, hd⟩ := x
  have z : itemsAt h a = [.str e.1 t, .str e.2 u] := by
    unfold itemsAt
    rw [ho]
    show (match o.data with
      | .seq xs _ => xs.toList
      | _ => []) = _
    rw [hd]
  show (txo (itemsAt h a)[0]?, txo (itemsAt h a)[1]?) = e
  rw [z] <;> rfl
theorem Two.keeps {h h' : Heap} {v : Value} {e : Str × Str} (x : Two h v e) (k : ∀ b o, h.get? b = some o → o.cls = .type "tuple" → h'.get? b = some o) : Two h' v e := by
  obtain ⟨a, t, u, e1, o, ho, hc, r⟩ := x
  exact ⟨a, t, u, e1, o, k _ _ ho hc, hc, r⟩
def lex2 (e f : Str × Str) : Bool := if e.1 = f.1 then decide (e.2.cps.toList < f.2.cps.toList) else decide (e.1.cps.toList < f.1.cps.toList)
theorem firsts2 {h : Heap} : ∀ vs : List Value, (∀ v ∈ vs, ∃ e, Two h v e) → ∃ fs : List Value, KatTups h vs fs ∧ fs.length = vs.length ∧ ∀ f ∈ fs, ∃ (x : Str) (t : Tok), f = Value.str x t
  | [], _ => ⟨[], KatTups.nil, rfl, fun f hf => by simp at hf⟩
  | v :: vs, x => by
    obtain ⟨fs, k, hl, hi⟩ := firsts2 vs fun u hu => x u (List.mem_cons_of_mem _ hu)
    obtain ⟨e, a, t, u, rfl, o, ho, hc, n, hd⟩ := x v List.mem_cons_self
    refine ⟨.str e.1 t :: fs, KatTups.cons ho hc hd rfl k, by rw [List.length_cons, List.length_cons, hl], fun f hf => ?_⟩
    rcases List.mem_cons.mp hf with e1 | hf
    · exact ⟨_, _, e1⟩
    · exact hi f hf
section
variable {prog : Program} {w : World} {A : Around} {E : Value → Shared → Prop} {s : Shared}
theorem kind2 {vs : List Value} {ρ : Str × Str → Int} (h2 : 2 ≤ vs.length) (x : ∀ v ∈ vs, ∃ e, Two s.heap v e)
    (hρ : ∀ v ∈ vs, ∀ u ∈ vs, lex2 (twoAt s.heap v) (twoAt s.heap u) = decide (ρ (twoAt s.heap v) < ρ (twoAt s.heap u))) (Q : SortKind → Shared → Prop)
    (h : ∀ κ, TS.Cmp prog w A s κ (pairsOf vs) (fun v => ρ (twoAt s.heap v)) → Q κ s) : wpAny (model prog w) A (keyKind' vs.toArray) Q E s := by
  obtain ⟨fs, k, hl, hi⟩ := firsts2 vs x
  refine kat_kind (T := Value.type "str") k (by omega) (fun f hf => ?_) rfl (h _ ?_)
  · obtain ⟨y, t, rfl⟩ := hi f hf
    exact PySem.W.Looks.of_pure rfl
  · have hb : (Value.type "str" != Value.type "tuple") = true := by first | rfl | decide | simp
    rw [hb]
    intro p q hp hq Q' E' hQ
    rw [pairsOf_toList] at hp hq
    have mp := (mem_zip_self hp).2
    have mq := (mem_zip_self hq).2
    obtain ⟨e, pe⟩ := x _ mp
    obtain ⟨f, pf⟩ := x _ mq
    have hr := hρ _ mp _ mq
    have hQ' : Q' (lex2 e f) s := by
      rw [pe.at, pf.at] at hr
      rw [hr]
      have hQ2 : Q' (decide (ρ (twoAt s.heap p.1) < ρ (twoAt s.heap q.1))) s := hQ
      rw [pe.at, pf.at] at hQ2
      exact hQ2
    obtain ⟨a, t, u, e1, o, ho, hc, n, hd⟩ := pe
    obtain ⟨a', t', u', e2, o', ho', hc', n', hd'⟩ := pf
    rw [e1, e2]
    refine kat_lt ho hd ho' hd' ?_
    show KatLex prog w A true false Q' [(Value.str e.1 t, Value.str f.1 t'), (Value.str e.2 u, Value.str f.2 u')] 0 s
    refine kat_cons (wpAny_eqBool_str (kat_go (fun e0 => ?_) (fun e0 => ?_)))
    · have e0 : e.1 = f.1 := of_decide_eq_true e0
      have z : lex2 e f = decide (e.2.cps.toList < f.2.cps.toList) := if_pos e0
      rw [z] at hQ'
      refine kat_yes (kat_cons (wpAny_eqBool_str (kat_go (fun e3 => ?_) (fun e3 => ?_))))
      · have e3 : e.2 = f.2 := of_decide_eq_true e3
        refine kat_yes (kat_nil ?_)
        have irr : decide (e.2.cps.toList < f.2.cps.toList) = false := by
          rw [e3]
          first | exact decide_eq_false (List.lt_irrefl _) | simp
        rw [irr] at hQ'
        exact hQ'
      · refine kat_no ?_
        show wpAny _ _ (oneLt' false _ _) _ _ _
        exact kat_one _ _ (PyProof.Rows.lt_str hQ')
    · have e0 : ¬ e.1 = f.1 := of_decide_eq_false e0
      have z : lex2 e f = decide (e.1.cps.toList < f.1.cps.toList) := if_neg e0
      rw [z] at hQ'
      refine kat_no ?_
      show wpAny _ _ (oneLt' true _ _) _ _ _
      exact oneLt_str hQ'
end
/-! ### sorted(d), the keys tuples of two texts -/
abbrev keyOf2 (e : Str × Str) : List Key := [Sum.inr e.1, Sum.inr e.2]
def rSort2 : List V → Hp → VK → Prop := fun vs H Q => ∃ (a : Addr) (kvs : List (List Key × V)) (ks : List (Str × Str)) (ρ : Str × Str → Int), vs = [.ref a] ∧ H a = some (.dT kvs) ∧ kvs.map (·.1) = ks.map keyOf2 ∧ ks.length < 64 ∧
  (∀ e ∈ ks, ∀ f ∈ ks, lex2 e f = decide (ρ e < ρ f)) ∧
  ∀ (l : Addr) (ps : List (Addr × Str × Str)), H l = none → (ps.map (·.2)).Perm ks → (ps.map (·.2)).Pairwise (fun e f => ρ e ≤ ρ f) → (∀ z ∈ ps, H z.1 = some (.tup [.str z.2.1, .str z.2.2])) → Q (.ref l) (upd H l (.lst (ps.map fun z => V.ref z.1)))
section
variable {X : Cx}
theorem cr_sort2 (hc : X.calm = true) : CallR X (.builtin "sorted") rSort2 := by
  intro pins s σ H xs us Q I r h
  obtain ⟨a, kvs, ks, ρ, rfl, ha, hks, h64, hρ, q⟩ := h
  obtain rfl := Vals.ref1 r
  obtain ⟨z, hd, xs', rel, o, es, ep, ho, hx, hdat, hes, his, hn⟩ := dt_of I.hok ha
  have l1 : kvs.length = xs'.length := Paired.length rel
  have l2 : es.size = xs'.length := size_of_entries hes
  have l3 : kvs.length = ks.length := by
    have e := congrArg List.length hks
    rw [List.length_map, List.length_map] at e
    exact e
  have hh : X.A.handled = none := I.ok.hd hc
  refine PySem.Calls.call_function_entry PyProof.Rows.kind_sorted PyProof.Rows.plain_sorted PyProof.Rows.entry_sorted (PyProof.Rows.args_sorted1 _) ?_
  unfold Builtin.«sorted»
  refine wpAny_bind (m := checkCount "sorted" 1 1 _) (wpAny_pure ?_)
  refine wpAny_bind (PySem.W.kdu_collect (A := X.A.in1) (kdl_raw (prog := X.prog) (w := X.w) hd hx hdat) hh ho (by rw [sizeLine_eq]; omega) fun h' tk acc hk hacc => ?_)
  have ea : acc.toList = (xs'.map fun x => x.2.1).map Value.ref := by
    have hl : acc.toList.length = xs'.length := by rw [Array.length_toList, hacc.1]; exact l2
    refine List.ext_getElem? fun j => ?_
    rw [List.getElem?_map, List.getElem?_map]
    cases hj : acc.toList[j]? with
    | none =>
      have h1 := List.getElem?_eq_none_iff.mp hj
      rw [List.getElem?_eq_none (by omega)] <;> rfl
    | some v =>
      obtain ⟨en, hen, hv⟩ := hacc.2 j v (by rw [← Array.getElem?_toList]; exact hj)
      have qe := entry_at hes j
      rw [hen] at qe
      cases hb : xs'[j]? with
      | none =>
        rw [hb] at qe
        exact nomatch (show some en = none from qe)
      | some b =>
        rw [hb] at qe
        have e2 : en = entryOfKey (tupleKind (mixKind X.prog X.w)) b := Option.some.inj qe
        rw [hv, e2] <;> rfl
  generalize hbs : (xs'.map fun x => x.2.1) = bs at ea
  have lb : bs.length = ks.length := by rw [← hbs, List.length_map]; omega
  -- each key's tuple
  have key : ∀ (j : Nat) (b : Addr), bs[j]? = some b → ∃ e, ks[j]? = some e ∧ H b = some (.tup [.str e.1, .str e.2]) := by
    intro j b hj
    rw [← hbs, List.getElem?_map] at hj
    cases hxj : xs'[j]? with
    | none => rw [hxj] at hj; exact nomatch (show (none : Option Addr) = some b from hj)
    | some x =>
      rw [hxj] at hj
      have eb : x.2.1 = b := Option.some.inj hj
      obtain ⟨e0, he0, r1, r2, r3⟩ := DX.pget rel hxj
      have hk0 : (kvs.map (·.1))[j]? = some e0.1 := by rw [List.getElem?_map, he0] <;> rfl
      rw [hks, List.getElem?_map] at hk0
      cases hkj : ks[j]? with
      | none => rw [hkj] at hk0; exact nomatch (show (none : Option (List Key)) = some e0.1 from hk0)
      | some e =>
        rw [hkj] at hk0
        have ee : keyOf2 e = e0.1 := Option.some.inj hk0
        rw [← ee, eb] at r2
        exact ⟨e, rfl, r2⟩
  have two : ∀ (h2 : Heap), (∀ b ob, s.heap.get? b = some ob → ob.cls = .type "tuple" → h2.get? b = some ob) → ∀ (j : Nat) (b : Addr), bs[j]? = some b → ∃ e, ks[j]? = some e ∧ Two h2 (.ref b) e := by
    intro h2 kp j b hj
    obtain ⟨e, he, hb⟩ := key j b hj
    obtain ⟨_, its, rv, ot, hot, hct, nt, hdt⟩ := (show ObjOk X.prog X.w H s.heap b (.tup [.str e.1, .str e.2]) from I.hok b _ hb)
    obtain ⟨t, u, rfl⟩ : ∃ t u, its = [Value.str e.1 t, Value.str e.2 u] := by
      cases rv with
      | cons r1 r2 =>
        cases r2 with
        | cons r2 r3 =>
          cases r3
          obtain ⟨t, rfl⟩ := r1
          obtain ⟨u, rfl⟩ := r2
          exact ⟨t, u, rfl⟩
    exact ⟨e, he, b, t, u, rfl, ot, kp _ _ hot hct, hct, nt, hdt⟩
  rw [ea]
  refine wpAny_bind (wpAny_newList ?_ (by rw [List.length_map, sizeLine_eq]; omega))
  have hob : (h'.push (seqObj "list" (bs.map Value.ref).toArray 0)).get? h'.objs.size = some (seqObj "list" (bs.map Value.ref).toArray 0) := Heap.get?_push_size _ rfl
  show wpAny _ _ _ _ _ { s with heap := h'.push (seqObj "list" (bs.map Value.ref).toArray 0), toks := tk }
  have kb : ∀ b o, s.heap.get? b = some o → (h'.push (seqObj "list" (bs.map Value.ref).toArray 0)).get? b = some o := fun b o e => Heap.get?_push_of_some _ (hk b o e)
  have ne0 : ∀ b o, s.heap.get? b = some o → b ≠ h'.objs.size := fun b o e => Nat.ne_of_lt (Heap.lt_size (hk b o e))
  generalize hh2 : h'.push (seqObj "list" (bs.map Value.ref).toArray 0) = h2 at hob kb ⊢
  have mid : ∀ b ob, s.heap.get? b = some ob → ob.cls = .type "tuple" → (TS.midHeap h2 h'.objs.size (bs.map Value.ref)).get? b = some ob := fun b ob e _ => TS.midHeap_old (ne0 _ _ e) (kb _ _ e)
  have at_ : ∀ v ∈ bs.map Value.ref, ∃ (j : Nat) (b : Addr) (e : Str × Str), v = .ref b ∧ bs[j]? = some b ∧ ks[j]? = some e ∧ Two (TS.midHeap h2 h'.objs.size (bs.map Value.ref)) (.ref b) e := by
    intro v hv'
    obtain ⟨b, hb, rfl⟩ := List.mem_map.mp hv'
    obtain ⟨j, hj⟩ := List.mem_iff_getElem?.mp hb
    obtain ⟨e, he, ht⟩ := two _ mid j b hj
    exact ⟨j, b, e, rfl, hj, he, ht⟩
  refine wpAny_bind (wpAny_holding (wpAny_call_entry PyProof.Rows.slot_list_sort ⟨_, hob, rfl⟩ PyProof.Rows.entry_list_sort
    (SK.plain_sort (s := { s with heap := h2, toks := tk }) (r := fun v => ρ (twoAt (TS.midHeap h2 h'.objs.size (bs.map Value.ref)) v)) hob (by rw [List.length_map]; omega) (fun h2' Qk hQk => ?_) fun ps out o1 o2 o3 => ⟨.none, rfl, ?_⟩) (PyProof.Rows.args_list_sort _)))
  · refine kind2 (s := { s with heap := TS.midHeap h2 h'.objs.size (bs.map Value.ref), toks := tk }) (ρ := ρ) h2' (fun v hv' => ?_) (fun v hv' u hu' => ?_) Qk hQk
    · obtain ⟨j, b, e, rfl, hj, he, ht⟩ := at_ v hv'
      exact ⟨e, ht⟩
    · obtain ⟨j, b, e, rfl, hj, he, ht⟩ := at_ v hv'
      obtain ⟨j2, b2, e2, rfl, hj2, he2, ht2⟩ := at_ u hu'
      show lex2 (twoAt (TS.midHeap h2 h'.objs.size (bs.map Value.ref)) (.ref b)) (twoAt (TS.midHeap h2 h'.objs.size (bs.map Value.ref)) (.ref b2)) = decide (ρ (twoAt (TS.midHeap h2 h'.objs.size (bs.map Value.ref)) (.ref b)) < ρ (twoAt (TS.midHeap h2 h'.objs.size (bs.map Value.ref)) (.ref b2)))
      rw [ht.at, ht2.at]
      exact hρ e (List.mem_of_getElem? he) e2 (List.mem_of_getElem? he2)
  · obtain ⟨zs, pz, ez⟩ := perm_lift (fun z : Addr × Str × Str => (Value.ref z.1, Value.ref z.1)) o2 (bs.zip ks) (DX.zip_self Value.ref bs ks lb)
    have idx : ∀ z ∈ zs, ∃ j : Nat, bs[j]? = some z.1 ∧ ks[j]? = some z.2 := by
      intro z' hz'
      obtain ⟨j, hj⟩ := List.mem_iff_getElem?.mp (pz.mem_iff.mp hz')
      exact ⟨j, List.getElem?_zip_eq_some.mp hj⟩
    have tw : ∀ z ∈ zs, twoAt (TS.midHeap h2 h'.objs.size (bs.map Value.ref)) (.ref z.1) = z.2 := by
      intro z' hz'
      obtain ⟨j, j1, j2⟩ := idx z' hz'
      obtain ⟨e, he, ht⟩ := two _ mid j z'.1 j1
      rw [ht.at]
      exact Option.some.inj (he.symm.trans j2)
    have hout : out.toList = zs.map fun z => Value.ref z.1 := by
      rw [o1, ← ez, List.map_map] <;> rfl
    have hperm : (zs.map (·.2)).Perm ks := by
      have e := pz.map (·.2)
      have m2 : (bs.zip ks).map (·.2) = ks := List.map_snd_zip (by rw [lb]; exact Nat.le_refl _)
      rw [m2] at e
      exact e
    have hsort : (zs.map (·.2)).Pairwise (fun e f => ρ e ≤ ρ f) := by
      rw [← ez, List.pairwise_map] at o3
      rw [List.pairwise_map]
      refine List.Pairwise.imp_of_mem (fun {x y} hx hy h => ?_) o3
      have h' : ρ (twoAt (TS.midHeap h2 h'.objs.size (bs.map Value.ref)) (.ref x.1)) ≤ ρ (twoAt (TS.midHeap h2 h'.objs.size (bs.map Value.ref)) (.ref y.1)) := h
      rw [tw x hx, tw y hy] at h'
      exact h'
    have kS : ∀ b o, s.heap.get? b = some o → (sortedHeap h2 h'.objs.size (bs.map Value.ref) out).get? b = some o := fun b o e => (PyProof.Rows.sortedHeap_old (ne0 b o e) (Heap.lt_size (kb b o e))).trans (kb b o e)
    obtain ⟨eF, heF⟩ := PyProof.Rows.sortedHeap_at (vs := bs.map Value.ref) (out := out) hob
    have I1 : Inv X pins σ H { s with heap := h', toks := tk } := I.kept (t' := tk) hk
    have kS' : ∀ b o, h'.get? b = some o → (sortedHeap h2 h'.objs.size (bs.map Value.ref) out).get? b = some o := fun b o e => by
      have e2 : h2.get? b = some o := by rw [← hh2]; exact Heap.get?_push_of_some _ e
      exact (PyProof.Rows.sortedHeap_old (Nat.ne_of_lt (Heap.lt_size e)) (Heap.lt_size e2)).trans e2
    have hlen : (zs.map fun z => V.ref z.1).length ≤ sizeLine := by
      have e := hperm.length_eq
      rw [List.length_map] at e
      rw [List.length_map, sizeLine_eq]
      omega
    have rv : Vals (zs.map fun z => V.ref z.1) out.toList := by
      rw [hout]
      exact vals_maps (fun z : Addr × Str × Str => V.ref z.1) (fun z => Value.ref z.1) zs fun _ _ => rfl
    have I2 : Inv X pins σ (upd H h'.objs.size (.lst (zs.map fun z => V.ref z.1))) { s with heap := sortedHeap h2 h'.objs.size (bs.map Value.ref) out, toks := tk } :=
      I1.laid (t' := tk) kS' (Nat.le_refl _) (show ObjOk X.prog X.w _ _ _ (.lst (zs.map fun z => V.ref z.1)) from ⟨hlen, out.toList, eF, rv, heF⟩)
    refine wpAny_pure ⟨_, rfl, .ref h'.objs.size, _, I2, rfl, q _ zs (I1.hok.fresh (Nat.le_refl _)) hperm hsort fun z' hz' => ?_⟩
    obtain ⟨j, j1, j2⟩ := idx z' hz'
    obtain ⟨e, he, hH⟩ := key j z'.1 j1
    have ee : e = z'.2 := Option.some.inj (he.symm.trans j2)
    rw [ee] at hH
    exact hH
end
end DJ
namespace DJ
open PySem PySem.Spec PyProof.Rows L2
/-! ### a dict that is filled, keys tuples of texts -/
abbrev Tb := List (List (List Nat) × List Nat)
abbrev encTb (kvs : Tb) : List (List Key × V) := kvs.map encT
def dcO (kvs : Tb) : MO := .hob (.dT (encTb kvs))
/-- the same, when it stands -/
def dicD (kvs : Tb) : Dt := .ext fun H v => ∃ a, v = .ref a ∧ H a = some (.dT (encTb kvs))
def putTb (kvs : Tb) (k : List (List Nat)) (v : List Nat) : Tb := if kvs.any (fun kv => decide (kv.1 = k)) then kvs.map (fun kv => if kv.1 = k then (kv.1, v) else kv) else kvs ++ [(k, v)]
theorem keys_inj : ∀ {a b : List (List Nat)}, (a.map fun k => (Sum.inr (tx k) : Key)) = (b.map fun k => (Sum.inr (tx k) : Key)) → a = b
  | [], [], _ => rfl
  | [], _ :: _, e => by simp at e
  | _ :: _, [], e => by simp at e
  | x :: xs, y :: ys, e => by
    rw [List.map_cons, List.map_cons] at e
    injection e with e1 e2
    have e3 : tx x = tx y := Sum.inr.inj e1
    have e4 : (tx x).cps.toList = (tx y).cps.toList := by rw [e3]
    have e5 : x = y := by simpa using e4
    rw [e5, keys_inj e2]
theorem key_dec (a b : List (List Nat)) : decide ((a.map fun k => (Sum.inr (tx k) : Key)) = (b.map fun k => (Sum.inr (tx k) : Key))) = decide (a = b) := by
  by_cases h : a = b
  · subst h
    rw [decide_eq_true rfl, decide_eq_true rfl]
  · rw [decide_eq_false h, decide_eq_false fun e => h (keys_inj e)]
theorem any_tb (kvs : Tb) (k : List (List Nat)) : ((encTb kvs).any fun kv => decide (kv.1 = (k.map fun k => (Sum.inr (tx k) : Key)))) = kvs.any fun kv => decide (kv.1 = k) := by
  rw [List.any_map]
  congr 1
  funext kv
  exact key_dec kv.1 k
theorem put_tb (kvs : Tb) (k : List (List Nat)) (v : List Nat) : putK (encTb kvs) (k.map fun k => (Sum.inr (tx k) : Key)) (.str (tx v)) = encTb (putTb kvs k v) := by
  unfold putK putTb
  rw [any_tb]
  cases h : kvs.any fun kv => decide (kv.1 = k) with
  | false =>
    rw [if_neg Bool.false_ne_true, if_neg Bool.false_ne_true]
    show _ = (kvs ++ [(k, v)]).map encT
    rw [List.map_append] <;> rfl
  | true =>
    rw [if_pos rfl, if_pos rfl]
    show (kvs.map encT).map _ = (kvs.map _).map encT
    rw [List.map_map, List.map_map]
    refine List.map_congr_left fun kv _ => ?_
    show (if (encT kv).1 = _ then _ else _) = encT (if kv.1 = k then (kv.1, v) else kv)
    by_cases e : kv.1 = k
    · rw [if_pos e, if_pos (by rw [← e])]
    · rw [if_neg e, if_neg (fun z => e (keys_inj z))]
def getTb (kvs : Tb) (k : List (List Nat)) : Option (List Nat) := (kvs.find? fun kv => decide (kv.1 = k)).map (·.2)
theorem get_tb (k : List (List Nat)) : ∀ kvs : Tb, valV (encTb kvs) (k.map fun k => (Sum.inr (tx k) : Key)) = (getTb kvs k).map fun z => V.str (tx z)
  | [] => rfl
  | kv :: kvs => by
    by_cases e : kv.1 = k
    · have e1 : getTb (kv :: kvs) k = some kv.2 := by
        unfold getTb
        rw [List.find?_cons_of_pos (by exact decide_eq_true e)] <;> rfl
      rw [e1]
      exact valV_pos (p := encT kv) (by rw [← e])
    · have e1 : getTb (kv :: kvs) k = getTb kvs k := by
        unfold getTb
        rw [List.find?_cons_of_neg (by rw [decide_eq_true_eq]; exact e)]
      rw [e1, ← get_tb k kvs]
      exact valV_neg (p := encT kv) fun z => e (keys_inj z)
section
variable {K : PySem.W.Frag} {B H : Hp} {G G1 : List (Option Sl)} {M M1 M2 M3 : List MO} {te td ty : TE}
theorem ev_dnewT : EvE K tDNewT G M (.o M.length) (M ++ [dcO []]) := fun F B as σ H ow sl Q q p hp => by
  refine q _ B (as ++ [p]) _ (Gr.refl F B) ⟨[p], rfl⟩ (ow.newO hp (show MoR K B _ p (dcO []) from ⟨upd_same, fun _ z => (nomatch z)⟩)) ⟨p, ?_, rfl⟩
  rw [← ow.len, List.getElem?_append_right (Nat.le_refl _), Nat.sub_self] <;> rfl
/-- d[k] = v -/
theorem es_put {k : Nat} {kvs : Tb} {ks : List (List Nat)} {v : List Nat} (hv : EvE K te G M (.d (.str v)) M1) (hd : EvE K td G M1 (.o k) M2) (hk : EvE K ty G M2 (.d (keyD ks)) M3) (hm : M3[k]? = some (dcO kvs)) (hl : kvs.length < 100000) :
    EvS K (sDPut td ty te) G M (.nx G (M3.set k (dcO (putTb kvs ks v)))) := fun F B as σ H ow sl D gd =>
  hv F B as σ H ow sl _ fun w B1 as1 H1 g1 p1 o1 r1 => hd F B1 as1 σ H1 o1 (sl.mono g1.1 p1) _ fun x B2 as2 H2 g2 p2 o2 r2 => hk F B2 as2 σ H2 o2 ((sl.mono g1.1 p1).mono g2.1 p2) _ fun y B3 as3 H3 g3 p3 o3 r3 => by
    obtain ⟨a, ha, rfl⟩ := r2
    obtain ⟨b, rfl, hb⟩ := r3 B3 (Same.refl _)
    have r1 : w = .str (tx v) := r1
    subst r1
    have ha3 : as3[k]? = some a := by
      obtain ⟨t, rfl⟩ := p3
      rw [List.getElem?_append_left (List.getElem?_eq_some_iff.mp ha).1]
      exact ha
    obtain ⟨f0, b0, hH, _⟩ := o3.own k a _ ha3 hm (fun z => nomatch z)
    have hH : H3 a = some (.dT (encTb kvs)) := hH
    refine ⟨a, _, rfl, .inr ⟨encTb kvs, _, b, hH, rfl, o3.bb _ _ hb, ?_, rfl⟩, ?_⟩
    · rw [List.length_map, sizeLine_eq]
      omega
    · rw [put_tb]
      refine gd B3 as3 σ _ ((g1.trans g2).trans g3) ((p1.trans p2).trans p3) (o3.put ha3 hm (fun z => nomatch z) (show MoR K B3 _ a (dcO _) from ⟨upd_same, fun _ z => (nomatch z)⟩)) (((sl.mono g1.1 p1).mono g2.1 p2).mono g3.1 p3)
theorem ev_freezeT {k : Nat} {kvs : Tb} (h : EvE K te G M (.o k) M1) (hm : M1[k]? = some (dcO kvs)) : EvE K te G M (.d (dicD kvs)) (M1.set k .gone) := fun F B as σ H ow sl Q q =>
  h F B as σ H ow sl _ fun v B1 as1 H1 g p o1 r => by
    obtain ⟨a, ha, rfl⟩ := r
    obtain ⟨g', ow'⟩ := o1.freezeO ha hm
    exact q _ _ as1 H1 (g.trans g') p ow' fun H' s => ⟨a, rfl, s _ _ upd_same⟩
/-- d[k], d.get(k) -/
theorem ev_atT {kvs : Tb} {ks : List (List Nat)} {z : List Nat} (hd : EvE K td G M (.d (dicD kvs)) M1) (hk : EvE K ty G M1 (.d (keyD ks)) M2) (hz : getTb kvs ks = some z) : EvE K (tDGet td ty) G M (.d (.str z)) M2 := fun F B as σ H ow sl Q q =>
  hd F B as σ H ow sl _ fun v B1 as1 H1 g1 p1 o1 r1 => hk F B1 as1 σ H1 o1 (sl.mono g1.1 p1) _ fun y B2 as2 H2 g2 p2 o2 r2 => by
    obtain ⟨a, rfl, ha⟩ := r1 B1 (Same.refl _)
    obtain ⟨b, rfl, hb⟩ := r2 B2 (Same.refl _)
    refine ⟨a, .str (tx z), rfl, .inr ⟨_, _, b, .inl (o2.bb _ _ (g2.1 _ _ ha)), rfl, o2.bb _ _ hb, ?_⟩, q _ B2 as2 H2 (g1.trans g2) (p1.trans p2) o2 rfl⟩
    rw [get_tb, hz] <;> rfl
theorem ev_get1T {kvs : Tb} {ks : List (List Nat)} (hd : EvE K td G M (.d (dicD kvs)) M1) (hk : EvE K ty G M1 (.d (keyD ks)) M2) : EvE K (tDGet1 td ty) G M (.d (oS (getTb kvs ks))) M2 := fun F B as σ H ow sl Q q =>
  hd F B as σ H ow sl _ fun v B1 as1 H1 g1 p1 o1 r1 => by
    obtain ⟨a, rfl, ha⟩ := r1 B1 (Same.refl _)
    refine ⟨a, rfl, .inr ⟨_, .inl (o1.bb _ _ ha)⟩, hk F B1 as1 σ H1 o1 (sl.mono g1.1 p1) _ fun y B2 as2 H2 g2 p2 o2 r2 => ?_⟩
    obtain ⟨b, rfl, hb⟩ := r2 B2 (Same.refl _)
    refine ⟨_, .inr ⟨_, _, b, .inl (o2.bb _ _ (g2.1 _ _ ha)), rfl, o2.bb _ _ hb, rfl⟩, q _ B2 as2 H2 (g1.trans g2) (p1.trans p2) o2 ?_⟩
    rw [get_tb]
    cases getTb kvs ks with
    | none => rfl
    | some z => rfl
end
/-- tuples that stand are taken into the base -/
theorem Ow.tups {K : PySem.W.Frag} {F H : Hp} {as : List Addr} {M : List MO} : ∀ (ts : List (Addr × List V)) {B : Hp}, Ow K F B as M H → (∀ z ∈ ts, H z.1 = some (.tup z.2)) → ∃ B', Gr F B B' ∧ Ow K F B' as M H ∧ ∀ z ∈ ts, B' z.1 = some (.tup z.2)
  | [], B, h, _ => ⟨B, Gr.refl F B, h, fun _ z => (nomatch z)⟩
  | t :: ts, B, h, ht => by
    have h0 := ht t List.mem_cons_self
    have sm : Same B (upd B t.1 (.tup t.2)) := fun c u e => by
      by_cases z : c = t.1
      · rw [z, upd_same]
        rw [z] at e
        exact h0.symm.trans (h.bb _ _ e)
      · rw [upd_ne z]; exact e
    have g : Gr F B (upd B t.1 (.tup t.2)) := ⟨sm, fun c k n => by
      by_cases z : c = t.1
      · have k2 := Kp.same k h.fb
        rw [z] at k2
        exact absurd h0 (k2.2 _)
      · rw [upd_ne z]; exact n⟩
    have o : Ow K F (upd B t.1 (.tup t.2)) as M H := by
      refine ⟨h.fb, fun c u e => ?_, h.len, h.nd, h.al, h.fa, fun k a m e1 e2 hm => ?_⟩
      · by_cases z : c = t.1
        · subst z; rw [upd_same] at e; rw [← e]; exact h0
        · rw [upd_ne z] at e; exact h.bb _ _ e
      · obtain ⟨q1, q2, q3⟩ := h.own k a m e1 e2 hm
        have ne : a ≠ t.1 := fun z => by
          have k2 := kp_mor hm q3
          rw [z] at k2
          exact k2.2 _ h0
        exact ⟨q1, by rw [upd_ne ne]; exact q2, MoR.mono sm rfl q3⟩
    obtain ⟨B', g2, o2, hb⟩ := Ow.tups ts o fun z hz => ht z (List.mem_cons_of_mem _ hz)
    refine ⟨B', g.trans g2, o2, fun z hz => ?_⟩
    rcases List.mem_cons.mp hz with e | hz
    · rw [e]; exact g2.1 _ _ upd_same
    · exact hb z hz
/-! ### one order of things that a rank tells apart -/
theorem perm_one {α : Type} (ρ : α → Int) : ∀ (l m : List α), l.Perm m → l.Pairwise (fun x y => ρ x ≤ ρ y) → m.Pairwise (fun x y => ρ x ≤ ρ y) → (∀ x ∈ l, ∀ y ∈ l, ρ x = ρ y → x = y) → l = m
  | [], m, p, _, _, _ => by rw [List.nil_perm.mp p]
  | x :: l, m, p, h1, h2, hi => by
    cases m with
    | nil => exact absurd p.length_eq (by simp)
    | cons y m =>
      have hy : y ∈ x :: l := p.mem_iff.mpr List.mem_cons_self
      have hx : x ∈ y :: m := p.mem_iff.mp List.mem_cons_self
      have e : x = y := by
        refine hi x List.mem_cons_self y hy (Int.le_antisymm ?_ ?_)
        · rcases List.mem_cons.mp hy with e | h
          · rw [e]; exact Int.le_refl _
          · exact (List.pairwise_cons.mp h1).1 y h
        · rcases List.mem_cons.mp hx with e | h
          · rw [e]; exact Int.le_refl _
          · exact (List.pairwise_cons.mp h2).1 x h
      subst e
      rw [perm_one ρ l m (List.Perm.cons_inv p) (List.pairwise_cons.mp h1).2 (List.pairwise_cons.mp h2).2 fun a ha b hb => hi a (List.mem_cons_of_mem _ ha) b (List.mem_cons_of_mem _ hb)]
/-- sorted(d) -/
abbrev P2 := List Nat × List Nat
abbrev key2 (e : P2) : Str × Str := (tx e.1, tx e.2)
def lexL (e f : P2) : Bool := if e.1 = f.1 then decide (e.2 < f.2) else decide (e.1 < f.1)
theorem lex_key (e f : P2) : lex2 (key2 e) (key2 f) = lexL e f := by
  unfold lex2 lexL
  have h : (key2 e).1 = (key2 f).1 ↔ e.1 = f.1 := ⟨fun h => by
    have h2 : (tx e.1).cps.toList = (tx f.1).cps.toList := congrArg (fun x : Str => x.cps.toList) h
    simpa using h2, fun h => by show tx e.1 = tx f.1; rw [h]⟩
  by_cases z : e.1 = f.1
  · rw [if_pos z, if_pos (h.mpr z)]
  · rw [if_neg z, if_neg (fun y => z (h.mp y))]
section
variable {K : PySem.W.Frag} {B H : Hp} {G G1 : List (Option Sl)} {M M1 M2 M3 : List MO} {te td ty : TE} {ta : TA}
theorem ev_sort2 {kvs : Tb} {ks so : List P2} (rk : P2 → Int) (hd : EvE K td G M (.d (dicD kvs)) M1) (hk : kvs.map (·.1) = ks.map fun e => [e.1, e.2]) (hl : ks.length < 64) (hr : ∀ e ∈ ks, ∀ f ∈ ks, lexL e f = decide (rk e < rk f)) (hp : so.Perm ks)
    (hs : so.Pairwise fun e f => rk e ≤ rk f) (hi : ∀ e ∈ ks, ∀ f ∈ ks, rk e = rk f → e = f) : EvE K (tCB rSort2 (tCons td tNil)) G M (.d (.lst (so.map fun e => .tup [.str e.1, .str e.2]))) M1 := fun F B as σ H ow sl Q q =>
  hd F B as σ H ow sl _ fun v B1 as1 H1 g1 p1 o1 r1 => by
    obtain ⟨a, rfl, ha⟩ := r1 B1 (Same.refl _)
    have un : ∀ e : P2, rk ((key2 e).1.cps.toList, (key2 e).2.cps.toList) = rk e := fun e => by
      show rk (e.1.toArray.toList, e.2.toArray.toList) = rk e
      rw [List.toList_toArray, List.toList_toArray]
    refine ⟨a, encTb kvs, ks.map key2, fun k => rk (k.1.cps.toList, k.2.cps.toList), rfl, o1.bb _ _ ha, ?_, by rw [List.length_map]; exact hl, fun x hx y hy => ?_, fun l ps hn hperm hsort hz => ?_⟩
    · have e1 : (encTb kvs).map (·.1) = (kvs.map (·.1)).map fun k => k.map fun x => (Sum.inr (tx x) : Key) := by rw [List.map_map, List.map_map] <;> rfl
      rw [e1, hk, List.map_map, List.map_map] <;> rfl
    · obtain ⟨e, he, rfl⟩ := List.mem_map.mp hx
      obtain ⟨f, hf, rfl⟩ := List.mem_map.mp hy
      show _ = decide (rk ((key2 e).1.cps.toList, (key2 e).2.cps.toList) < rk ((key2 f).1.cps.toList, (key2 f).2.cps.toList))
      rw [lex_key, un e, un f]
      exact hr e he f hf
    · have eq : ps.map (·.2) = so.map key2 := by
        refine perm_one (fun k : Str × Str => rk (k.1.cps.toList, k.2.cps.toList)) _ _ (hperm.trans (hp.map key2).symm) hsort ?_ fun x hx y hy e => ?_
        · rw [List.pairwise_map]
          refine hs.imp fun {e f} h => ?_
          show rk ((key2 e).1.cps.toList, (key2 e).2.cps.toList) ≤ rk ((key2 f).1.cps.toList, (key2 f).2.cps.toList)
          rw [un e, un f]
          exact h
        · obtain ⟨e1, he, rfl⟩ := List.mem_map.mp (hperm.mem_iff.mp hx)
          obtain ⟨f1, hf, rfl⟩ := List.mem_map.mp (hperm.mem_iff.mp hy)
          have e : rk ((key2 e1).1.cps.toList, (key2 e1).2.cps.toList) = rk ((key2 f1).1.cps.toList, (key2 f1).2.cps.toList) := e
          rw [un e1, un f1] at e
          rw [hi e1 he f1 hf e]
      obtain ⟨B2, g2, o2, hB⟩ := o1.tups (ps.map fun z => (z.1, [V.str z.2.1, V.str z.2.2])) fun z hz' => by
        obtain ⟨y, hy, rfl⟩ := List.mem_map.mp hz'
        exact hz y hy
      have g3 := o2.gr hn (.lst (ps.map fun z => V.ref z.1))
      refine q _ _ as1 _ ((g1.trans g2).trans g3) p1 (o2.new hn _) ⟨l, _, rfl, .inl (.inl upd_same), ?_⟩
      have all : ∀ (ps : List (Addr × Str × Str)) (so : List P2), ps.map (·.2) = so.map key2 → (∀ z ∈ ps, B2 z.1 = some (.tup [V.str z.2.1, V.str z.2.2])) → RpL K B2 (so.map fun e => Dt.tup [.str e.1, .str e.2]) (ps.map fun z => V.ref z.1) := by
        intro ps
        induction ps with
        | nil =>
          intro so e _
          cases so with
          | nil => rfl
          | cons x xs => cases e
        | cons z ps ih =>
          intro so e hb
          cases so with
          | nil => cases e
          | cons x xs =>
            rw [List.map_cons, List.map_cons] at e
            injection e with e1 e2
            refine ⟨_, _, rfl, ⟨z.1, _, rfl, .inl (.inl (hb z List.mem_cons_self)), ?_⟩, ih xs e2 fun y hy => hb y (List.mem_cons_of_mem _ hy)⟩
            rw [e1]
            exact ⟨_, _, rfl, rfl, _, _, rfl, rfl, rfl⟩
      exact RpL.mono g3.1 _ _ (all ps so eq fun z hz' => hB (z.1, [V.str z.2.1, V.str z.2.2]) (List.mem_map.mpr ⟨z, hz', rfl⟩))
end
end DJ
namespace DJ
open PySem PySem.Spec PyProof.Rows L2
/-! ### two arguments by names, the last one first -/
abbrev gRev (us ws : List Value) : List Value := us ++ ws.reverse
abbrev gRevV (us ws : List V) : List V := us ++ ws.reverse
structure CalR2 (P : Program) (w : World) (K : PySem.W.Frag) (mg : Str → Option Value) (base : Heap) (k : Nat) (x : Str) (ks : List Str) (sp : Sp) : Prop where
  ex : ∃ (f : Addr) (fd : FuncData) (ps : List Str), FnOk P w K mg base CX0 k f fd ps sp ∧ mg x = some (.ref f) ∧ PySem.W.keepIn K (.ref f) = true ∧ KBinds K fd ps ks gRev gRevV
theorem vals_rev {vs : List V} {us : List Value} (r : Vals vs us) : Vals vs.reverse us.reverse := by
  induction r with
  | nil => exact .nil
  | @cons a b as bs h t ih =>
    rw [List.reverse_cons, List.reverse_cons]
    exact Vals.append ih (.cons h .nil)
section
variable {P : Program} {w : World} {K : PySem.W.Frag} {mg : Str → Option Value} {base : Heap}
theorem CalF.kw2 {k : Nat} {x y z : Str} {st : Stmt} {sp : Sp} (c : CalF P w K mg base k x st [y, z] sp)
    (h1 : ∀ (kV doc pm : Value) (an : Option Addr) (cdv ct u v : Value), bindArgs (PySem.W.fnOf x x (defArgs st) (defBody st) (defScope st) .none kV doc pm an cdv ct) ⟨[u], [(z, v)]⟩ = pure [(y, u), (z, v)])
    (h2 : ∀ (kV doc pm : Value) (an : Option Addr) (cdv ct u v : Value), bindArgs (PySem.W.fnOf x x (defArgs st) (defBody st) (defScope st) .none kV doc pm an cdv ct) ⟨[], [(z, v), (y, u)]⟩ = pure [(y, u), (z, v)]) : CalR2 P w K mg base k x [z, y] sp := by
  obtain ⟨f, fd, F, U, hm, b⟩ := c.ex
  refine ⟨f, fd, [y, z], F, hm, U.kp, ⟨fun s us ws hK hl => ?_, fun r1 r2 => Vals.append r1 (vals_rev r2)⟩⟩
  have hl : us.length + ws.length = 2 := by
    have : (us ++ ws.reverse).length = 2 := hl
    rw [List.length_append, List.length_reverse] at this
    exact this
  obtain ⟨oc, od, kV, doc, pm, an, cdv, ct, osl, e, lk, hcd⟩ := U.ex
  match us, ws, hl with
  | [u, v], [], _ => exact b s [u, v] hK rfl
  | [u], [v], _ => subst e; exact .of_eq (h1 kV doc pm an cdv ct u v)
  | [], [v, u], _ => subst e; exact .of_eq (h2 kV doc pm an cdv ct u v)
  | a :: b :: c :: d, _, hl => simp at hl; omega
  | a :: b :: [], _ :: _, hl => simp at hl
  | [_], _ :: _ :: _, hl => simp at hl; omega
  | [_], [], hl => simp at hl
  | [], [], hl => simp at hl
  | [], [_], hl => simp at hl
  | [], _ :: _ :: _ :: _, hl => simp at hl
end
section
variable {X : Cx} {k j : Nat} {x : Str} {ks : List Str} {sp : Sp} {p pos : Pos} {kws : List Keyword} {tk : TA}
theorem pe_cKr (c : CalR2 X.prog X.w X.K X.mg X.base k x ks sp) (hr : Room j X.A) (hk : k ≤ j) (hg : Gl X x) (hkw : PK X kws tk)
    (hall : (backToKw pos (keywordEach kws X.env)).all (·.1.isSome) = true := by rfl) (hks : (backToKw pos (keywordEach kws X.env)).filterMap (·.1) = ks := by rfl) (hdb : (x == ("__debug__" : Str)) = false := by decide)
    (hpl : ((backTo pos (starEach [] X.env)).any (·.1) || (backToKw pos (keywordEach kws X.env)).any (·.1.isNone)) = false := by rfl) : PE X (.Call (.Name x p) [] kws pos) (tCallK sp gRevV L2.E0 tNil tk) := by
  obtain ⟨f, fd, ps, F, hm, kp, hb⟩ := c.ex
  refine ⟨fun pins s σ H Q I h => ?_⟩
  refine wpAny_Call_Name_kw (ld_glob I hg hm ?_ hdb)
  refine PySem.W.callWith_KW0 (h₀ := X.base) I.ok.mod.kin kp hall (thn (hkw.run pos pins s σ H _ I h) fun ws s2 r2 => ?_) hpl
  obtain ⟨zs, H2, I2, rz, q2⟩ := r2
  refine ⟨I2.kIn, ?_⟩
  rw [hks]
  exact run_fnk (us := []) (vs := []) F (hr.mono hk) hb L2.pass0 I2 .nil rz q2
end
section
variable {K : PySem.W.Frag} {G : List (Option Sl)} {M M1 : List MO} {E : XK} {tk : TA} {a b z : Dt}
theorem ev_kwr {R : List Sl → List MO → Sl → List MO → Prop} (h : EvA K tk G M [.d b, .d a] M1) (hR : R [.d a, .d b] [] (.d z) []) : EvE K (tCallK (SpR K 2 R) gRevV E tNil tk) G M (.d z) M1 := fun F B as σ H ow sl Q q =>
  h F B as σ H ow sl _ fun vs B1 as1 H1 g1 p1 o1 r1 => by
    obtain ⟨v, r, e, h1, u, r', e', h2, e3⟩ := r1
    have e3 : r' = [] := e3
    subst e3; subst e'; subst e
    refine call_core (ds := [a, b]) (vs := [u, v]) hR rfl o1 ⟨u, _, rfl, h2, v, _, rfl, h1, rfl⟩ fun v B' as' H' g o' r' => ?_
    obtain ⟨g2, o2⟩ := back0 o1 g o'
    exact q v B' as1 H' (g1.trans g2) p1 o2 r'
end
theorem es_nxM {K : PySem.W.Frag} {G G1 : List (Option Sl)} {M M1 M2 : List MO} {t : TS} (h : EvS K t G M (.nx G1 M1)) (e : M1 = M2) : EvS K t G M (.nx G1 M2) := e ▸ h
end DJ
namespace DJ
open PySem PySem.Spec PyProof.Rows L2
/-! ### isinstance(x, str), of things of many kinds -/
/-- a dict without entries -/
def dic0 : Dt := .ext fun H v => ∃ a, v = .ref a ∧ H a = some (.dK [])
/-- what is looked at: texts, and things that are none -/
inductive Kd : Dt → Bool → Prop where
  | non : Kd .non false
  | bl (b : Bool) : Kd (.bl b) false
  | int (i : Int) : Kd (.int i) false
  | str (x : List Nat) : Kd (.str x) true
  | lst (xs : List Dt) : Kd (.lst xs) false
  | tup (xs : List Dt) : Kd (.tup xs) false
  | dic : Kd dic0 false
abbrev tyStr : Dt := .raw (.ty "str")
section
variable {K : PySem.W.Frag} {B : Hp} {d : Dt} {b : Bool}
theorem Kd.at (k : Kd d b) {F : Hp} {as : List Addr} {M : List MO} {H : Hp} {v : V} (ow : Ow K F B as M H) (r : Rp K B d v) : ∃ t : String, TyX K H v (.type t) ∧ kitB t "str" = some b := by
  cases k with
  | non =>
    have r : v = .non := r
    subst r
    exact ⟨"NoneType", .base .non, by decide +kernel⟩
  | bl x =>
    have r : v = .bl x := r
    subst r
    exact ⟨"bool", .base (.bl x), by decide +kernel⟩
  | int x =>
    have r : v = .int x := r
    subst r
    exact ⟨"int", .base (.int x), by decide +kernel⟩
  | str x =>
    have r : v = .str (tx x) := r
    subst r
    exact ⟨"str", .base (.str _), by decide +kernel⟩
  | lst xs =>
    obtain ⟨a, vs, rfl, h1, h2⟩ := r
    refine ⟨"list", ?_, by decide +kernel⟩
    rcases h1 with (h | ⟨o, h⟩) | ⟨o, its, n, h, hc, _⟩
    · exact .base (.lst (ow.bb _ _ h))
    · exact .base (.frz (ow.bb _ _ h))
    · exact .kList h hc
  | tup xs =>
    obtain ⟨a, vs, rfl, h1, h2⟩ := r
    refine ⟨"tuple", ?_, by decide +kernel⟩
    rcases h1 with (h | ⟨o, h⟩) | ⟨o, its, n, h, hc, _⟩
    · exact .base (.tup (ow.bb _ _ h))
    · exact .fTuple (ow.bb _ _ h)
    · exact .kTuple h hc
  | dic =>
    obtain ⟨a, rfl, h⟩ := r B (Same.refl B)
    exact ⟨"dict", .base (.dK (ow.bb _ _ h)), by decide +kernel⟩
theorem rc_isStr (k : Kd d b) : RC K (rIsi K) [d, tyStr] (.bl b) := fun F B as M H vs Q ow r q => by
  obtain ⟨v, r1, e1, h1, w, r2, e2, h2, e3⟩ := r
  have h2 : w = V.ty "str" := h2
  have e3 : r2 = [] := e3
  subst e3; subst e2; subst e1; subst h2
  obtain ⟨t, ht, hb⟩ := k.at ow h1
  exact ⟨v, _, _, _, b, rfl, .ty "str", ht, kit_ty hb, q _ B H (Gr.refl F B) ow rfl⟩
theorem ev_ty {G : List (Option Sl)} {M : List MO} {n : String} : EvE K (tC (.ty n)) G M (.d (.raw (.ty n))) M := fun F B as σ H ow sl Q q => q _ B as H (Gr.refl F B) (Px.refl as) ow rfl
theorem ev_dic0 {G : List (Option Sl)} {M : List MO} : EvE K tDNewK G M (.d dic0) M := fun F B as σ H ow sl Q q p hp =>
  q _ _ as _ (ow.gr hp _) (Px.refl as) (ow.new hp _) fun H' s => ⟨p, rfl, s _ _ upd_same⟩
end
end DJ
namespace DJ
open PySem PySem.Spec PyProof.Rows L2
/-! ### is, is not of truth values -/
theorem is_bools (a b : Bool) : compareOp .Is (.bool a) (.bool b) = pure (.bool (decide (a = b))) := by cases a <;> cases b <;> rfl
theorem isnot_bools (a b : Bool) : compareOp .IsNot (.bool a) (.bool b) = pure (.bool (!decide (a = b))) := by cases a <;> cases b <;> rfl
def rIsB (n : Bool) : R2 := fun x y H Q => ∃ a b, x = .bl a ∧ y = .bl b ∧ Q (.bl (if n = true then !decide (a = b) else decide (a = b))) H
section
variable {X : Cx}
theorem op_isB : OpR X (compareOp .Is) (rIsB false) := by
  intro pins s σ H x y v u Q I rx ry h
  obtain ⟨a, b, rfl, rfl, q⟩ := h
  cases rx
  cases ry
  exact wpAny_of_eq (is_bools a b) ⟨.bl (decide (a = b)), H, I, rfl, q⟩
theorem op_notB : OpR X (compareOp .IsNot) (rIsB true) := by
  intro pins s σ H x y v u Q I rx ry h
  obtain ⟨a, b, rfl, rfl, q⟩ := h
  cases rx
  cases ry
  exact wpAny_of_eq (isnot_bools a b) ⟨.bl (!decide (a = b)), H, I, rfl, q⟩
end
section
variable {K : PySem.W.Frag} {a b : Bool}
theorem ro_isB : RO K (rIsB false) (.bl a) (.bl b) (.bl (decide (a = b))) := fun F B as M H v u Q ow r1 r2 q => ⟨a, b, r1, r2, q _ B H (Gr.refl F B) ow rfl⟩
theorem ro_notB : RO K (rIsB true) (.bl a) (.bl b) (.bl (!decide (a = b))) := fun F B as M H v u Q ow r1 r2 q => ⟨a, b, r1, r2, q _ B H (Gr.refl F B) ow rfl⟩
end
/-! ### text * number -/
def rRepS : R2 := fun x y H Q => ∃ (l : List Nat) (n : Nat), x = .str (tx l) ∧ y = .int (n : Int) ∧ 2 ≤ n ∧ n ≤ 1000 ∧ l ≠ [] ∧ l.length ≤ 1000 ∧ Q (.str (tx (List.replicate n l).flatten)) H
theorem fold_rep (l : List Nat) : ∀ (n : Nat) (a : Array Nat), ((List.replicate n l.toArray).foldl (· ++ ·) a).toList = a.toList ++ (List.replicate n l).flatten
  | 0, a => by simp
  | n + 1, a => by
    rw [List.replicate_succ, List.replicate_succ, List.foldl_cons, fold_rep l n, List.flatten_cons, Array.toList_append, List.append_assoc]
theorem op_repS {X : Cx} : OpR X (binaryOp .Mult) rRepS := by
  intro pins s σ H x y v u Q I rx ry h
  obtain ⟨l, n, rfl, rfl, h1, h2, hne, hl, q⟩ := h
  obtain ⟨t, rfl⟩ := rx
  obtain ⟨t', rfl⟩ := ry
  have hp : 0 < l.length := List.length_pos_iff.mpr hne
  have hm : l.length * n ≤ 1000000 := Nat.le_trans (Nat.mul_le_mul hl h2) (by decide)
  have e1 : ((n : Int) == 1 || (tx l).length == 0) = false := by
    rw [tx_len]
    refine Bool.or_eq_false_iff.mpr ⟨beq_eq_false_iff_ne.mpr (by omega), beq_eq_false_iff_ne.mpr (by omega)⟩
  have er : (⟨(List.replicate (n : Int).toNat (tx l).cps).foldl (· ++ ·) #[]⟩ : Str) = tx (List.replicate n l).flatten := by
    rw [Int.toNat_natCast]
    show (⟨_⟩ : Str) = ⟨_⟩
    congr 1
    apply Array.toList_inj.mp
    rw [fold_rep] <;> simp
  refine P.mul_str (Bool.or_eq_false_iff.mpr ⟨decide_eq_false (by omega), decide_eq_false (by omega)⟩) (fun _ _ => ?_) (fun _ _ => ?_) ?_
  · rw [tx_len]
    rw [show (2 ^ 63 - 1 : Int) = 9223372036854775807 by decide]
    have : (9223372036854775807 : Int) / (n : Int) ≥ 1000 := by
      rw [ge_iff_le, Int.le_ediv_iff_mul_le (by omega)]
      omega
    omega
  · rw [tx_len, Int.toNat_natCast]
    unfold Builtin.Str.tooLong
    refine decide_eq_false ?_
    rw [sizeLine_eq]
    omega
  · rw [if_neg (by omega), if_neg (by rw [e1]; exact Bool.false_ne_true), er]
    refine ⟨?_, .str _, H, I.tok _, ⟨_, rfl⟩, q⟩
    have el : ∀ n : Nat, (List.replicate n l).flatten.length = l.length * n := fun n => by
      induction n with
      | zero => rfl
      | succ n ih => rw [List.replicate_succ, List.flatten_cons, List.length_append, ih, Nat.mul_succ, Nat.add_comm]
    rw [tx_len, el, sizeLine_eq]
    omega
theorem ro_repS {K : PySem.W.Frag} {l : List Nat} {n : Nat} (h1 : 2 ≤ n) (h2 : n ≤ 1000) (hne : l ≠ []) (hl : l.length ≤ 1000) : RO K rRepS (.str l) (.int (n : Int)) (.str (List.replicate n l).flatten) := fun F B as M H v u Q ow r1 r2 q => ⟨l, n, r1, r2, h1, h2, hne, hl, q _ B H (Gr.refl F B) ow rfl⟩
end DJ
namespace DJ
open PySem PySem.Spec PyProof.Rows L2
/-! ### == of plain data of any kind -/
mutual
def toP : Dt → PyData
  | .non => .none
  | .bl b => .bool b
  | .int i => .int i
  | .str x => .str (tx x)
  | .lst xs => .list (toPs xs)
  | .tup xs => .tuple (toPs xs)
  | .raw _ => .none
  | .ext _ => .none
def toPs : List Dt → List PyData
  | [] => []
  | d :: ds => toP d :: toPs ds
end
mutual
def plD : Dt → Bool
  | .non => true
  | .bl _ => true
  | .int _ => true
  | .str x => x.all (· < 128)
  | .lst xs => plDs xs
  | .tup xs => plDs xs
  | .raw _ => false
  | .ext _ => false
def plDs : List Dt → Bool
  | [] => true
  | d :: ds => plD d && plDs ds
end
mutual
def dpD : Dt → Nat
  | .lst xs => dpDs xs + 1
  | .tup xs => dpDs xs + 1
  | _ => 0
def dpDs : List Dt → Nat
  | [] => 0
  | d :: ds => max (dpD d) (dpDs ds)
end
section
variable {K : PySem.W.Frag} {H : Hp}
mutual
theorem dp_of : ∀ (d : Dt) (v : V), plD d = true → Rp K H d v → Dp K H v (toP d)
  | .non, v, _, h => by rw [show v = .non from h]; exact .non
  | .bl b, v, _, h => by rw [show v = .bl b from h]; exact .bl b
  | .int i, v, _, h => by rw [show v = .int i from h]; exact .int i
  | .str x, v, _, h => by rw [show v = .str (tx x) from h]; exact .str _
  | .lst xs, v, p, h => by
    obtain ⟨a, vs, rfl, h1, h2⟩ := h
    exact .lst h1 (dp_ofs xs vs p h2)
  | .tup xs, v, p, h => by
    obtain ⟨a, vs, rfl, h1, h2⟩ := h
    exact .tup h1 (dp_ofs xs vs p h2)
  | .raw _, _, p, _ => nomatch p
  | .ext _, _, p, _ => nomatch p
theorem dp_ofs : ∀ (ds : List Dt) (vs : List V), plDs ds = true → RpL K H ds vs → DpAll K H vs (toPs ds)
  | [], vs, _, h => by rw [show vs = [] from h]; exact .nil
  | d :: ds, vs, p, h => by
    obtain ⟨v, r, rfl, h1, h2⟩ := h
    have p : (plD d && plDs ds) = true := p
    rw [Bool.and_eq_true] at p
    exact .cons (dp_of d v p.1 h1) (dp_ofs ds r p.2 h2)
end
end
theorem strOk_asc {x : List Nat} (h : x.all (· < 128) = true) : (PyData.str (tx x)).canLay0 = true := by
  have := (lay_strs [x] (fun y hy c hc => by
    rw [List.mem_singleton] at hy
    subst hy
    exact of_decide_eq_true (List.all_eq_true.mp h c hc))).1
  simpa [PyData.canLayAll0] using this
mutual
theorem lay_of : ∀ d : Dt, plD d = true → (toP d).canLay0 = true ∧ (toP d).depth = dpD d
  | .non, _ => ⟨by simp [toP, PyData.canLay0], by simp [toP, PyData.depth, dpD]⟩
  | .bl b, _ => ⟨by simp [toP, PyData.canLay0], by simp [toP, PyData.depth, dpD]⟩
  | .int i, _ => ⟨by simp [toP, PyData.canLay0], by simp [toP, PyData.depth, dpD]⟩
  | .str x, p => ⟨strOk_asc p, by simp [toP, PyData.depth, dpD]⟩
  | .lst xs, p => by
    obtain ⟨h1, h2⟩ := lay_ofs xs p
    exact ⟨by simpa [toP, PyData.canLay0] using h1, by simp [toP, PyData.depth, dpD, h2]⟩
  | .tup xs, p => by
    obtain ⟨h1, h2⟩ := lay_ofs xs p
    exact ⟨by simpa [toP, PyData.canLay0] using h1, by simp [toP, PyData.depth, dpD, h2]⟩
  | .raw _, p => nomatch p
  | .ext _, p => nomatch p
theorem lay_ofs : ∀ ds : List Dt, plDs ds = true → PyData.canLayAll0 (toPs ds) = true ∧ PyData.depthAll (toPs ds) = dpDs ds
  | [], _ => ⟨by simp [toPs, PyData.canLayAll0], by simp [toPs, PyData.depthAll, dpDs]⟩
  | d :: ds, p => by
    have p : (plD d && plDs ds) = true := p
    rw [Bool.and_eq_true] at p
    obtain ⟨h1, h2⟩ := lay_of d p.1
    obtain ⟨h3, h4⟩ := lay_ofs ds p.2
    exact ⟨by simp [toPs, PyData.canLayAll0, h1, h3], by simp [toPs, PyData.depthAll, dpDs, h2, h4]⟩
end
theorem shp_of {d : Dt} (h : plD d = true) (hd : dpD d ≤ 64) : SeqAt.shaped (toP d) = true := by
  obtain ⟨h1, h2⟩ := lay_of d h
  unfold SeqAt.shaped
  rw [Bool.and_eq_true]
  exact ⟨h1, decide_eq_true (by rw [h2]; exact hd)⟩
def eqD (d e : Dt) : Bool := PyData.eqv (toP d) (toP e)
def eqDs (d e : List Dt) : Bool := PyData.eqvAll (toPs d) (toPs e)
mutual
theorem eqD_self : ∀ d : Dt, plD d = true → eqD d d = true
  | .non, _ => rfl
  | .bl b, _ => by simp [eqD, toP, PyData.eqv]
  | .int i, _ => by simp [eqD, toP, PyData.eqv]
  | .str x, _ => by
    show (tx x == tx x) = true
    rw [tx_beq, decide_eq_true rfl]
  | .lst xs, p => by
    have := eqDs_self xs p
    simpa [eqD, toP, PyData.eqv, eqDs] using this
  | .tup xs, p => by
    have := eqDs_self xs p
    simpa [eqD, toP, PyData.eqv, eqDs] using this
  | .raw _, p => nomatch p
  | .ext _, p => nomatch p
theorem eqDs_self : ∀ ds : List Dt, plDs ds = true → eqDs ds ds = true
  | [], _ => by simp [eqDs, toPs, PyData.eqvAll]
  | d :: ds, p => by
    have p : (plD d && plDs ds) = true := p
    rw [Bool.and_eq_true] at p
    have h1 := eqD_self d p.1
    have h2 := eqDs_self ds p.2
    unfold eqD at h1
    unfold eqDs at h2 ⊢
    simp [toPs, PyData.eqvAll, h1, h2]
end
section
variable {K : PySem.W.Frag} {d e : Dt}
theorem ro_eqDt (h1 : plD d = true) (h2 : plD e = true) (n1 : dpD d ≤ 64) (n2 : dpD e ≤ 64) : RO K (rEqD K) d e (.bl (eqD d e)) := fun F B as M H v u Q ow r1 r2 q =>
  ⟨_, _, dp_of d v h1 (Rp.mono ow.bb _ _ r1), dp_of e u h2 (Rp.mono ow.bb _ _ r2), shp_of h1 n1, shp_of h2 n2, q _ B H (Gr.refl F B) ow rfl⟩
theorem ro_neDt (h1 : plD d = true) (h2 : plD e = true) (n1 : dpD d ≤ 64) (n2 : dpD e ≤ 64) : RO K (rNeD K) d e (.bl (!eqD d e)) := fun F B as M H v u Q ow r1 r2 q =>
  ⟨_, _, dp_of d v h1 (Rp.mono ow.bb _ _ r1), dp_of e u h2 (Rp.mono ow.bb _ _ r2), shp_of h1 n1, shp_of h2 n2, q _ B H (Gr.refl F B) ow rfl⟩
theorem ro_eqSelf (h1 : plD d = true) (n1 : dpD d ≤ 64) : RO K (rEqD K) d d (.bl true) := by
  have := ro_eqDt (K := K) h1 h1 n1 n1
  rw [eqD_self d h1] at this
  exact this
theorem ro_neSelf (h1 : plD d = true) (n1 : dpD d ≤ 64) : RO K (rNeD K) d d (.bl false) := by
  have := ro_neDt (K := K) h1 h1 n1 n1
  rw [eqD_self d h1] at this
  exact this
end
/-! ### four arguments by names, the last one first -/
section
variable {P : Program} {w : World} {K : PySem.W.Frag} {mg : Str → Option Value} {base : Heap}
theorem CalF.kw4 {k : Nat} {x a b c d : Str} {st : Stmt} {sp : Sp} (cf : CalF P w K mg base k x st [a, b, c, d] sp)
    (h1 : ∀ (kV doc pm : Value) (an : Option Addr) (cdv ct u v y z : Value), bindArgs (PySem.W.fnOf x x (defArgs st) (defBody st) (defScope st) .none kV doc pm an cdv ct) ⟨[u, v, y], [(d, z)]⟩ = pure [(a, u), (b, v), (c, y), (d, z)])
    (h2 : ∀ (kV doc pm : Value) (an : Option Addr) (cdv ct u v y z : Value), bindArgs (PySem.W.fnOf x x (defArgs st) (defBody st) (defScope st) .none kV doc pm an cdv ct) ⟨[u, v], [(d, z), (c, y)]⟩ = pure [(a, u), (b, v), (c, y), (d, z)])
    (h3 : ∀ (kV doc pm : Value) (an : Option Addr) (cdv ct u v y z : Value), bindArgs (PySem.W.fnOf x x (defArgs st) (defBody st) (defScope st) .none kV doc pm an cdv ct) ⟨[u], [(d, z), (c, y), (b, v)]⟩ = pure [(a, u), (b, v), (c, y), (d, z)])
    (h4 : ∀ (kV doc pm : Value) (an : Option Addr) (cdv ct u v y z : Value), bindArgs (PySem.W.fnOf x x (defArgs st) (defBody st) (defScope st) .none kV doc pm an cdv ct) ⟨[], [(d, z), (c, y), (b, v), (a, u)]⟩ = pure [(a, u), (b, v), (c, y), (d, z)]) : CalR2 P w K mg base k x [d, c, b, a] sp := by
  obtain ⟨f, fd, F, U, hm, bb⟩ := cf.ex
  refine ⟨f, fd, [a, b, c, d], F, hm, U.kp, ⟨fun s us ws hK hl => ?_, fun r1 r2 => Vals.append r1 (vals_rev r2)⟩⟩
  have hl : us.length + ws.length = 4 := by
    have : (us ++ ws.reverse).length = 4 := hl
    rw [List.length_append, List.length_reverse] at this
    exact this
  obtain ⟨oc, od, kV, doc, pm, an, cdv, ct, osl, e, lk, hcd⟩ := U.ex
  rcases us with _ | ⟨u, _ | ⟨v, _ | ⟨y, _ | ⟨z, _ | ⟨o, us⟩⟩⟩⟩⟩
  · rcases ws with _ | ⟨z, _ | ⟨y, _ | ⟨v, _ | ⟨u, _ | ⟨o, ws⟩⟩⟩⟩⟩ <;> first | (exfalso; simp at hl; done) | (exfalso; simp at hl; omega) | skip
    · subst e; exact .of_eq (h4 kV doc pm an cdv ct u v y z)
  · rcases ws with _ | ⟨z, _ | ⟨y, _ | ⟨v, _ | ⟨o, ws⟩⟩⟩⟩ <;> first | (exfalso; simp at hl; done) | (exfalso; simp at hl; omega) | skip
    · subst e; exact .of_eq (h3 kV doc pm an cdv ct u v y z)
  · rcases ws with _ | ⟨z, _ | ⟨y, _ | ⟨o, ws⟩⟩⟩ <;> first | (exfalso; simp at hl; done) | (exfalso; simp at hl; omega) | skip
    · subst e; exact .of_eq (h2 kV doc pm an cdv ct u v y z)
  · rcases ws with _ | ⟨z, _ | ⟨o, ws⟩⟩ <;> first | (exfalso; simp at hl; done) | (exfalso; simp at hl; omega) | skip
    · subst e; exact .of_eq (h1 kV doc pm an cdv ct u v y z)
  · rcases ws with _ | ⟨o, ws⟩ <;> first | (exfalso; simp at hl; done) | (exfalso; simp at hl; omega) | skip
    · exact bb s [u, v, y, z] hK rfl
  · first | (simp at hl; done) | (simp at hl; omega)
end
section
variable {K : PySem.W.Frag} {G : List (Option Sl)} {M M1 : List MO} {E : XK} {tk : TA} {a b c d z : Dt}
theorem ev_kwr4 {R : List Sl → List MO → Sl → List MO → Prop} (h : EvA K tk G M [.d d, .d c, .d b, .d a] M1) (hR : R [.d a, .d b, .d c, .d d] [] (.d z) []) : EvE K (tCallK (SpR K 4 R) gRevV E tNil tk) G M (.d z) M1 := fun F B as σ H ow sl Q q =>
  h F B as σ H ow sl _ fun vs B1 as1 H1 g1 p1 o1 r1 => by
    obtain ⟨v1, r1, e1, h1, v2, r2, e2, h2, v3, r3, e3, h3, v4, r4, e4, h4, e5⟩ := r1
    have e5 : r4 = [] := e5
    subst e5; subst e4; subst e3; subst e2; subst e1
    refine call_core (ds := [a, b, c, d]) (vs := [v4, v3, v2, v1]) hR rfl o1 ⟨v4, _, rfl, h4, v3, _, rfl, h3, v2, _, rfl, h2, v1, _, rfl, h1, rfl⟩ fun v B' as' H' g o' r' => ?_
    obtain ⟨g2, o2⟩ := back0 o1 g o'
    exact q v B' as1 H' (g1.trans g2) p1 o2 r'
end
end DJ
namespace DJ
open PySem PySem.Spec PyProof.Rows L2
/-! ### enumerate(text) -/
def Itx (x : Str) : It := ⟨fun i _ => i < x.cps.size, fun i H v H' => ∃ T c, v = .ref T ∧ H T = none ∧ H' = upd H T (.tup [.int (i : Nat), .str ⟨#[c]⟩]) ∧ x.cps[i]? = some c, fun i _ => x.cps.size ≤ i⟩
section
variable {prog : Program} {w : World} {A : Around} {E : Value → Shared → Prop} {s : Shared}
theorem nextOf_text_end {it : Addr} {x : Str} {t : Tok} {i : Nat} {Q : Value → Shared → Prop} (hh : A.handled = none)
    (hit : s.heap.IsStrIter it (strIterType x) x t i) (hx : x.cps[i]? = none)
    (hE : ∀ h' e, Heap.ExtBut it s.heap h' → (∃ o, h'.get? e = some o ∧ o.cls = .type "StopIteration") → E (.ref e) { s with heap := h' }) :
    wpAny (model prog w) A (Builtin.SmallTypes.nextOf (.ref it)) Q E s := by
  cases ha : x.cps.all (· < 128) with
  | true =>
    have e : strIterType x = "str_ascii_iterator" := by simp [strIterType, ha]
    rw [e] at hit
    exact wpAny_nextOf_ascii_end hh hit hx hE
  | false =>
    have e : strIterType x = "str_iterator" := by simp [strIterType, ha]
    rw [e] at hit
    exact wpAny_nextOf_wide_end hh hit hx hE
theorem pyNext_enum_text_end {e it : Addr} {x : Str} {t : Tok} {i : Nat} {old : Value} {Q : Option Value → Shared → Prop} (hh : A.handled = none)
    (he : IsEnum s.heap e it ((i : Nat) : Int) old) (hit : s.heap.IsStrIter it (strIterType x) x t i) (hx : x.cps[i]? = none)
    (hQ : ∀ h', Heap.ExtBut it s.heap h' → Q none { s with heap := h' }) : wpAny (model prog w) A (pyNext (.ref e)) Q E s := by
  have hT : s.TypeIs (.ref e) "enumerate" := ⟨_, he, rfl⟩
  unfold pyNext
  refine wpAny_bind (wpAny_attempt (wpAny_callSpecial?_slot (name := Str.ofString "__next__") hT F.slot_enumerate_next
    (wpAny_call_entry F.slot_enumerate_next hT F.entry_enumerate_next ?_ (F.args_enumerate_next_1 _))))
  show wpAny _ _ (field (.ref e) 2 >>= _) _ _ _
  refine wpAny_bind (wpAny_field he rfl (x := .ref it) rfl ?_)
  refine wpAny_bind (nextOf_text_end (show A.in1.handled = none from hh) hit hx fun h' x he' hx' => ?_)
  obtain ⟨o, ho, hc⟩ := hx'
  refine wpAny_bind (wpAny_isInstance (T := "StopIteration") (b := true) ⟨o, ho, hc⟩ isSubtype_stop ?_)
  exact wpAny_pure (hQ _ he')
end
theorem turn_enumS {P : Program} {w : World} {K : PySem.W.Frag} {elts : List Expr} {kk : Nat} {tpos : Pos} (x : Str) (t : Tok) (e it : Addr) :
    Turn P w K (.Tuple elts kk tpos) (Itx x) [e, it] e (fun i h => (∃ old, IsEnum h e it ((i : Nat) : Int) old) ∧ h.IsStrIter it (strIterType x) x t i ∧ e ≠ it) where
  mem := by simp
  obj := fun i h st b hb => by
    obtain ⟨⟨old, he⟩, ⟨o, ho, hc, hd⟩, _⟩ := st
    have e' : b = e ∨ b = it := by simpa using hb
    rcases e' with z | z
    · rw [z]; exact ⟨_, he, fun v q => nomatch q⟩
    · rw [z]; exact ⟨o, ho, fun v q => by rw [hd] at q; cases q⟩
  keep := fun i h h' st k => let ⟨⟨old, he⟩, ⟨o, ho, r⟩, hne⟩ := st; ⟨⟨old, k e (by simp) _ he⟩, ⟨o, k it (by simp) o ho, r⟩, hne⟩
  item := by
    intro X hP hw hK hc i pins s σ H E I hf st hg
    subst hP hw hK
    obtain ⟨⟨old, he⟩, hit, hne⟩ := st
    have hlt : i < x.cps.size := hg
    have hel : e < s.heap.objs.size := Heap.lt_size he
    have hil : it < s.heap.objs.size := by obtain ⟨_, q, _⟩ := hit; exact Heap.lt_size q
    refine wpAny_pyNext_enum_itemD (PySem.Draws.text (show X.A.in1.handled = none from I.ok.hd hc) it x t) he hit hlt hne (by simp [hne]) fun v h' tk hv ho hit' hT hsz hk => ?_
    obtain ⟨c, u, hx, rfl⟩ := hv
    refine ⟨_, rfl, wpAny_letOwnedTupleGo_enum (s := { s with heap := h', toks := tk + 1 }) ho fun h'' he' sb => ?_⟩
    have hT2 : h''.get? s.heap.objs.size = some { cls := .type "tuple", data := .seq #[.int i tk, .str ⟨#[c]⟩ u] } := (sb.2 _ (Nat.ne_of_gt hel)).trans hT
    have new : ObjOk X.prog X.w (upd H s.heap.objs.size (.tup [.int (i : Nat), .str ⟨#[c]⟩])) h'' s.heap.objs.size (.tup [.int (i : Nat), .str ⟨#[c]⟩]) :=
      ⟨by show 2 ≤ sizeLine; decide, [.int i tk, .str ⟨#[c]⟩ u], .cons ⟨_, rfl⟩ (.cons ⟨_, rfl⟩ .nil), ⟨_, hT2, rfl, _, rfl⟩⟩
    have I1 : Inv X pins σ (upd H s.heap.objs.size (.tup [.int (i : Nat), .str ⟨#[c]⟩])) { s with heap := h'', toks := tk + 1 } :=
      I.turnedNew (ch := [e, it]) (fun b ob hb q => (sb.2 b (fun z => hb (by simp [z]))).trans (hk b ob (fun z => hb (by simp [z])) (fun z => hb (by simp [z])) q)) hf (Nat.le_refl _) new
    refine ⟨.ref s.heap.objs.size, _, I1, rfl, ⟨_, c, rfl, I.hok.fresh (Nat.le_refl _), rfl, hx⟩, ⟨⟨.str ⟨#[c]⟩ u, ?_⟩, ?_, hne⟩, fun b hb => ?_⟩
    · have e1 : ((i + 1 : Nat) : Int) = (i : Int) + 1 := by omega
      rw [e1]; exact he'
    · obtain ⟨o, ho2, r⟩ := hit'
      exact ⟨o, (sb.2 it (Ne.symm hne)).trans ho2, r⟩
    · have hb' : b < s.heap.objs.size := by
        have e' : b = e ∨ b = it := by simpa using hb
        rcases e' with z | z
        · rw [z]; exact hel
        · rw [z]; exact hil
      rw [upd_ne (Nat.ne_of_lt hb')]
      exact (hf b hb).1
  done := by
    intro X hP hw hK hc i pins s σ H E I hf st hg
    subst hP hw hK
    obtain ⟨⟨old, he⟩, hit, hne⟩ := st
    have hx : x.cps.size ≤ i := hg
    obtain ⟨f0, f1, f2, f3, f4, f5⟩ := hf it (by simp)
    exact pyNext_enum_text_end (I.ok.hd hc) he hit (by simp; omega) fun h' eb => ⟨rfl, I.turned (t' := s.toks) (fun b o hb q => eb b o hb q) f0 f1 f3 f4 f5⟩
  self := fun A i s Q E st h => let ⟨⟨_, he⟩, _⟩ := st; wpAny_pyIter_enum he h
def iEnumS (ta : TA) : TI := fun σ H R => ta σ H fun vs H1 => ∃ x, vs = [.str x] ∧ R (Itx x) H1
theorem pi_enumS {X : Cx} {e : Expr} {ta : TA} {p pos tpos : Pos} {elts : List Expr} {kk : Nat} (hg : Gl X "enumerate") (hm : X.mg "enumerate" = none) (ha : PA X [e] ta) (hs : starEach [e] X.env = [(false, eval e X.env)] := by rfl) :
    PI X (.Tuple elts kk tpos) (.Call (.Name "enumerate" p) [e] [] pos) (iEnumS ta) := by
  refine ⟨fun pins s σ H R I h => ?_⟩
  refine Call_ (ld_blt I hg hm boot_enumerate (PyProof.Rows.callWith_type1 (thn (ha.run pos pins s σ H _ I h) fun us s1 ⟨vs, H1, I1, r1, q1⟩ => ?_) hs rfl))
  obtain ⟨x, ex, q⟩ := q1
  subst ex
  obtain ⟨u, rfl, t, rfl⟩ := vals1 r1
  refine call_enumerate_str fun h' he hit hsz hk => wpAny_pyIter_enum he ?_
  have I2 : Inv X pins σ H1 { s1 with heap := h' } := I1.kept (t' := s1.toks) hk
  refine ⟨s1.heap.objs.size + 1, [s1.heap.objs.size + 1, s1.heap.objs.size], _, _, H1, rfl, I2, turn_enumS x t (s1.heap.objs.size + 1) s1.heap.objs.size, ⟨⟨.none, he⟩, hit, Nat.succ_ne_self _⟩, fun b hb => ?_, q⟩
  have e' : b = s1.heap.objs.size + 1 ∨ b = s1.heap.objs.size := by simpa using hb
  have hle : s1.heap.objs.size ≤ b := by
    rcases e' with z | z
    · rw [z]; exact Nat.le_add_right _ _
    · rw [z]; exact Nat.le_refl _
  exact I1.fpOk hle (I1.hok.fresh hle)
section
variable {K : PySem.W.Frag} {B : Hp} {G G1 : List (Option Sl)} {M M1 M2 M3 : List MO} {te ta tb : TE} {tr : TA} {i j : Int} {l m : List Nat} {b : Bool} {x z : Dt}
theorem yl_enumS {l : List Nat} : Yl K B (Itx (tx l)) (enumD 0 (l.map fun c => .str [c])) := fun F B' as M H i e ow => by
  refine ⟨fun x hx => ?_, fun hi => ?_⟩
  · rw [enumD_get, List.getElem?_map] at hx
    cases hc : l[i]? with
    | none => rw [hc] at hx; cases hx
    | some c =>
      rw [hc] at hx
      have hx : Dt.tup [.int ((0 + i : Nat) : Nat), .str [c]] = x := Option.some.inj hx
      subst hx
      refine ⟨?_, fun v H' y => ?_⟩
      · show i < l.toArray.size
        rw [List.size_toArray]
        exact (List.getElem?_eq_some_iff.mp hc).1
      · obtain ⟨T, c', rfl, hT, rfl, h1⟩ := y
        have h2 : l[i]? = some c' := by
          rw [show (tx l).cps = l.toArray from rfl, List.getElem?_toArray] at h1
          exact h1
        rw [hc] at h2
        cases h2
        have hg := ow.gr hT (.tup [.int (i : Nat), .str ⟨#[c]⟩])
        refine ⟨_, hg, ow.new hT _, T, _, rfl, .inl (.inl upd_same), _, _, rfl, ?_, _, _, rfl, rfl, rfl⟩
        rw [Nat.zero_add]
        rfl
  · show l.toArray.size ≤ i
    rw [List.size_toArray]
    rw [enumD_len, List.length_map] at hi
    exact hi
theorem ei_enumS (h : EvA K tr G M [.d (.str l)] M1) : EvI K (iEnumS tr) G M (enumD 0 (l.map fun c => .str [c])) M1 := fun F B as σ H ow sl R q =>
  h F B as σ H ow sl _ fun vs B' as' H' g p o' r => ⟨tx l, two_str (SlL.data (ds := [.str l]) r), q _ B' as' H' g p o' yl_enumS⟩
/-! ### slices of lists -/
theorem ev_slL {tl th : TO} {lo hi : Option Int} {xs : List Dt} (h : EvE K te G M (.d (.lst xs)) M1) (h1 : EvO K tl G M1 lo M2) (h2 : EvO K th G M2 hi M3) : EvE K (tSl (rSlL K) te tl th) G M (.d (lstX K (cutL xs lo hi))) M3 := fun F B as σ H ow sl Q q =>
  h F B as σ H ow sl _ fun v B1 as1 H1 g1 p1 o1 r1 => h1 F B1 as1 σ H1 o1 (sl.mono g1.1 p1) _ fun B2 as2 H2 g2 p2 o2 => h2 F B2 as2 σ H2 o2 ((sl.mono g1.1 p1).mono g2.1 p2) _ fun B3 as3 H3 g3 p3 o3 => by
    obtain ⟨a, vs, e, h3, h4⟩ := r1
    refine ⟨a, vs, e, o3.bb.seq (g3.1.seq (g2.1.seq h3)), fun p hp => ?_⟩
    have g4 := o3.gr hp (.lst (L2.cutV vs lo hi))
    refine q _ _ as3 _ (g1.trans (g2.trans (g3.trans g4))) (p1.trans (p2.trans p3)) (o3.new hp _) fun H' s => ⟨p, _, rfl, s _ _ upd_same, ?_⟩
    have r := RpL.mono (g2.1.trans (g3.1.trans (g4.1.trans s))) _ _ h4
    unfold L2.cutV cutL
    rw [h4.len]
    exact RpL.take _ (RpL.drop _ r)
/-! ### xs.extend(ys) -/
theorem es_extO {to : TE} {k : Nat} {xs ys : List Dt} (ho : EvE K to G M (.o k) M1) (h : EvE K te G M1 (.d (lstX K ys)) M2) (hk : ∃ zs, M1[k]? = some (.lst zs)) (hm : M2[k]? = some (.lst xs)) (hz : xs.length + ys.length < 1000000) :
    EvS K (tDrop (tBM K "list" rExtend to (tCons te tNil))) G M (.nx G (M2.set k (.lst (xs ++ ys)))) := fun F B as σ H ow sl D gd =>
  ho F B as σ H ow sl _ fun w B1 as1 H1 g1 p1 o1 r1 => by
    obtain ⟨a, ha, rfl⟩ := r1
    obtain ⟨zs, hy⟩ := hk
    obtain ⟨_, _, vs1, hv1, _⟩ := o1.own k a _ ha hy (fun z => nomatch z)
    refine ⟨.inl ⟨rfl, vs1, .inl (.inl hv1)⟩, h F B1 as1 σ H1 o1 (sl.mono g1.1 p1) _ fun v B2 as2 H2 g2 p2 o2 r2 => ?_⟩
    obtain ⟨b, us, rfl, hb, hu⟩ := r2 B2 (Same.refl _)
    have ha := p2.get ha
    obtain ⟨_, _, vs, hv, hr⟩ := o2.own k a _ ha hm (fun z => nomatch z)
    refine ⟨a, b, vs, us, rfl, rfl, hv, o2.bb _ _ hb, by rw [hr.len, hu.len]; exact Nat.le_trans (Nat.le_of_lt hz) (by decide), gd B2 as2 σ _ (g1.trans g2) (p1.trans p2) (o2.put ha hm (fun z => nomatch z) ⟨_, upd_same, RpL.append hr hu⟩) ((sl.mono g1.1 p1).mono g2.1 p2)⟩
/-! ### repr of truth values -/
def rReprB : List V → Hp → VK → Prop := fun xs H Q => ∃ b, xs = [.bl b] ∧ Q (.str (if b = true then "True" else "False")) H
theorem call_repr_bool {X : Cx} : CallR X (.builtin "repr") rReprB := by
  intro pins s σ H xs us Q I r h
  obtain ⟨b, rfl, q⟩ := h
  obtain ⟨u, rfl, ru⟩ := vals1 r
  cases ru
  cases b with
  | true => exact PySem.P.repr_of_bool ⟨.str _, H, I.tok _, ⟨_, rfl⟩, q⟩
  | false => exact PySem.P.repr_of_bool ⟨.str _, H, I.tok _, ⟨_, rfl⟩, q⟩
abbrev boolL (b : Bool) : List Nat := if b = true then [84, 114, 117, 101] else [70, 97, 108, 115, 101]
theorem rc_reprB : RC K rReprB [.bl b] (.str (boolL b)) := fun F B as M H vs Q ow r q => by
  obtain ⟨v, r1, e, h1, h2⟩ := r
  have h1 : v = V.bl b := h1
  have h2 : r1 = [] := h2
  subst h2; subst h1; subst e
  refine ⟨b, rfl, q _ B H (Gr.refl F B) ow ?_⟩
  cases b <;> rfl
theorem boolL_inj (a b : Bool) : decide (boolL a = boolL b) = decide (a = b) := by cases a <;> cases b <;> rfl
/-! ### split -/
abbrev splL (m l : List Nat) : List (List Nat) := TL.spl m 0 [] l
theorem RpL.strsX {H : Hp} (xs : List (List Nat)) : RpL K H (xs.map Dt.str) ((xs.map tx).map V.str) := RpL.strs_of xs
theorem rm_split (h : l.length ≤ 1000000) (hm : m ≠ []) (hk : m.all (· < 256) = true) : RM K (fun x xs H Q => ∃ a b, x = .str a ∧ xs = [.str b] ∧ (b.length == 0) = false ∧ a.length + 2 ≤ sizeLine ∧ rNewStrs (Txt.split a b) H Q) (.str l) [.str m] (lstX K ((splL m l).map Dt.str)) := fun F B as M H v vs Q ow r1 r2 q =>
  ⟨tx l, tx m, r1, two_str r2, by rw [tx_len]; exact beq_eq_false_iff_ne.mpr (fun e => hm (List.length_eq_zero_iff.mp e)), by rw [tx_len]; exact Nat.le_trans (Nat.add_le_add_right h 2) (by decide), fun p hp => by
    refine q _ _ _ (ow.gr hp _) (ow.new hp _) fun H' s => ⟨p, _, rfl, s _ _ upd_same, ?_⟩
    rw [show Txt.split (tx l) (tx m) = (splL m l).map tx from SX.split_S hm hk]
    exact RpL.strs_of _⟩
/-! ### in, not in of lists of texts, of truth values -/
theorem ro_inL {xs : List (List Nat)} : RO K (rIn K false) (.str l) (.lst (xs.map Dt.str)) (.bl (decide (l ∈ xs))) := fun F B as M H v u Q ow r1 r2 q => by
  obtain ⟨a, vs, e, h1, h2⟩ := r2
  have e2 := h2.strs
  subst e2; subst e
  have r1 : v = .str (tx l) := r1
  subst r1
  refine ⟨a, _, rfl, .inl (ow.bb.seq h1), rfl, flat_strs xs, q _ B H (Gr.refl F B) ow ?_⟩
  show V.bl (inV _ _) = _
  rw [inV_strs]
theorem ro_ninL {xs : List (List Nat)} : RO K (rIn K true) (.str l) (.lst (xs.map Dt.str)) (.bl (!decide (l ∈ xs))) := fun F B as M H v u Q ow r1 r2 q => by
  obtain ⟨a, vs, e, h1, h2⟩ := r2
  have e2 := h2.strs
  subst e2; subst e
  have r1 : v = .str (tx l) := r1
  subst r1
  refine ⟨a, _, rfl, .inl (ow.bb.seq h1), rfl, flat_strs xs, q _ B H (Gr.refl F B) ow ?_⟩
  show V.bl (!inV _ _) = _
  rw [inV_strs]
theorem flat_bls : ∀ xs : List Bool, (xs.map V.bl).all flatV = true
  | [] => rfl
  | x :: xs => by rw [List.map_cons, List.all_cons, flat_bls xs] <;> rfl
theorem inV_bls (b : Bool) : ∀ xs : List Bool, inV (.bl b) (xs.map V.bl) = decide (b ∈ xs)
  | [] => rfl
  | x :: xs => by
    show (eqV (.bl x) (.bl b) || inV (.bl b) (xs.map V.bl)) = _
    rw [inV_bls b xs]
    cases x <;> cases b <;> simp [eqV]
theorem ro_ninB {xs : List Bool} : RO K (rIn K true) (.bl b) (.lst (xs.map Dt.bl)) (.bl (!decide (b ∈ xs))) := fun F B as M H v u Q ow r1 r2 q => by
  obtain ⟨a, vs, e, h1, h2⟩ := r2
  have e2 := h2.bls
  subst e2; subst e
  have r1 : v = .bl b := r1
  subst r1
  refine ⟨a, _, rfl, .inl (ow.bb.seq h1), rfl, flat_bls xs, q _ B H (Gr.refl F B) ow ?_⟩
  show V.bl (!inV _ _) = _
  rw [inV_bls]
end
/-! ### dicts with text keys, values any data -/
abbrev Dk := List (List Nat × Dt)
def RpK (K : PySem.W.Frag) (H : Hp) : Dk → List (Key × V) → Prop
  | [], ks => ks = []
  | d :: ds, ks => ∃ v r, ks = (Sum.inr (tx d.1), v) :: r ∧ Rp K H d.2 v ∧ RpK K H ds r
def putD (ds : Dk) (k : List Nat) (x : Dt) : Dk := if (ds.any fun d => decide (d.1 = k)) = true then ds.map (fun d => if d.1 = k then (d.1, x) else d) else ds ++ [(k, x)]
def getD' (ds : Dk) (k : List Nat) : Option Dt := (ds.find? fun d => decide (d.1 = k)).map (·.2)
section
variable {K : PySem.W.Frag} {B H : Hp}
theorem RpK.mono {H' : Hp} (e : Same H H') : ∀ {ds : Dk} {ks : List (Key × V)}, RpK K H ds ks → RpK K H' ds ks
  | [], _, h => h
  | d :: ds, _, ⟨v, r, e1, h1, h2⟩ => ⟨v, r, e1, Rp.mono e _ _ h1, RpK.mono e h2⟩
theorem RpK.len : ∀ {ds : Dk} {ks : List (Key × V)}, RpK K H ds ks → ks.length = ds.length
  | [], _, h => by rw [show _ = [] from h]; rfl
  | d :: ds, _, ⟨v, r, e, _, h⟩ => by rw [e, List.length_cons, List.length_cons, RpK.len h]
theorem keyd (a b : List Nat) : decide ((Sum.inr (tx a) : Key) = Sum.inr (tx b)) = decide (a = b) := by
  by_cases h : a = b
  · subst h; rw [decide_eq_true rfl, decide_eq_true rfl]
  · rw [decide_eq_false h, decide_eq_false fun e => h (tx_inj (Sum.inr.inj e))]
theorem RpK.any {k : List Nat} : ∀ {ds : Dk} {ks : List (Key × V)}, RpK K H ds ks → (ks.any fun kv => decide (kv.1 = Sum.inr (tx k))) = ds.any fun d => decide (d.1 = k)
  | [], _, h => by rw [show _ = [] from h]; rfl
  | d :: ds, _, ⟨v, r, e, _, h⟩ => by
    subst e
    rw [List.any_cons, List.any_cons, RpK.any h]
    congr 1
    exact keyd d.1 k
theorem RpK.app {k : List Nat} {x : Dt} {u : V} (hx : Rp K H x u) : ∀ {ds : Dk} {ks : List (Key × V)}, RpK K H ds ks → RpK K H (ds ++ [(k, x)]) (ks ++ [(Sum.inr (tx k), u)])
  | [], _, h => by rw [show _ = [] from h]; exact ⟨u, [], rfl, hx, rfl⟩
  | d :: ds, _, ⟨v, r, e, h1, h⟩ => by subst e; exact ⟨v, _, rfl, h1, RpK.app hx h⟩
theorem RpK.mp {k : List Nat} {x : Dt} {u : V} (hx : Rp K H x u) : ∀ {ds : Dk} {ks : List (Key × V)}, RpK K H ds ks → RpK K H (ds.map fun d => if d.1 = k then (d.1, x) else d) (ks.map fun kv => if kv.1 = Sum.inr (tx k) then (kv.1, u) else kv)
  | [], _, h => by rw [show _ = [] from h]; rfl
  | d :: ds, _, ⟨v, r, e, h1, h⟩ => by
    subst e
    by_cases z : d.1 = k
    · refine ⟨u, _, ?_, ?_, RpK.mp hx h⟩
      · show (if (Sum.inr (tx d.1) : Key) = Sum.inr (tx k) then _ else _) :: _ = (Sum.inr (tx (if d.1 = k then (d.1, x) else d).1), u) :: _
        rw [if_pos z, if_pos (by rw [z])]
      · show Rp K H (if d.1 = k then (d.1, x) else d).2 u
        rw [if_pos z]; exact hx
    · have z2 : ¬ (Sum.inr (tx d.1) : Key) = Sum.inr (tx k) := fun e => z (tx_inj (Sum.inr.inj e))
      refine ⟨v, _, ?_, ?_, RpK.mp hx h⟩
      · show (if (Sum.inr (tx d.1) : Key) = Sum.inr (tx k) then _ else _) :: _ = (Sum.inr (tx (if d.1 = k then (d.1, x) else d).1), v) :: _
        rw [if_neg z, if_neg z2]
      · show Rp K H (if d.1 = k then (d.1, x) else d).2 v
        rw [if_neg z]; exact h1
theorem RpK.put {k : List Nat} {x : Dt} {u : V} (hx : Rp K H x u) {ds : Dk} {ks : List (Key × V)} (h : RpK K H ds ks) : RpK K H (putD ds k x) (putK ks (Sum.inr (tx k)) u) := by
  unfold putD putK
  rw [RpK.any h]
  split
  · exact RpK.mp hx h
  · exact RpK.app hx h
theorem RpK.get {k : List Nat} {x : Dt} : ∀ {ds : Dk} {ks : List (Key × V)}, RpK K H ds ks → getD' ds k = some x → ∃ v, valV ks (Sum.inr (tx k)) = some v ∧ Rp K H x v
  | [], _, _, e => by cases e
  | d :: ds, _, ⟨v, r, e, h1, h⟩, g => by
    subst e
    by_cases z : d.1 = k
    · have e1 : getD' (d :: ds) k = some d.2 := by
        unfold getD'
        rw [List.find?_cons_of_pos (by exact decide_eq_true z)] <;> rfl
      rw [e1] at g
      cases g
      exact ⟨v, valV_pos (by rw [z]), h1⟩
    · have e1 : getD' (d :: ds) k = getD' ds k := by
        unfold getD'
        rw [List.find?_cons_of_neg (by rw [decide_eq_true_eq]; exact z)]
      rw [e1] at g
      obtain ⟨v', h2, h3⟩ := RpK.get h g
      exact ⟨v', (valV_neg fun e => z (tx_inj (Sum.inr.inj e))).trans h2, h3⟩
end
def dkO (K : PySem.W.Frag) (ds : Dk) : MO := .box fun B o => ∃ ks, o = .dK ks ∧ RpK K B ds ks
def dkD (K : PySem.W.Frag) (ds : Dk) : Dt := .ext fun H v => ∃ a ks, v = .ref a ∧ H a = some (.dK ks) ∧ RpK K H ds ks
section
variable {K : PySem.W.Frag} {F B H : Hp} {as : List Addr} {G G1 : List (Option Sl)} {M M1 M2 M3 : List MO} {te td ty : TE} {x : Dt}
theorem mor_dk {ds : Dk} {a : Addr} {ks : List (Key × V)} (e : H a = some (.dK ks)) (r : RpK K B ds ks) : MoR K B H a (dkO K ds) := ⟨_, e, fun _ z => (nomatch z), fun B' s => ⟨ks, rfl, RpK.mono s r⟩⟩
theorem ev_dnewK : EvE K tDNewK G M (.o M.length) (M ++ [dkO K []]) := fun F B as σ H ow sl Q q p hp => by
  refine q _ B (as ++ [p]) _ (Gr.refl F B) ⟨[p], rfl⟩ (ow.newO hp (mor_dk upd_same rfl)) ⟨p, ?_, rfl⟩
  rw [← ow.len, List.getElem?_append_right (Nat.le_refl _), Nat.sub_self] <;> rfl
theorem es_putK {k : Nat} {ds : Dk} {kk : List Nat} (hv : EvE K te G M (.d x) M1) (hd : EvE K td G M1 (.o k) M2) (hk : EvE K ty G M2 (.d (.str kk)) M3) (hm : M3[k]? = some (dkO K ds)) (hl : ds.length < 100000) :
    EvS K (sDPut td ty te) G M (.nx G (M3.set k (dkO K (putD ds kk x)))) := fun F B as σ H ow sl D gd =>
  hv F B as σ H ow sl _ fun w B1 as1 H1 g1 p1 o1 r1 => hd F B1 as1 σ H1 o1 (sl.mono g1.1 p1) _ fun y B2 as2 H2 g2 p2 o2 r2 => hk F B2 as2 σ H2 o2 ((sl.mono g1.1 p1).mono g2.1 p2) _ fun z B3 as3 H3 g3 p3 o3 r3 => by
    obtain ⟨a, ha, rfl⟩ := r2
    have r3 : z = .str (tx kk) := r3
    subst r3
    have ha3 : as3[k]? = some a := p3.get ha
    obtain ⟨f0, b0, o, hH, _, hb⟩ := o3.own k a _ ha3 hm (fun z => nomatch z)
    obtain ⟨ks, rfl, hr⟩ := hb B3 (Same.refl _)
    refine ⟨a, _, rfl, .inl ⟨ks, Sum.inr (tx kk), hH, rfl, by rw [hr.len, sizeLine_eq]; omega, rfl⟩, ?_⟩
    exact gd B3 as3 σ _ ((g1.trans g2).trans g3) ((p1.trans p2).trans p3) (o3.put ha3 hm (fun z => nomatch z) (mor_dk upd_same (RpK.put (Rp.mono (g2.1.trans g3.1) _ _ r1) hr))) (((sl.mono g1.1 p1).mono g2.1 p2).mono g3.1 p3)
theorem ev_atKO {k : Nat} {ds : Dk} {kk : List Nat} (hd : EvE K td G M (.o k) M1) (hk : EvE K ty G M1 (.d (.str kk)) M2) (hm : M2[k]? = some (dkO K ds)) (hz : getD' ds kk = some x) : EvE K (tDGet td ty) G M (.d x) M2 := fun F B as σ H ow sl Q q =>
  hd F B as σ H ow sl _ fun v B1 as1 H1 g1 p1 o1 r1 => hk F B1 as1 σ H1 o1 (sl.mono g1.1 p1) _ fun z B2 as2 H2 g2 p2 o2 r2 => by
    obtain ⟨a, ha, rfl⟩ := r1
    have r2 : z = .str (tx kk) := r2
    subst r2
    obtain ⟨f0, b0, o, hH, _, hb⟩ := o2.own k a _ (p2.get ha) hm (fun z => nomatch z)
    obtain ⟨ks, rfl, hr⟩ := hb B2 (Same.refl _)
    obtain ⟨v, h1, h2⟩ := RpK.get hr hz
    exact ⟨a, v, rfl, .inl ⟨ks, Sum.inr (tx kk), .inl hH, rfl, h1.symm⟩, q v B2 as2 H2 (g1.trans g2) (p1.trans p2) o2 h2⟩
theorem ev_atKD {ds : Dk} {kk : List Nat} (hd : EvE K td G M (.d (dkD K ds)) M1) (hk : EvE K ty G M1 (.d (.str kk)) M2) (hz : getD' ds kk = some x) : EvE K (tDGet td ty) G M (.d x) M2 := fun F B as σ H ow sl Q q =>
  hd F B as σ H ow sl _ fun v B1 as1 H1 g1 p1 o1 r1 => hk F B1 as1 σ H1 o1 (sl.mono g1.1 p1) _ fun z B2 as2 H2 g2 p2 o2 r2 => by
    obtain ⟨a, ks, rfl, ha, hr⟩ := r1 B2 g2.1
    have r2 : z = .str (tx kk) := r2
    subst r2
    obtain ⟨v, h1, h2⟩ := RpK.get hr hz
    exact ⟨a, v, rfl, .inl ⟨ks, Sum.inr (tx kk), .inl (o2.bb _ _ ha), rfl, h1.symm⟩, q v B2 as2 H2 (g1.trans g2) (p1.trans p2) o2 h2⟩
end
end DJ
namespace DJ
open PySem PySem.Spec PyProof.Rows L2
section
variable {K : PySem.W.Frag} {G : List (Option Sl)} {M M1 M2 M3 : List MO} {ta tb tc : TE} {x y z : Dt} {r r' : R2} {a b : Bool}
/-- a op b op c -/
theorem ev_chain (ha : EvE K ta G M (.d x) M1) (hb : EvE K tb G M1 (.d y) M2) (hr : RO K r x y (.bl a)) (hc : a = true → EvE K tc G M2 (.d z) M3) (hr' : a = true → RO K r' y z (.bl b)) (hf : a = false → M2 = M3) :
    EvE K (tChain r r' ta tb tc) G M (.d (.bl (a && b))) M3 := fun F B as σ H o sl Q q =>
  ha F B as σ H o sl _ fun v B1 as1 H1 g1 p1 o1 r1 => hb F B1 as1 σ H1 o1 (sl.mono g1.1 p1) _ fun u B2 as2 H2 g2 p2 o2 r2 =>
    hr F B2 as2 M2 H2 v u _ o2 (Rp.mono g2.1 _ _ r1) r2 fun w B3 H3 g3 o3 r3 => ⟨a, r3, by
      cases a with
      | true =>
        rw [if_pos rfl]
        exact hc rfl F B3 as2 σ H3 o3 (((sl.mono g1.1 p1).mono g2.1 p2).mono g3.1 (Px.refl as2)) _ fun w' B4 as4 H4 g4 p4 o4 r4 =>
          hr' rfl F B4 as4 M3 H4 u w' Q o4 (Rp.mono (g3.1.trans g4.1) _ _ r2) r4 fun w2 B5 H5 g5 o5 r5 => q w2 B5 as4 H5 (g1.trans (g2.trans (g3.trans (g4.trans g5)))) ((p1.trans p2).trans p4) o5 r5
      | false =>
        rw [if_neg Bool.false_ne_true]
        exact q _ B3 as2 H3 (g1.trans (g2.trans g3)) (p1.trans p2) (hf rfl ▸ o3) rfl⟩
theorem ro_eqBl : RO K rEq (.bl a) (.bl b) (.bl (decide (a = b))) := fun F B as M H v u Q ow r1 r2 q => by
  subst r1; subst r2
  exact ⟨rfl, q _ B H (Gr.refl F B) ow (by cases a <;> cases b <;> rfl)⟩
theorem ro_neBl : RO K rNe (.bl a) (.bl b) (.bl (!decide (a = b))) := fun F B as M H v u Q ow r1 r2 q => by
  subst r1; subst r2
  exact ⟨rfl, q _ B H (Gr.refl F B) ow (by cases a <;> cases b <;> rfl)⟩
end
/-- the signs of a text with their places -/
def plc : Nat → List Nat → List (Nat × Nat)
  | _, [] => []
  | n, c :: l => (n, c) :: plc (n + 1) l
abbrev plcD (p : Nat × Nat) : Dt := .tup [.int (p.1 : Nat), .str [p.2]]
theorem plc_enum : ∀ (l : List Nat) (n : Nat), enumD n (l.map fun c => .str [c]) = (plc n l).map plcD
  | [], _ => rfl
  | c :: l, n => by
    rw [List.map_cons, enumD, plc, List.map_cons, plc_enum l (n + 1)]
theorem plc_at : ∀ {l : List Nat} {n : Nat} {p : Nat × Nat}, p ∈ plc n l → ∃ i, p.1 = n + i ∧ l[i]? = some p.2
  | [], _, _, h => nomatch h
  | c :: l, n, p, h => by
    rcases List.mem_cons.mp h with e | h
    · subst e; exact ⟨0, rfl, rfl⟩
    · obtain ⟨i, h1, h2⟩ := plc_at h
      exact ⟨i + 1, by rw [h1]; omega, h2⟩
/-! ### three arguments by names, the last one first -/
section
variable {P : Program} {w : World} {K : PySem.W.Frag} {mg : Str → Option Value} {base : Heap}
theorem CalF.kw3 {k : Nat} {x a b c : Str} {st : Stmt} {sp : Sp} (cf : CalF P w K mg base k x st [a, b, c] sp)
    (h1 : ∀ (kV doc pm : Value) (an : Option Addr) (cdv ct u v y : Value), bindArgs (PySem.W.fnOf x x (defArgs st) (defBody st) (defScope st) .none kV doc pm an cdv ct) ⟨[u, v], [(c, y)]⟩ = pure [(a, u), (b, v), (c, y)])
    (h2 : ∀ (kV doc pm : Value) (an : Option Addr) (cdv ct u v y : Value), bindArgs (PySem.W.fnOf x x (defArgs st) (defBody st) (defScope st) .none kV doc pm an cdv ct) ⟨[u], [(c, y), (b, v)]⟩ = pure [(a, u), (b, v), (c, y)])
    (h3 : ∀ (kV doc pm : Value) (an : Option Addr) (cdv ct u v y : Value), bindArgs (PySem.W.fnOf x x (defArgs st) (defBody st) (defScope st) .none kV doc pm an cdv ct) ⟨[], [(c, y), (b, v), (a, u)]⟩ = pure [(a, u), (b, v), (c, y)]) : CalR2 P w K mg base k x [c, b, a] sp := by
  obtain ⟨f, fd, F, U, hm, bb⟩ := cf.ex
  refine ⟨f, fd, [a, b, c], F, hm, U.kp, ⟨fun s us ws hK hl => ?_, fun r1 r2 => Vals.append r1 (vals_rev r2)⟩⟩
  have hl : us.length + ws.length = 3 := by
    have : (us ++ ws.reverse).length = 3 := hl
    rw [List.length_append, List.length_reverse] at this
    exact this
  obtain ⟨oc, od, kV, doc, pm, an, cdv, ct, osl, e, lk, hcd⟩ := U.ex
  rcases us with _ | ⟨u, _ | ⟨v, _ | ⟨y, _ | ⟨o, us⟩⟩⟩⟩
  · rcases ws with _ | ⟨y, _ | ⟨v, _ | ⟨u, _ | ⟨o, ws⟩⟩⟩⟩ <;> first | (exfalso; simp at hl; done) | (exfalso; simp at hl; omega) | skip
    · subst e; exact .of_eq (h3 kV doc pm an cdv ct u v y)
  · rcases ws with _ | ⟨y, _ | ⟨v, _ | ⟨o, ws⟩⟩⟩ <;> first | (exfalso; simp at hl; done) | (exfalso; simp at hl; omega) | skip
    · subst e; exact .of_eq (h2 kV doc pm an cdv ct u v y)
  · rcases ws with _ | ⟨y, _ | ⟨o, ws⟩⟩ <;> first | (exfalso; simp at hl; done) | (exfalso; simp at hl; omega) | skip
    · subst e; exact .of_eq (h1 kV doc pm an cdv ct u v y)
  · rcases ws with _ | ⟨o, ws⟩ <;> first | (exfalso; simp at hl; done) | (exfalso; simp at hl; omega) | skip
    · exact bb s [u, v, y] hK rfl
  · exfalso
    first | (simp at hl; done) | (simp at hl; omega)
end
section
variable {K : PySem.W.Frag} {G : List (Option Sl)} {M M1 : List MO} {E : XK} {tk : TA} {a b c z : Dt}
theorem ev_kwr3 {R : List Sl → List MO → Sl → List MO → Prop} (h : EvA K tk G M [.d c, .d b, .d a] M1) (hR : R [.d a, .d b, .d c] [] (.d z) []) : EvE K (tCallK (SpR K 3 R) gRevV E tNil tk) G M (.d z) M1 := fun F B as σ H ow sl Q q =>
  h F B as σ H ow sl _ fun vs B1 as1 H1 g1 p1 o1 r1 => by
    obtain ⟨v1, r1, e1, h1, v2, r2, e2, h2, v3, r3, e3, h3, e5⟩ := r1
    have e5 : r3 = [] := e5
    subst e5; subst e3; subst e2; subst e1
    refine call_core (ds := [a, b, c]) (vs := [v3, v2, v1]) hR rfl o1 ⟨v3, _, rfl, h3, v2, _, rfl, h2, v1, _, rfl, h1, rfl⟩ fun v B' as' H' g o' r' => ?_
    obtain ⟨g2, o2⟩ := back0 o1 g o'
    exact q v B' as1 H' (g1.trans g2) p1 o2 r'
end
end DJ
namespace DJ
open PySem PySem.Spec PyProof.Rows L2
section
variable {K : PySem.W.Frag} {G G1 : List (Option Sl)} {M M' X : List MO} {t : TS}
/-- what was made for a turn is let go, what is owned stays -/
theorem es_nxU (h : EvS K t G M (.nx G1 (M' ++ X))) (hl : M.length = M'.length) (hg : ∀ k, some (Sl.o k) ∈ G1 → k < M'.length) : EvS K t G M (.nx G1 M') := fun F B as σ H ow sl D gd =>
  h F B as σ H ow sl D fun B' as' σ' H' g p o' s' => by
    obtain ⟨tl, rfl⟩ := p
    refine gd B' as σ' H' g (Px.refl as) ⟨o'.fb, o'.bb, ow.len.trans hl, ow.nd, fun a ha => o'.al a (List.mem_append_left _ ha), fun a ha => o'.fa a (List.mem_append_left _ ha), fun k a m e1 e2 hm => ?_⟩ ⟨s'.1, fun i s e => ?_⟩
    · refine o'.own k a m ?_ ?_ hm
      · rw [List.getElem?_append_left (List.getElem?_eq_some_iff.mp e1).1]
        exact e1
      · rw [List.getElem?_append_left (List.getElem?_eq_some_iff.mp e2).1]
        exact e2
    · obtain ⟨v, e1, r⟩ := s'.2 i s e
      refine ⟨v, e1, ?_⟩
      cases s with
      | d x => exact r
      | o k =>
        obtain ⟨a, ha, rfl⟩ := r
        have hk := hg k (List.mem_of_getElem? e)
        rw [List.getElem?_append_left (by rw [ow.len, hl]; exact hk)] at ha
        exact ⟨a, ha, rfl⟩
end
theorem get_putD (ds : Dk) (k : List Nat) (x : Dt) : getD' (putD ds k x) k = some x := by
  unfold getD' putD
  split
  · rename_i h
    induction ds with
    | nil => cases h
    | cons d ds ih =>
      by_cases z : d.1 = k
      · rw [List.map_cons, List.find?_cons_of_pos (by rw [if_pos z]; exact decide_eq_true z), if_pos z] <;> rfl
      · rw [List.any_cons, decide_eq_false z, Bool.false_or] at h
        rw [List.map_cons, List.find?_cons_of_neg (by rw [if_neg z, decide_eq_true_eq]; exact z)]
        exact ih h
  · rename_i h
    induction ds with
    | nil => rw [List.nil_append, List.find?_cons_of_pos (by exact decide_eq_true rfl)] <;> rfl
    | cons d ds ih =>
      rw [List.any_cons] at h
      have z : ¬ d.1 = k := fun e => h (by rw [decide_eq_true e] <;> rfl)
      rw [List.cons_append, List.find?_cons_of_neg (by rw [decide_eq_true_eq]; exact z)]
      exact ih (fun e => h (by rw [e, Bool.or_true]))
theorem map_take {α β : Type} (f : α → β) (l : List α) (n : Nat) : (l.map f).take n = (l.take n).map f := (List.map_take).symm
end DJ
namespace DJ
open PySem PySem.Spec PyProof.Rows L2
/-! ### text * number, any number -/
theorem rep_len (l : List Nat) : ∀ n : Nat, (List.replicate n l).flatten.length = l.length * n
  | 0 => rfl
  | n + 1 => by rw [List.replicate_succ, List.flatten_cons, List.length_append, rep_len l n, Nat.mul_succ, Nat.add_comm]
def rRepN : R2 := fun x y H Q => ∃ (l : List Nat) (n : Int), x = .str (tx l) ∧ y = .int n ∧ -100000 ≤ n ∧ n ≤ 100000 ∧ l.length * n.toNat ≤ 1000000 ∧ Q (.str (tx (List.replicate n.toNat l).flatten)) H
theorem rep_made (l : List Nat) (n : Nat) : (⟨(List.replicate n (tx l).cps).foldl (· ++ ·) #[]⟩ : Str) = tx (List.replicate n l).flatten := by
  show (⟨_⟩ : Str) = ⟨_⟩
  congr 1
  apply Array.toList_inj.mp
  rw [fold_rep] <;> simp
theorem op_repN {X : Cx} : OpR X (binaryOp .Mult) rRepN := by
  intro pins s σ H x y v u Q I rx ry h
  obtain ⟨l, n, rfl, rfl, h1, h2, hm, q⟩ := h
  obtain ⟨t, rfl⟩ := rx
  obtain ⟨t', rfl⟩ := ry
  have size : (tx (List.replicate n.toNat l).flatten).length ≤ sizeLine := by
    rw [tx_len, rep_len, sizeLine_eq]
    omega
  refine P.mul_str (Bool.or_eq_false_iff.mpr ⟨decide_eq_false (by omega), decide_eq_false (by omega)⟩) (fun z1 z2 => ?_) (fun z1 z2 => ?_) ?_
  · rw [tx_len, Bool.or_eq_false_iff] at *
    have hn1 : n ≠ 1 := by simpa using z2.1
    rw [show (2 ^ 63 - 1 : Int) = 9223372036854775807 by decide]
    have hl0 : (l.length : Int) ≤ 1000000 := by
      have : 1 ≤ n.toNat := by omega
      have : l.length * 1 ≤ l.length * n.toNat := Nat.mul_le_mul_left _ this
      omega
    have : (9223372036854775807 : Int) / n ≥ 1000000 := by
      rw [ge_iff_le, Int.le_ediv_iff_mul_le (by omega)]
      omega
    omega
  · rw [tx_len]
    unfold Builtin.Str.tooLong
    refine decide_eq_false ?_
    rw [sizeLine_eq]
    omega
  · by_cases z : n < 1
    · rw [if_pos z]
      have e : n.toNat = 0 := by omega
      rw [e] at q
      exact ⟨by decide, .str _, H, I.tok _, ⟨_, rfl⟩, q⟩
    · rw [if_neg z]
      by_cases y : (n == 1 || (tx l).length == 0) = true
      · rw [if_pos y]
        have e : (List.replicate n.toNat l).flatten = l := by
          rw [Bool.or_eq_true, tx_len] at y
          rcases y with y | y
          · have : n = 1 := by simpa using y
            subst this
            simp
          · have : l = [] := List.length_eq_zero_iff.mp (by simpa using y)
            subst this
            simp
        rw [e] at q
        exact ⟨.str _, H, I, ⟨t, rfl⟩, q⟩
      · rw [if_neg y, rep_made]
        exact ⟨size, .str _, H, I.tok _, ⟨_, rfl⟩, q⟩
theorem ro_repN {K : PySem.W.Frag} {l : List Nat} {n : Int} (h1 : -100000 ≤ n) (h2 : n ≤ 100000) (hm : l.length * n.toNat ≤ 1000000) : RO K rRepN (.str l) (.int n) (.str (List.replicate n.toNat l).flatten) := fun F B as M H v u Q ow r1 r2 q => ⟨l, n, r1, r2, h1, h2, hm, q _ B H (Gr.refl F B) ow rfl⟩
section
variable {K : PySem.W.Frag} {G G1 : List (Option Sl)} {M M1 : List MO} {te : TE}
/-- a comprehension whose list is joined on -/
theorem ev_lcX {μ β : Type} {wi : TI} {g : TG} {tt : TT} {vs : List Nat} (xs : List β) (en : β → Dt) (encM : μ → List MO) (p : μ → β → Option (Dt × μ)) (q : μ → β → μ) (m0 : μ)
    (hI : EvI K wi G M (xs.map en) (encM m0)) (hx : xs.length ≤ 100000) (hw : ∀ v σ H Q, g v (wipe σ vs) H (fun σ2 H2 => wipe σ2 vs = wipe σ vs → Q σ2 H2) → g v (wipe σ vs) H Q)
    (turn : ∀ m x, x ∈ xs → ∃ G1, EvG K g (wipeG G vs) (.d (en x)) G1 ∧ (match p m x with
      | some (y, m') => ∃ M1, EvT K tt G1 (encM m) true M1 ∧ EvE K te G1 M1 (.d y) (encM m')
      | none => EvT K tt G1 (encM m) false (encM (q m x)))) :
    EvE K (tLc wi g tt te vs) G M (.d (lstX K (mapS p q xs m0).1)) (encM (mapS p q xs m0).2) := fun F B as σ H ow sl Q k =>
  ev_lcAny xs en encM p q m0 hI hx hw turn F B as σ H ow sl Q fun D us B' as' H' g' p' fD bD o' hD r' => by
    have sm : Same B' (upd B' D (.lst us)) := fun c u e => by rw [upd_ne (ne_of_none e bD)]; exact e
    refine k _ (upd B' D (.lst us)) as' H' ⟨g'.1.trans sm, fun c z n => ?_⟩ p' ⟨?_, ?_, o'.len, o'.nd, o'.al, ?_, ?_⟩ (fun H2 s2 => ⟨D, us, rfl, s2 _ _ upd_same, RpL.mono (sm.trans s2) _ _ r'⟩)
    · rw [upd_ne (fun e : c = D => z.1 (by rw [e]; exact fD))]; exact g'.2 c z n
    · exact fun c u e => o'.fb c u (by rw [upd_ne (ne_of_none e fD)]; exact e)
    · intro c u e
      by_cases z : c = D
      · rw [z, upd_same] at e; rw [z, ← e]; exact hD
      · rw [upd_ne z] at e; exact o'.bb c u e
    · intro c hc
      have q1 := o'.fa c hc
      rw [upd_ne (fun e : c = D => o'.out (e ▸ hc))] at q1
      exact q1
    · intro k a m e1 e2 hm
      obtain ⟨q1, q2, q3⟩ := o'.own k a m e1 e2 hm
      have ne : a ≠ D := fun e => by rw [e, upd_same] at q1; cases q1
      rw [upd_ne ne] at q1
      exact ⟨q1, by rw [upd_ne ne]; exact q2, MoR.mono sm rfl q3⟩
theorem ev_lcAX {μ β γ : Type} {wi : TI} {g : TG} {vs : List Nat} (xs : List β) (en : β → Dt) (ec : γ → Dt) (encM : μ → List MO) (f : μ → β → γ × μ) (m0 : μ) (hI : EvI K wi G M (xs.map en) (encM m0)) (hx : xs.length ≤ 100000)
    (hw : ∀ v σ H Q, g v (wipe σ vs) H (fun σ2 H2 => wipe σ2 vs = wipe σ vs → Q σ2 H2) → g v (wipe σ vs) H Q) (turn : ∀ m x, x ∈ xs → ∃ G1, EvG K g (wipeG G vs) (.d (en x)) G1 ∧ EvE K te G1 (encM m) (.d (ec (f m x).1)) (encM (f m x).2)) :
    EvE K (tLc wi g tYes te vs) G M (.d (lstX K ((mapA f xs m0).1.map ec))) (encM (mapA f xs m0).2) := by
  have h := ev_lcX (te := te) xs en encM (fun m x => some (ec (f m x).1, (f m x).2)) (fun m _ => m) m0 hI hx hw fun m x hm => by
    obtain ⟨G1, h1, h2⟩ := turn m x hm
    exact ⟨G1, h1, encM m, et_yes, h2⟩
  rw [mapS_acc] at h
  exact h
end
/-! ### repr of data, where no guard is up -/
def rReprD (K : PySem.W.Frag) : List V → Hp → VK → Prop := fun xs H Q => ∃ (a : Addr) (d : PyData), xs = [.ref a] ∧ Dp K H (.ref a) d ∧ d.showable = true ∧ d.canLay0 = true ∧ d.depth ≤ 64 ∧ d.shown.length ≤ sizeLine ∧ Q (.str d.shown) H
theorem call_repr_data {X : Cx} (hg : X.A.guards = some []) (hu : X.A.units + 66 < cLine) : CallR X (.builtin "repr") (rReprD X.K) := by
  intro pins s σ H xs us Q I r h
  obtain ⟨a, d, rfl, hd, h1, h2, h3, h4, q⟩ := h
  obtain ⟨u, rfl, ru⟩ := vals1 r
  obtain ⟨as, hr⟩ := Dp.reads I d (.ref a) u hd ru
  cases ru
  exact repr_of_reads' hr h1 (PyData.noDict_hsm (PyData.hasDict_of_canLay d h2)) hg (by omega) (fun _ _ e => e) (fun h' u tk hk => ⟨.str _, H, I.kept hk, ⟨u, rfl⟩, q⟩) h4
def shL (d : Dt) : List Nat := (toP d).shown.cps.toList
theorem tx_shL (d : Dt) : tx (shL d) = (toP d).shown := by
  show (⟨_⟩ : Str) = _
  unfold shL
  rw [Array.toArray_toList]
theorem rc_reprD {K : PySem.W.Frag} {xs : List Dt} (h1 : plD (.lst xs) = true) (h2 : (toP (.lst xs)).showable = true) (h3 : dpD (.lst xs) ≤ 64) (h4 : (toP (.lst xs)).shown.length ≤ sizeLine) : RC K (rReprD K) [.lst xs] (.str (shL (.lst xs))) := fun F B as M H vs Q ow r q => by
  obtain ⟨v, r1, e, hv, h5⟩ := r
  have h5 : r1 = [] := h5
  subst h5; subst e
  have hv2 := Rp.mono ow.bb _ _ hv
  obtain ⟨a, us, rfl, _⟩ := hv
  obtain ⟨l1, l2⟩ := lay_of (.lst xs) h1
  refine ⟨a, toP (.lst xs), rfl, dp_of (.lst xs) _ h1 hv2, h2, l1, by rw [l2]; exact h3, h4, q _ B H (Gr.refl F B) ow ?_⟩
  show V.str _ = V.str _
  rw [tx_shL]
/-! ### the outermost call: no guard is up there -/
structure FnA (P : Program) (w : World) (K : PySem.W.Frag) (mg : Str → Option Value) (base : Heap) (f : Addr) (fd : FuncData) (ps : List Str) (sp : Sp) : Prop where
  go : ∀ (outer : List Env) (s : Shared) (H : Hp) (args : Args) (us : List Value) (vs : List V) (Q : VK) (E : XK), Env0 P w K mg base callerA outer s H → BindsTo s fd args (ps.zip us) → Vals vs us → sp vs H Q E →
    codeAny (model P w) callerA (.call (.ref f) args) (CR CX0 outer P w H s Q E) s
section
variable {P : Program} {w : World} {K : PySem.W.Frag} {mg : Str → Option Value} {base : Heap}
theorem fn_outer {k : Nat} {f : Addr} {nm ql : Str} {pr : Arguments} {bd : List Stmt} {sc : Scope} {dV kV dc pm cv ct oc : Value} {an od : Option Addr} {sl : Array (Option Value)} {N ps : List Str} {sp : Sp}
    (lk : K.lookup f = some ⟨oc, od, .func (PySem.W.fnOf nm ql pr bd sc dV kV dc pm an cv ct), sl⟩) (hcd : PySem.W.codeIn K cv ql = true) (S : FnScope N ps sc) (hrm : Room (k + 1) callerA) (len : ∀ vs H Q E, sp vs H Q E → vs.length = ps.length)
    (body : ∀ (outer : List Env) (s : Shared) (H : Hp) (vs : List V) (Q : VK) (E : XK), Room k (callerA.deeper (envOfC ql sc s.heap.objs.size f cv)) → sp vs H Q E →
      ∃ t, PSs (cxOf CX0 P w K mg base N ql sc f cv callerA outer s H E) bd t ∧ t { nx := fun _ H' => Q .non H', rt := Q } (L2.start N vs) H) :
    FnA P w K mg base f (PySem.W.fnOf nm ql pr bd sc dV kV dc pm an cv ct) ps sp := by
  constructor
  intro outer s H args us vs Q E e0 bnd rel want
  have nvs := len _ _ _ _ want
  have inH : K.In s.heap := e0.mod.kin.keeps fun b o z => (e0.bs b o z).1
  have noLim : s.heap.NoLimit := e0.mod.nolimit.keeps fun b o z => (e0.bs b o z).1
  have kinds : ∀ y ∈ ps.zip us, sc.names.lookup y.1 = some .local ∨ (sc.names.lookup y.1 = some .cell ∧ ((cellsFrom (s.heap.objs.size + 1) sc.names []).lookup y.1).isSome = true) := by
    rintro ⟨n, v⟩ hy
    rcases S.par n (List.of_mem_zip hy).1 with z | z
    · exact Or.inl z
    · exact Or.inr ⟨z, PySem.W.cellsFrom_some _ _ _ (Or.inl z)⟩
  refine codeAny_call_function hrm.depth (inH _ _ lk) rfl S.co S.gen rfl (PySem.W.codeRec_of inH hcd) (bnd _ _ _ _ (wpAny_newFunctionEnv_cells S.kind kinds fun env henv s1 st => ?_))
  subst henv
  obtain ⟨t, ht, run⟩ := body outer s H vs Q E (hrm.deeper _) want
  have inv0 : L2.Inv (cxOf CX0 P w K mg base N ql sc f cv callerA outer s H E) [] (L2.start N vs) H s1 := inv_start S hrm.hd e0 nvs rel st
  refine ⟨noLim.keeps st.toInCall.keep, codeAny_func (wpAny_mono (ht.run [] s1 (L2.start N vs) H _ inv0 run) (fun fl s2 hs => ?_) fun _ _ z => z)⟩
  cases fl with
  | ret u =>
    obtain ⟨v, σ', H', J, rv, q⟩ := hs
    exact ⟨v, H', J.os, J.bare, J.base, J.hok, rv, q⟩
  | next =>
    obtain ⟨σ', H', J, q⟩ := hs
    exact ⟨.non, H', J.os, J.bare, J.base, J.hok, rfl, q⟩
  | brk => exact (let ⟨_, _, _, q⟩ := hs; q.elim)
  | cont => exact (let ⟨_, _, _, q⟩ := hs; q.elim)
end
theorem outer_call {P : Program} {w : World} {K : PySem.W.Frag} {mg mb : Str → Option Value} {fa a : Addr} {fd : FuncData} {x : Str} {sp : Sp} {s1 : Shared} {vs : List Value} {ns : List Int}
    (inS : K.In s1.heap) (nsM : s1.heap.Ns mainGlobals mg) (nsB : s1.heap.Ns builtinsNs mb) (boot : ∀ y : Str, y ≠ "__name__" → mb y = bootBuiltins y) (noLim : s1.heap.NoLimit) (gens : s1.gens = #[])
    (obj : s1.heap.get? a = some { cls := .type "list", data := .seq vs.toArray }) (rin : IntsAre vs ns) (few : ns.length ≤ sizeLine)
    (F : ∀ base : Heap, K.In base → base.Ns mainGlobals mg → FnA P w K mg base fa fd [x] sp) (bind : ∀ (s : Shared) (u : Value), BindsTo s fd ⟨[u], []⟩ [(x, u)])
    (want : ∀ H : Hp, Only H → SqL K H a (ns.map V.int) → sp [.ref a] H (fun v _ => v = .bl true) fun _ _ _ => False) :
    codeAny (model P w) callerA (.call (.ref fa) ⟨[.ref a], []⟩) (fun r s' => r = .ok (.ret (.bool true)) ∧ OldK s1.heap s'.heap ∧ s'.os = s1.os ∧ AllBare s'.gens) s1 := by
  have rel := vals_ints rin
  have nv := rin.length
  have main : ∀ H : Hp, Only H → SqL K H a (ns.map V.int) → HOk P w H s1.heap → (∀ b, H b ≠ none → b = a) → (H a ≠ none → K.lookup a = none) →
      codeAny (model P w) callerA (.call (.ref fa) ⟨[.ref a], []⟩) (fun r s' => r = .ok (.ret (.bool true)) ∧ OldK s1.heap s'.heap ∧ s'.os = s1.os ∧ AllBare s'.gens) s1 := by
    intro H only sq ok onlyA outK
    have keep : ∀ {b : Addr} {o : Obj}, s1.heap.get? b = some o → H b = none → (hidT s1.heap H).get? b = some o := fun z n => hidT_get z n
    have dictFree : ∀ {b : Addr} {o : Obj} {es : Array DictEntry} {ep : Nat}, s1.heap.get? b = some o → o.data = .dict es ep → H b = none := by
      intro b o es ep z hd
      rcases hq : H b with _ | u
      · rfl
      · have z2 := onlyA b (by rw [hq]; simp)
        subst z2
        rw [obj] at z
        cases z
        exact absurd hd (fun y => nomatch y)
    have space : ∀ {b : Addr} {m : Str → Option Value}, s1.heap.Ns b m → (hidT s1.heap H).Ns b m := by
      rintro b m ⟨o, es, ep, z, hd, r⟩
      exact ⟨o, es, ep, keep z (dictFree z hd), hd, r⟩
    have inB : K.In (hidT s1.heap H) := by
      intro b o z
      refine keep (inS b o z) ?_
      rcases hq : H b with _ | u
      · rfl
      · have z2 := onlyA b (by rw [hq]; simp)
        subst z2
        rw [outK (by rw [hq]; simp)] at z
        cases z
    have modl : Mod K mg (hidT s1.heap H) := by
      refine ⟨inB, space nsM, ⟨mb, space nsB, boot⟩, ?_⟩
      obtain ⟨mc, y1, y2⟩ := noLim
      exact ⟨mc, space y1, y2⟩
    have env : Env0 P w K mg (hidT s1.heap H) callerA [] s1 H := ⟨rfl, modl, fun b o z => of_hidT z, Nat.le_of_eq (hidT_size _ _), trivial, fun b hb => (nomatch hb), ok, .of_eq gens⟩
    refine codeAny_mono ((F _ inB (space nsM)).go [] s1 H ⟨[.ref a], []⟩ [.ref a] [.ref a] _ _ env (bind s1 (.ref a)) (.cons rfl .nil) (want H only sq)) fun r s' res => ?_
    rcases r with e | fl
    · exact absurd res (fun y => y)
    · cases fl with
      | next => exact res.elim
      | brk => exact res.elim
      | cont => exact res.elim
      | ret u =>
        obtain ⟨v, H', os, bare, un, ok', rv, qv⟩ := res
        have qv : v = .bl true := qv
        subst qv
        have ru : u = Value.bool true := rv
        subst ru
        refine ⟨rfl, OldK.of_keep fun b o z => ?_, os, bare⟩
        rcases hq : H b with _ | u
        · exact un.keep b o z hq (fun y => nomatch y) (by simp)
        · rcases only b with y | ⟨ob, xs, y⟩
          · rw [hq] at y; cases y
          · obtain ⟨e1, _⟩ := ok b _ y
            obtain ⟨e2, _⟩ := ok' b _ (un.frzs b ob _ y)
            rw [z] at e1
            cases e1
            exact e2
  rcases hk : K.lookup a with _ | o
  · have at1 : ∀ b : Addr, b = a → (if b = a then some (HO.frz { cls := .type "list", data := .seq vs.toArray } (.lst (ns.map V.int))) else none) = some (HO.frz { cls := .type "list", data := .seq vs.toArray } (.lst (ns.map V.int))) := fun b z => if_pos z
    have at0 : ∀ b : Addr, b ≠ a → (if b = a then some (HO.frz { cls := .type "list", data := .seq vs.toArray } (.lst (ns.map V.int))) else none) = none := fun b z => if_neg z
    refine main (fun b => if b = a then some (.frz { cls := .type "list", data := .seq vs.toArray } (.lst (ns.map V.int))) else none) (fun b => ?_) (.inl (.inr ⟨_, at1 a rfl⟩)) (fun b u z => ?_) (fun b z => ?_) fun _ => hk
    · by_cases y : b = a
      · exact .inr ⟨_, _, at1 b y⟩
      · exact .inl (at0 b y)
    · by_cases y : b = a
      · have z2 := (at1 b y).symm.trans z
        cases z2
        subst y
        exact ⟨obj, by rw [List.length_map]; exact few, vs, _, rel, obj⟩
      · have z2 := (at0 b y).symm.trans z
        cases z2
    · by_cases y : b = a
      · exact y
      · exact absurd (at0 b y) z
  · have z := inS a o hk
    rw [obj] at z
    cases z
    exact main (fun _ => none) (fun _ => .inl rfl) (.inr ⟨_, vs.toArray, _, hk, rfl, rfl, rfl, by rw [List.size_toArray, nv]; exact few, by simpa using rel⟩) (fun b u z => by have z2 : (none : Option HO) = some u := z; cases z2) (fun b z => absurd rfl z) fun z => absurd rfl z
theorem walk_outer {l : PySem.W.OpenLaw} {n : Nat} {q : Program} {loose : List Str} {XP : (Str → Option Value) → Heap → Prop} {YP : World → Heap → Prop} {d : DefRec} {K : Params → PySem.W.Frag} {sp : World → Sp} {x : Str}
    (hn : l.most = some n) (hn2 : n ≤ sizeLine) (hdf : d.params.defaults = []) (hY : ∀ (w : World) (h : Heap), YP w h → (K w.params).In h)
    (F : ∀ (w : World) (mg : Str → Option Value) (fa : Addr) (h : Heap), (K w.params).In h → h.Ns mainGlobals mg → mg d.name = some (.ref fa) →
      ∃ fd : FuncData, (∀ (s : Shared) (u : Value), BindsTo s fd ⟨[u], []⟩ [(x, u)]) ∧ ∀ base : Heap, (K w.params).In base → base.Ns mainGlobals mg → FnA l.prog w (K w.params) mg base fa fd [x] (sp w))
    (hsp : ∀ (w : World) (H : Hp) (a : Addr) (ns : List Int), ns.length ≤ n → Only H → SqL (K w.params) H a (ns.map V.int) → sp w [.ref a] H (fun v _ => v = .bl true) fun _ _ _ => False) :
    PySem.W.WalkO q loose XP YP l.row.toRowW d [] (fun f vs => PySem.call f vs) := by
  refine Att.attach_call hn hdf fun w s0 s1 mg mb fa o pm cd doc a vs ns G Y ho hd hcd hmg hobj hints hlen hg => ?_
  have inS := hY w _ Y
  obtain ⟨fd, hb, hF⟩ := F w mg fa _ inS G.T.g hmg
  exact outer_call inS G.T.g G.T.b G.T.builtins G.T.nolimit hg hobj hints (Nat.le_trans hlen hn2) hF hb (fun H hO hS => hsp w H a ns hlen hO hS)
/-- a law's own def, at the outermost call -/
structure CalA (P : Program) (w : World) (K : PySem.W.Frag) (mg : Str → Option Value) (base : Heap) (x : Str) (st : Stmt) (ps : List Str) (sp : Sp) : Prop where
  ex : ∃ (f : Addr) (fd : FuncData), FnA P w K mg base f fd ps sp ∧ L2.Fun K x x st f fd ∧ mg x = some (.ref f)
theorem cal_mkA {P : Program} {w : World} {K : PySem.W.Frag} {mg : Str → Option Value} {base : Heap} {x : Str} {st : Stmt} {N ps : List Str} {k n : Nat} {R : List Sl → List MO → Sl → List MO → Prop} (D : Df K mg x st ps) (S : FnScope N ps (defScope st)) (hn : ps.length = n) (hrm : Room (k + 1) callerA)
    (hb : ∀ (f : Addr) (cdv : Value) (outer : List Env) (s : Shared) (H : Hp) (E : XK), Room k (callerA.deeper (envOfC x (defScope st) s.heap.objs.size f cdv)) → ∀ ss M r M', R ss M r M' →
      ∃ t X, PSs (cxOf CX0 P w K mg base N x (defScope st) f cdv callerA outer s H E).nox (defBody st) t ∧ EvS K t (start N.length ss) M (.rt r (M' ++ X)) ∧ M.length ≤ M'.length ∧ ∀ j, r = .o j → j < M'.length) :
    CalA P w K mg base x st ps (SpR K n R) := by
  obtain ⟨f, fd, F, hm, b⟩ := D.ex
  obtain ⟨oc, od, kV, doc, pm, an, cdv, ct, osl, rfl, lk, hcd⟩ := F.ex
  refine ⟨f, _, fn_outer lk hcd S hrm (fun vs H Q E h => ?_) (fun outer s H vs Q E hr h => ?_), F, hm⟩
  · obtain ⟨_, _, _, _, _, _, _, _, _, _, e, _⟩ := h
    rw [e, hn]
  · obtain ⟨F', B, as, ss, M, r, M', hR, ow, sl, _, q⟩ := h
    obtain ⟨t, X, ht, he, hl, hr'⟩ := hb f cdv outer s H E hr ss M r M' hR
    exact ⟨t, ht.nox, run_body (X := X) he hl hr' ow sl q⟩
end DJ
namespace DJ
open PySem PySem.Spec PyProof.Rows L2
section
variable {K : PySem.W.Frag} {F B H : Hp} {as : List Addr} {G G1 : List (Option Sl)} {M M1 : List MO} {te : TE}
/-! ### two clauses in one comprehension, nothing owned changes -/
theorem flat_take {β γ : Type} (f : β → List γ) (xs : List β) (i : Nat) (h : i < xs.length) : (xs.take (i + 1)).flatMap f = (xs.take i).flatMap f ++ f xs[i] := by
  rw [← List.take_append_getElem h, List.flatMap_append, List.flatMap_cons, List.flatMap_nil, List.append_nil]
theorem flat_len {β γ : Type} (f : β → List γ) (xs : List β) (i : Nat) : ((xs.take i).flatMap f).length ≤ (xs.flatMap f).length := by
  have h : xs.flatMap f = (xs.take i).flatMap f ++ (xs.drop i).flatMap f := by rw [← List.flatMap_append, List.take_append_drop]
  rw [h, List.length_append]
  omega
theorem yes_ite {σ : L2.St} {H : Hp} {p q : Hp → Prop} (h : p H) : tYes σ H (fun b H' => if b = true then p H' else q H') := h
theorem ev_lc2 {β γ : Type} {wi wi1 : TI} {g g1 : TG} {vs vs1 : List Nat} (xs : List β) (en : β → Dt) (ys : β → List γ) (en1 : γ → Dt) (f : β → γ → Dt) (hI : EvI K wi G M (xs.map en) M) (hx : (xs.flatMap fun x => (ys x).map (f x)).length ≤ 100000)
    (hw : ∀ v σ H Q, g v (wipe σ vs) H (fun σ2 H2 => wipe σ2 vs = wipe σ vs → Q σ2 H2) → g v (wipe σ vs) H Q) (hw1 : ∀ v σ H Q, g1 v (wipe σ vs1) H (fun σ2 H2 => wipe σ2 vs1 = wipe σ vs1 → Q σ2 H2) → g1 v (wipe σ vs1) H Q)
    (turn : ∀ x, x ∈ xs → ∃ G1, EvG K g (wipeG G vs) (.d (en x)) G1 ∧ EvI K wi1 G1 M ((ys x).map en1) M ∧ ∀ y, y ∈ ys x → ∃ G2, EvG K g1 (wipeG G1 vs1) (.d (en1 y)) G2 ∧ EvE K te G2 M (.d (f x y)) M) :
    EvE K (tLc2 wi g tYes wi1 g1 tYes te vs vs1) G M (.d (.lst (xs.flatMap fun x => (ys x).map (f x)))) M := fun F B as σ H ow sl Q k => by
  refine hI F B as σ H ow sl _ fun J B1 as1 H1 g1' p1 o1 yl => fun D hD => ?_
  obtain ⟨fD, bD, aD⟩ := o1.fresh hD
  have kD : ∀ us : List V, Kp ((upd F D (.lst us)) D) := fun us => by rw [upd_same]; exact kp_lst
  have ow0 : Ow K (upd F D (.lst [])) B1 as1 M (upd H1 D (.lst [])) := o1.frame hD _
  refine ⟨fun i n H' => ∃ B' as' us, n = xs.length - i ∧ i ≤ xs.length ∧ Gr F B1 B' ∧ B' D = none ∧ Px as1 as' ∧ Ow K (upd F D (.lst us)) B' as' M H' ∧ H' D = some (.lst us) ∧ RpL K B' ((xs.take i).flatMap fun x => (ys x).map (f x)) us,
    ⟨xs.length, B1, as1, [], by simp, Nat.zero_le _, Gr.refl F B1, bD, Px.refl as1, ow0, upd_same, rfl⟩, fun i n H' w => ?_⟩
  obtain ⟨B', as', us, rfl, hi, g', bD', p', o', hD', r'⟩ := w
  obtain ⟨y1, y2⟩ := yl _ B' as' _ H' i g'.1 o'
  by_cases hlt : i < xs.length
  · have hxi : xs[i]? = some xs[i] := List.getElem?_eq_getElem hlt
    obtain ⟨go, yld⟩ := y1 (en xs[i]) (by rw [List.getElem?_map, hxi] <;> rfl)
    refine .inr ⟨go, fun H2 => ∃ B' as' us, i + 1 ≤ xs.length ∧ Gr F B1 B' ∧ B' D = none ∧ Px as1 as' ∧ Ow K (upd F D (.lst us)) B' as' M H2 ∧ H2 D = some (.lst us) ∧ RpL K B' ((xs.take (i + 1)).flatMap fun x => (ys x).map (f x)) us, fun H2 n2 => ?_, fun v H2 yv => ?_⟩
    · obtain ⟨B2, as2, us2, q1, q2, q3, q4, q5, q6, q7⟩ := n2
      exact ⟨xs.length - (i + 1), by omega, B2, as2, us2, rfl, q1, q2, q3, q4, q5, q6, q7⟩
    · obtain ⟨B2, g2, o2, r2⟩ := yld v H2 yv
      obtain ⟨G1, hg, hI1, ht⟩ := turn xs[i] (List.getElem_mem hlt)
      have bD2 : B2 D = none := g2.2 D (kD us) bD'
      refine hw v σ H2 _ ?_
      refine hg _ B2 as' M (wipe σ vs) H2 v o2 ((slt_wipe (sl.mono ((g1'.1.trans g'.1).trans g2.1) (p1.trans p')) vs)) r2 _ fun B3 as3 σ3 H3 g3 p3 o3 s3 => fun hwp => ⟨hwp, ?_⟩
      refine yes_ite ?_
      have bD3 : B3 D = none := g3.2 D (kD us) bD2
      refine hI1 _ B3 as3 σ3 H3 o3 s3 _ fun J1 B4 as4 H4 g4 p4 o4 yl4 => ?_
      have bD4 : B4 D = none := g4.2 D (kD us) bD3
      have gg : Gr F B' B4 := (g2.trans (g3.trans g4)).of_side
      refine ⟨fun j m H' => ∃ B' as' us', m = (ys xs[i]).length - j ∧ j ≤ (ys xs[i]).length ∧ Gr F B4 B' ∧ B' D = none ∧ Px as4 as' ∧ Ow K (upd F D (.lst us')) B' as' M H' ∧ H' D = some (.lst us') ∧ RpL K B' (((xs.take i).flatMap fun x => (ys x).map (f x)) ++ ((ys xs[i]).take j).map (f xs[i])) us',
        ⟨(ys xs[i]).length, B4, as4, us, by simp, Nat.zero_le _, Gr.refl F B4, bD4, Px.refl as4, o4, o4.fb D _ upd_same, by rw [List.take_zero, List.map_nil, List.append_nil]; exact RpL.mono gg.1 _ _ r'⟩, fun j m H5 w5 => ?_⟩
      obtain ⟨B5, as5, us5, rfl, hj, g5, bD5, p5, o5, hD5, r5⟩ := w5
      obtain ⟨z1, z2⟩ := yl4 _ B5 as5 _ H5 j g5.1 o5
      by_cases hjl : j < (ys xs[i]).length
      · have hyj : (ys xs[i])[j]? = some (ys xs[i])[j] := List.getElem?_eq_getElem hjl
        obtain ⟨go1, yld1⟩ := z1 (en1 (ys xs[i])[j]) (by rw [List.getElem?_map, hyj] <;> rfl)
        refine .inr ⟨go1, fun H2 => ∃ B' as' us', j + 1 ≤ (ys xs[i]).length ∧ Gr F B4 B' ∧ B' D = none ∧ Px as4 as' ∧ Ow K (upd F D (.lst us')) B' as' M H2 ∧ H2 D = some (.lst us') ∧ RpL K B' (((xs.take i).flatMap fun x => (ys x).map (f x)) ++ ((ys xs[i]).take (j + 1)).map (f xs[i])) us', fun H2 n2 => ?_, fun v5 H6 yv5 => ?_⟩
        · obtain ⟨B2, as2, us2, q1, q2, q3, q4, q5, q6, q7⟩ := n2
          exact ⟨(ys xs[i]).length - (j + 1), by omega, B2, as2, us2, rfl, q1, q2, q3, q4, q5, q6, q7⟩
        · obtain ⟨B6, g6, o6, r6⟩ := yld1 v5 H6 yv5
          obtain ⟨G2, hg1, hte⟩ := ht (ys xs[i])[j] (List.getElem_mem hjl)
          have bD6 : B6 D = none := g6.2 D (kD us5) bD5
          refine hw1 v5 σ3 H6 _ ?_
          refine hg1 _ B6 as5 M (wipe σ3 vs1) H6 v5 o6 (slt_wipe (s3.mono ((g4.1.trans g5.1).trans g6.1) (p4.trans p5)) vs1) r6 _ fun B7 as7 σ7 H7 g7 p7 o7 s7 => fun hwp1 => ⟨hwp1, ?_⟩
          refine yes_ite ?_
          have bD7 : B7 D = none := g7.2 D (kD us5) bD6
          refine hte _ B7 as7 σ7 H7 o7 s7 _ fun w8 B8 as8 H8 g8 p8 o8 r8 => ?_
          have bD8 : B8 D = none := g8.2 D (kD us5) bD7
          have sm := (g6.1.trans g7.1).trans g8.1
          have hl : us5.length < sizeLine := by
            rw [r5.len, List.length_append, List.length_map, List.length_take]
            have e1 := flat_len (fun x => (ys x).map (f x)) xs (i + 1)
            rw [flat_take _ xs i hlt, List.length_append, List.length_map] at e1
            exact Nat.lt_of_le_of_lt (show _ ≤ 100000 by omega) (by decide)
          have on : Ow K F B8 as8 M (upd H8 D (.lst (us5 ++ [w8]))) := o8.aside fD bD8
          have on2 : Ow K (upd F D (.lst (us5 ++ [w8]))) B8 as8 M (upd H8 D (.lst (us5 ++ [w8]))) := on.side upd_same fD o8.out
          refine ⟨us5, o8.fb D _ upd_same, hl, B8, as8, us5 ++ [w8], hjl, g5.trans ((g6.trans (g7.trans g8)).of_side), bD8, p5.trans (p7.trans p8), on2, upd_same, ?_⟩
          rw [← List.take_append_getElem hjl, List.map_append, List.map_cons, List.map_nil, ← List.append_assoc]
          exact RpL.append (RpL.mono sm _ _ r5) (RpL.one r8)
      · have e : j = (ys xs[i]).length := by omega
        subst e
        refine .inl ⟨z2 (by rw [List.length_map]; exact Nat.le_refl _), B5, as5, us5, hlt, g'.trans (gg.trans g5), bD5, p'.trans (p3.trans (p4.trans p5)), o5, hD5, ?_⟩
        rw [flat_take _ xs i hlt]
        rw [List.take_length] at r5
        exact r5
  · have e : i = xs.length := by omega
    subst e
    rw [List.take_length] at r'
    have sm : Same B' (upd B' D (.lst us)) := fun c u e => by rw [upd_ne (ne_of_none e bD')]; exact e
    refine .inl ⟨y2 (by rw [List.length_map]; exact Nat.le_refl _), k _ (upd B' D (.lst us)) as' H' ⟨(g1'.trans g').1.trans sm, fun c z n => ?_⟩ (p1.trans p') ⟨?_, ?_, o'.len, o'.nd, o'.al, ?_, ?_⟩ ⟨D, us, rfl, .inl (.inl upd_same), RpL.mono sm _ _ r'⟩⟩
    · rw [upd_ne (fun e : c = D => z.1 (by rw [e]; exact fD))]; exact (g1'.trans g').2 c z n
    · exact fun c u e => o'.fb c u (by rw [upd_ne (ne_of_none e fD)]; exact e)
    · intro c u e
      by_cases z : c = D
      · rw [z, upd_same] at e; rw [z, ← e]; exact hD'
      · rw [upd_ne z] at e; exact o'.bb c u e
    · intro c hc
      have q1 := o'.fa c hc
      rw [upd_ne (fun e : c = D => o'.out (e ▸ hc))] at q1
      exact q1
    · intro k a m e1 e2 hm
      obtain ⟨q1, q2, q3⟩ := o'.own k a m e1 e2 hm
      have ne : a ≠ D := fun e => by rw [e, upd_same] at q1; cases q1
      rw [upd_ne ne] at q1
      exact ⟨q1, by rw [upd_ne ne]; exact q2, MoR.mono sm rfl q3⟩
/-! ### what was owned, joined on -/
theorem ev_freezeX {k : Nat} {xs : List Dt} (h : EvE K te G M (.o k) M1) (hm : M1[k]? = some (.lst xs)) : EvE K te G M (.d (lstX K xs)) (M1.set k .gone) := fun F B as σ H ow sl Q q =>
  h F B as σ H ow sl _ fun v B1 as1 H1 g p o1 r => by
    obtain ⟨a, ha, rfl⟩ := r
    obtain ⟨_, _, vs, hv, hr⟩ := o1.own k a _ ha hm (fun z => nomatch z)
    have e2 : (M1.set k (.hob (.lst vs)))[k]? = some (.hob (.lst vs)) := List.getElem?_set_self (List.getElem?_eq_some_iff.mp hm).1
    have o2 : Ow K F B1 as1 (M1.set k (.hob (.lst vs))) H1 := by
      have := o1.put (o := .lst vs) (m' := .hob (.lst vs)) ha hm (fun z => nomatch z) ⟨upd_same, fun _ z => nomatch z⟩
      rwa [show upd H1 a (.lst vs) = H1 from funext fun b => by
        by_cases e : b = a
        · rw [e, upd_same, hv]
        · rw [upd_ne e]] at this
    obtain ⟨g', ow'⟩ := o2.freezeO ha e2
    rw [List.set_set] at ow'
    exact q _ _ as1 H1 (g.trans g') p ow' fun H' s => ⟨a, vs, rfl, s _ _ upd_same, RpL.mono (g'.1.trans s) _ _ hr⟩
end
/-! ### isinstance(x, int), isinstance(x, bool), of whole numbers -/
abbrev tyInt : Dt := .raw (.ty "int")
abbrev tyBool : Dt := .raw (.ty "bool")
section
variable {K : PySem.W.Frag} {i : Int}
theorem rc_intI : RC K (rIsi K) [.int i, tyInt] (.bl true) := fun F B as M H vs Q ow r q => by
  obtain ⟨v, r1, e1, h1, w, r2, e2, h2, e3⟩ := r
  have h1 : v = V.int i := h1
  have h2 : w = V.ty "int" := h2
  have e3 : r2 = [] := e3
  subst e3; subst e2; subst e1; subst h2; subst h1
  exact ⟨_, _, _, _, true, rfl, .ty "int", .base (.int i), kit_ty (by decide +kernel), q _ B H (Gr.refl F B) ow rfl⟩
theorem rc_intNB : RC K (rIsi K) [.int i, tyBool] (.bl false) := fun F B as M H vs Q ow r q => by
  obtain ⟨v, r1, e1, h1, w, r2, e2, h2, e3⟩ := r
  have h1 : v = V.int i := h1
  have h2 : w = V.ty "bool" := h2
  have e3 : r2 = [] := e3
  subst e3; subst e2; subst e1; subst h2; subst h1
  exact ⟨_, _, _, _, false, rfl, .ty "bool", .base (.int i), kit_ty (by decide +kernel), q _ B H (Gr.refl F B) ow rfl⟩
end
/-! ### defs with defaults -/
structure DfD (K : PySem.W.Frag) (mg : Str → Option Value) (x : Str) (st : Stmt) (dvs : List V) : Prop where
  ex : ∃ (f : Addr) (fd : FuncData), L2.FunD K x x (defArgs st) (defBody st) (defScope st) dvs [] f fd ∧ mg x = some (.ref f)
theorem cal_mkD {P : Program} {w : World} {K : PySem.W.Frag} {mg : Str → Option Value} {base : Heap} {x : Str} {st : Stmt} {N ps : List Str} {dvs : List V} {k n : Nat} {R : List Sl → List MO → Sl → List MO → Prop} (D : DfD K mg x st dvs) (S : FnScope N ps (defScope st)) (hn : ps.length = n)
    (hb : ∀ (f : Addr) (cdv : Value) (A : Around) (outer : List Env) (s : Shared) (H : Hp) (E : XK), Room k (A.deeper (envOfC x (defScope st) s.heap.objs.size f cdv)) → ∀ ss M r M', R ss M r M' →
      ∃ t X, PSs (cxOf CX0 P w K mg base N x (defScope st) f cdv A outer s H E).nox (defBody st) t ∧ EvS K t (start N.length ss) M (.rt r (M' ++ X)) ∧ M.length ≤ M'.length ∧ ∀ j, r = .o j → j < M'.length)
    (j : Nat) (hj : n - (dvs.length - j) + (dvs.length - j) = n) (hd : dvs ≠ [])
    (hbind : ∀ (T : Addr) (kV doc pm : Value) (an : Option Addr) (cdv ct : Value) (us its : List Value), us.length = n - (dvs.length - j) → its.length = dvs.length →
      ∃ k, bindArgs (PySem.W.fnOf x x (defArgs st) (defBody st) (defScope st) (.ref T) kV doc pm an cdv ct) ⟨us, []⟩ = seqItems? (.ref T) >>= k ∧ k (some its.toArray) = pure (ps.zip (us ++ its.drop j))) :
    Cal P w K mg base (k + 1) x (SpR K n R) (dvs.drop j) := by
  obtain ⟨f, fd, F, hm⟩ := D.ex
  obtain ⟨ds, hv, hbb⟩ := F.binds1 (ps := ps) (n - (dvs.length - j)) j hd (by rw [hn]; exact hj) hbind
  refine ⟨f, fd, ps, ds, F.ok S (fun vs H Q E h => ?_) (fun cdv A outer s H vs Q E hr h => ?_), hm, F.kp, hbb, hv⟩
  · obtain ⟨_, _, _, _, _, _, _, _, _, _, e, _⟩ := h
    rw [e, hn]
  · obtain ⟨F', B, as, ss, M, r, M', hR, ow, sl, _, q⟩ := h
    obtain ⟨t, X, ht, he, hl, hr'⟩ := hb f cdv A outer s H E hr ss M r M' hR
    exact ⟨t, ht.nox, run_body (X := X) he hl hr' ow sl q⟩
end DJ
namespace DJ
open PySem PySem.Spec PyProof.Rows L2
/-! ### what the top leaves of a def with defaults -/
/-- these values are these whole numbers -/
def intsOf : List Int → List Value → Bool
  | [], [] => true
  | l :: ls, .int x _ :: vs => decide (x = l) && intsOf ls vs
  | _, _ => false
theorem vals_ints : ∀ {ls : List Int} {vs : List Value}, intsOf ls vs = true → Vals (ls.map V.int) vs
  | [], [], _ => .nil
  | l :: ls, .int x t :: vs, h => by
    have h : (decide (x = l) && intsOf ls vs) = true := h
    rw [Bool.and_eq_true, decide_eq_true_eq] at h
    exact .cons ⟨t, by rw [h.1]⟩ (vals_ints h.2)
  | [], _ :: _, h => by cases h
  | _ :: _, [], h => by cases h
  | _ :: _, .none :: _, h => by cases h
  | _ :: _, .bool _ :: _, h => by cases h
  | _ :: _, .str _ _ :: _, h => by cases h
  | _ :: _, .ref _ :: _, h => by cases h
theorem dfd_mk {K : PySem.W.Frag} {mg : Str → Option Value} {h : Heap} {x : Str} {st : Stmt} {f T : Addr} {oc tc : Value} {od an tod : Option Addr} {osl tsl : Array (Option Value)} {kV doc pm cdv ct : Value} {its : Array Value} {n : Nat} {ls : List Int}
    (X : K.In h) (G : h.Ns mainGlobals mg) (a : PySem.W.nsIn K mainGlobals x = some (some (.ref f)))
    (l : K.lookup f = some ⟨oc, od, .func (PySem.W.fnOf x x (defArgs st) (defBody st) (defScope st) (.ref T) kV doc pm an cdv ct), osl⟩) (c : PySem.W.codeIn K cdv x = true) (k : PySem.W.keepIn K (.ref f) = true)
    (lT : K.lookup T = some ⟨tc, tod, .seq its n, tsl⟩) (hs : intsOf ls its.toList = true) (hd : ls ≠ []) : DfD K mg x st (ls.map V.int) :=
  ⟨f, _, ⟨⟨oc, od, _, kV, doc, pm, an, cdv, ct, osl, rfl, l, c, .inr ⟨fun e => hd (List.map_eq_nil_iff.mp e), T, _, its.toList, n, rfl, lT, rfl, vals_ints hs⟩, .inl rfl⟩, k⟩, PySem.W.mg_of X G a⟩
end DJ
namespace T
open PySem PySem.Spec PyProof.Rows L2 DJ
/-! ### figures -/
def dig : Nat → Nat → List Nat
  | 0, _ => []
  | k + 1, m => dig k (m / 10) ++ [48 + m % 10]
theorem dig_len : ∀ k m, (dig k m).length = k
  | 0, _ => rfl
  | k + 1, m => by rw [dig, List.length_append, dig_len k]; rfl
theorem dig_mod : ∀ k m, dig k (m % 10 ^ k) = dig k m
  | 0, _ => rfl
  | k + 1, m => by
    have e1 : m % 10 ^ (k + 1) / 10 = m / 10 % 10 ^ k := by
      rw [Nat.pow_succ, Nat.mul_comm, Nat.mod_mul_right_div_self]
    have e2 : m % 10 ^ (k + 1) % 10 = m % 10 := Nat.mod_mod_of_dvd m (by rw [Nat.pow_succ]; exact Nat.dvd_mul_left 10 _)
    rw [dig, e1, e2, dig_mod k]
    rfl
theorem numL_dig : ∀ k n, 10 ^ k ≤ n → TL.numL n = TL.numL (n / 10 ^ k) ++ dig k n
  | 0, n, _ => by rw [Nat.pow_zero, Nat.div_one, dig, List.append_nil]
  | k + 1, n, h => by
    have h10 : 10 ≤ n := by
      have : 10 ^ 1 ≤ 10 ^ (k + 1) := Nat.pow_le_pow_right (by decide) (by omega)
      omega
    have hk : 10 ^ k ≤ n / 10 := by
      rw [Nat.le_div_iff_mul_le (by decide)]
      rw [Nat.pow_succ] at h
      exact h
    rw [TL.numL_step h10, numL_dig k (n / 10) hk, dig, List.append_assoc, Nat.div_div_eq_div_mul, Nat.pow_succ, Nat.mul_comm 10]
theorem dig_zero : ∀ k, dig k 0 = List.replicate k 48
  | 0 => rfl
  | k + 1 => by rw [dig, dig_zero k, List.replicate_succ']
theorem zfill_dig : ∀ k m, m < 10 ^ (k + 1) → zfillL (k + 1) (TL.numL m) = dig (k + 1) m
  | 0, m, h => by
    rw [TL.numL_lt (by simpa using h)]
    have : m % 10 = m := Nat.mod_eq_of_lt (by simpa using h)
    simp [zfillL, dig, this]
  | k + 1, m, h => by
    by_cases h10 : m < 10
    · rw [TL.numL_lt h10, dig, Nat.div_eq_of_lt h10, Nat.mod_eq_of_lt h10, dig_zero]
      rfl
    · have hk : m / 10 < 10 ^ (k + 1) := by
        rw [Nat.div_lt_iff_lt_mul (by decide), ← Nat.pow_succ]
        exact h
      rw [TL.numL_step (by omega), dig, ← zfill_dig k (m / 10) hk]
      unfold zfillL
      rw [List.length_append, List.length_singleton, ← List.append_assoc, Nat.add_sub_add_right]
def E60 : Nat := 10 ^ 60
theorem E60_pos : 0 < E60 := by decide
/-- what the loop leaves -/
def figW (n : Nat) (ps : List (List Nat)) : Nat × List (List Nat) :=
  if h : E60 ≤ n then figW (n / E60) (ps ++ [zfillL 60 (TL.numL (n % E60))]) else (n, ps)
termination_by n
decreasing_by exact Nat.div_lt_self (Nat.lt_of_lt_of_le E60_pos h) (by decide)
theorem figW_eq (n : Nat) (ps : List (List Nat)) : figW n ps = if E60 ≤ n then figW (n / E60) (ps ++ [zfillL 60 (TL.numL (n % E60))]) else (n, ps) := by
  rw [figW]
  split <;> rfl
theorem figW_is : ∀ (n : Nat) (ps : List (List Nat)), TL.numL (figW n ps).1 ++ (figW n ps).2.reverse.flatten = TL.numL n ++ ps.reverse.flatten ∧ (figW n ps).1 < E60 := by
  intro n
  induction n using Nat.strongRecOn with
  | ind n ih =>
    intro ps
    rw [figW_eq]
    by_cases h : E60 ≤ n
    · rw [if_pos h]
      have hlt : n / E60 < n := Nat.div_lt_self (Nat.lt_of_lt_of_le E60_pos h) (by decide)
      obtain ⟨i1, i2⟩ := ih (n / E60) hlt (ps ++ [zfillL 60 (TL.numL (n % E60))])
      refine ⟨?_, i2⟩
      rw [i1, List.reverse_append, List.reverse_singleton, List.singleton_append, List.flatten_cons, ← List.append_assoc]
      congr 1
      have e1 : zfillL 60 (TL.numL (n % E60)) = dig 60 (n % E60) := zfill_dig 59 _ (Nat.mod_lt _ E60_pos)
      have e2 : dig 60 (n % E60) = dig 60 n := dig_mod 60 n
      rw [e1, e2]
      exact (numL_dig 60 n h).symm
    · rw [if_neg h]
      exact ⟨rfl, by omega⟩
theorem figW_P : ∀ (n : Nat) (ps : List (List Nat)), (TL.numL n).length + 60 * ps.length ≤ 200000 → (∀ x ∈ ps, x.length = 60) → (TL.numL (figW n ps).1).length + 60 * (figW n ps).2.length ≤ 200000 ∧ ∀ x ∈ (figW n ps).2, x.length = 60 := by
  intro n
  induction n using Nat.strongRecOn with
  | ind n ih =>
    intro ps h1 h2
    rw [figW_eq]
    by_cases h : E60 ≤ n
    · rw [if_pos h]
      have hlt : n / E60 < n := Nat.div_lt_self (Nat.lt_of_lt_of_le E60_pos h) (by decide)
      have e1 : zfillL 60 (TL.numL (n % E60)) = dig 60 (n % E60) := zfill_dig 59 _ (Nat.mod_lt _ E60_pos)
      have hn : (TL.numL n).length = (TL.numL (n / E60)).length + 60 := by
        rw [numL_dig 60 n h, List.length_append, dig_len] <;> rfl
      refine ih (n / E60) hlt _ ?_ ?_
      · rw [List.length_append, List.length_singleton]; omega
      · intro x hx
        rcases List.mem_append.mp hx with hx | hx
        · exact h2 x hx
        · obtain rfl : x = _ := by simpa using hx
          rw [e1, dig_len]
    · rw [if_neg h]
      exact ⟨h1, h2⟩
theorem sum60 {α : Type} : ∀ xs : List α, (xs.map fun _ => 60).sum = xs.length * 60
  | [] => rfl
  | x :: xs => by rw [List.map_cons, List.sum_cons, sum60 xs, List.length_cons]; omega
theorem joinL_nil : ∀ xs : List (List Nat), TL.joinL [] xs = xs.flatten
  | [] => rfl
  | [x] => by simp [TL.joinL]
  | x :: y :: r => by
    have := joinL_nil (y :: r)
    simp only [TL.joinL, List.append_nil, List.flatten_cons] at this ⊢
    rw [this]
    simp
/-! ### what figures are worth -/
theorem val_app (a b : List Nat) : NumText.digitsVal (a ++ b) = NumText.digitsVal a * 10 ^ b.length + NumText.digitsVal b := by
  have gen : ∀ (b : List Nat) (x : Nat), b.foldl (fun acc c => acc * 10 + (c - 48)) x = x * 10 ^ b.length + b.foldl (fun acc c => acc * 10 + (c - 48)) 0 := by
    intro b
    induction b with
    | nil => intro x; simp
    | cons c b ih =>
      intro x
      rw [List.foldl_cons, List.foldl_cons, ih (x * 10 + (c - 48)), ih (0 * 10 + (c - 48)), List.length_cons, Nat.pow_succ]
      rw [Nat.zero_mul, Nat.zero_add, Nat.add_mul, Nat.mul_assoc, Nat.mul_comm 10 (10 ^ b.length), Nat.add_assoc]
  unfold NumText.digitsVal
  rw [List.foldl_append, gen b]
theorem val_lt' : ∀ (l : List Nat) (x : Nat), NumText.AllDigits l → l.foldl (fun acc c => acc * 10 + (c - 48)) x + 1 ≤ (x + 1) * 10 ^ l.length
  | [], x, _ => by simp
  | c :: l, x, h => by
    have hc := h.head
    have ih := val_lt' l (x * 10 + (c - 48)) h.tail
    rw [List.foldl_cons, List.length_cons, Nat.pow_succ]
    refine Nat.le_trans ih ?_
    rw [Nat.mul_comm (10 ^ l.length) 10, ← Nat.mul_assoc]
    exact Nat.mul_le_mul_right _ (by omega)
theorem val_lt (l : List Nat) (h : NumText.AllDigits l) : NumText.digitsVal l < 10 ^ l.length := by
  have := val_lt' l 0 h
  rw [Nat.zero_add, Nat.one_mul] at this
  exact this
/-- the value of the beginning and of sixty figures more -/
theorem val_step (l : List Nat) (a : Nat) (h : a + 60 ≤ l.length) : NumText.digitsVal (l.take (a + 60)) = NumText.digitsVal (l.take a) * E60 + NumText.digitsVal ((l.drop a).take 60) := by
  rw [List.take_add, val_app]
  have : ((l.drop a).take 60).length = 60 := by rw [List.length_take, List.length_drop]; omega
  rw [this] <;> rfl
theorem all_dig {l : List Nat} (h : NumText.AllDigits l) : l.all (fun c => decide (48 ≤ c) && decide (c ≤ 57)) = true := by
  rw [List.all_eq_true]
  intro c hc
  have := h c hc
  rw [Bool.and_eq_true, decide_eq_true_eq, decide_eq_true_eq]
  exact this
theorem take_dig {l : List Nat} (h : NumText.AllDigits l) (n : Nat) : NumText.AllDigits (l.take n) := fun c hc => h c (List.mem_of_mem_take hc)
theorem drop_dig {l : List Nat} (h : NumText.AllDigits l) (n : Nat) : NumText.AllDigits (l.drop n) := fun c hc => h c (List.mem_of_mem_drop hc)
theorem rs60 (n : Nat) : Builtin.Range.rangeSize ((n - n / 60 * 60 : Nat) : Int) (n : Int) 60 = ((n / 60 : Nat) : Int) := by
  unfold Builtin.Range.rangeSize
  rw [if_pos (by decide)]
  by_cases e : n / 60 = 0
  · rw [if_neg (by omega)]
    omega
  · rw [if_pos (by omega)]
    omega
theorem fitsL {i : Int} (h1 : -1000000 ≤ i) (h2 : i ≤ 1000000) : Builtin.Range.rangeFitsLong i = true := by
  unfold Builtin.Range.rangeFitsLong
  rw [Bool.and_eq_true]
  exact ⟨decide_eq_true (by omega), decide_eq_true (by omega)⟩
theorem rg60 {n : Nat} (h : n ≤ 100000) : RgC ((n - n / 60 * 60 : Nat) : Int) (n : Int) 60 (n / 60) := by
  refine ⟨by decide, by decide, ?_, ?_⟩
  · have e : Builtin.Range.rangeSize ((n - n / 60 * 60 : Nat) : Int) (n : Int) 60 = ((n / 60 : Nat) : Int) := rs60 n
    unfold Builtin.Range.small
    rw [e, fitsL (by omega) (by omega), fitsL (by omega) (by omega), fitsL (by omega) (by omega), fitsL (by omega) (by omega), if_pos (by decide), fitsL (by omega) (by omega)]
    rw [Bool.or_true] <;> rfl
  · exact rs60 n
/-! ### parts, one sign for another -/
theorem par_len (S : List Nat) : ∀ (l acc p q : List Nat), TL.par S acc l = some (p, q) → p.length + q.length ≤ acc.length + l.length
  | [], _, _, _, h => by cases h
  | c :: r, acc, p, q, h => by
    unfold TL.par at h
    split at h
    · cases h
      rw [List.length_drop]
      omega
    · have := par_len S r (acc ++ [c]) p q h
      rw [List.length_append, List.length_singleton] at this
      rw [List.length_cons]
      omega
theorem part_len (b a : List Nat) : (partL b a).1.length + (partL b a).2.2.length ≤ a.length := by
  unfold partL
  split
  · rename_i p q h
    have := par_len b a [] p q h
    simpa using this
  · simp
theorem repl_one (c d : Nat) : ∀ l : List Nat, StrLaws.replL [c] [d] l = l.map fun x => if x = c then d else x
  | [] => StrLaws.replL_nil
  | x :: r => by
    by_cases h : x = c
    · subst h
      rw [StrLaws.replL_hit (by simp) (by simp), List.map_cons, if_pos rfl]
      show [d] ++ StrLaws.replL [x] [d] r = _
      rw [repl_one x d r] <;> rfl
    · rw [StrLaws.replL_miss (by simpa using h), List.map_cons, if_neg h, repl_one c d r]
theorem numL_len_le (n k : Nat) (hk : 0 < k) (h : n < 10 ^ k) : (TL.numL n).length ≤ k := TL.numL_len hk h
end T
namespace T
open PySem PySem.Spec PyProof.Rows L2 DJ
def topS (i : Nat) : Stmt := PySem.Challenge.pw_anchorpages_k25_texts_of_literal_scalars.main.body.getD i (.Pass ⟨0, 0, 0, 0⟩)
/-! ### the program: what fits -/
abbrev s_is_foreign : Stmt := topS 8
abbrev N_is_foreign : List Str := ["sign"]
theorem sc_is_foreign : FnScope N_is_foreign ["sign"] (defScope s_is_foreign) := ⟨rfl, rfl, rfl, by decide +kernel, rfl, by decide +kernel, by decide +kernel⟩
abbrev s_is_sign : Stmt := topS 9
abbrev N_is_sign : List Str := ["sign"]
theorem sc_is_sign : FnScope N_is_sign ["sign"] (defScope s_is_sign) := ⟨rfl, rfl, rfl, by decide +kernel, rfl, by decide +kernel, by decide +kernel⟩
abbrev s_is_safe : Stmt := topS 10
abbrev N_is_safe : List Str := ["sign", "inside"]
theorem sc_is_safe : FnScope N_is_safe ["sign", "inside"] (defScope s_is_safe) := ⟨rfl, rfl, rfl, by decide +kernel, rfl, by decide +kernel, by decide +kernel⟩
abbrev s_begins_plain : Stmt := topS 23
abbrev N_begins_plain : List Str := ["text", "place", "inside", "sign"]
theorem sc_begins_plain : FnScope N_begins_plain ["text", "place", "inside"] (defScope s_begins_plain) := ⟨rfl, rfl, rfl, by decide +kernel, rfl, by decide +kernel, by decide +kernel⟩
abbrev s_check : Stmt := topS 31
abbrev N_check : List Str := ["holds", "part"]
theorem sc_check : FnScope N_check ["holds", "part"] (defScope s_check) := ⟨rfl, rfl, rfl, by decide +kernel, rfl, by decide +kernel, by decide +kernel⟩
abbrev s_check_style : Stmt := topS 32
abbrev N_check_style : List Str := ["style", "context"]
theorem sc_check_style : FnScope N_check_style ["style", "context"] (defScope s_check_style) := ⟨rfl, rfl, rfl, by decide +kernel, rfl, by decide +kernel, by decide +kernel⟩
abbrev s_is_text : Stmt := topS 34
abbrev N_is_text : List Str := ["thing", "sign"]
theorem sc_is_text : FnScope N_is_text ["thing"] (defScope s_is_text) := ⟨rfl, rfl, rfl, by decide +kernel, rfl, by decide +kernel, by decide +kernel⟩
abbrev s_is_value : Stmt := topS 35
abbrev N_is_value : List Str := ["thing"]
theorem sc_is_value : FnScope N_is_value ["thing"] (defScope s_is_value) := ⟨rfl, rfl, rfl, by decide +kernel, rfl, by decide +kernel, by decide +kernel⟩
abbrev s_is_word : Stmt := topS 36
abbrev N_is_word : List Str := ["thing", "words"]
theorem sc_is_word : FnScope N_is_word ["thing", "words"] (defScope s_is_word) := ⟨rfl, rfl, rfl, by decide +kernel, rfl, by decide +kernel, by decide +kernel⟩
abbrev s_has_text : Stmt := topS 38
abbrev N_has_text : List Str := ["value", "style", "context"]
theorem sc_has_text : FnScope N_has_text ["value", "style", "context"] (defScope s_has_text) := ⟨rfl, rfl, rfl, by decide +kernel, rfl, by decide +kernel, by decide +kernel⟩
abbrev s_has_white_beside_feed : Stmt := topS 39
abbrev N_has_white_beside_feed : List Str := ["value", "pair"]
theorem sc_has_white_beside_feed : FnScope N_has_white_beside_feed ["value"] (defScope s_has_white_beside_feed) := ⟨rfl, rfl, rfl, by decide +kernel, rfl, by decide +kernel, by decide +kernel⟩
abbrev s_fits_plain : Stmt := topS 40
abbrev N_fits_plain : List Str := ["value", "inside", "flat", "text", "place", "sign"]
theorem sc_fits_plain : FnScope N_fits_plain ["value", "inside", "flat"] (defScope s_fits_plain) := ⟨rfl, rfl, rfl, by decide +kernel, rfl, by decide +kernel, by decide +kernel⟩
abbrev BRK : List Nat := [44, 91, 93, 123, 125]
abbrev NF : List Nat := [44, 91, 93, 123, 125, 35, 38, 42, 33, 124, 62, 39, 34, 64, 96]
abbrev STYS : List (List Nat) := [[112, 108, 97, 105, 110], [115, 105, 110, 103, 108, 101], [100, 111, 117, 98, 108, 101], [108, 105, 116, 101, 114, 97, 108], [102, 111, 108, 100, 101, 100]]
abbrev CTXS : List (List Nat) := [[98, 108, 111, 99, 107], [107, 101, 121], [102, 108, 111, 119], [112, 97, 105, 114]]
abbrev INS : List (List Nat) := [[102, 108, 111, 119], [112, 97, 105, 114]]
abbrev FLT : List (List Nat) := [[107, 101, 121], [112, 97, 105, 114]]
abbrev WBF : List (List Nat) := [[32, 10], [10, 32], [9, 10], [10, 9]]
def goodC (c : Nat) : Bool := (decide (32 ≤ c) && decide (c ≤ 126)) || decide (c = 9) || decide (c = 10)
def signL (l : List Nat) : Bool := !decide (l < [33]) && !decide ([126] < l)
def safeL (l : List Nat) (ins : Bool) : Bool := signL l && !(ins && sub l BRK)
def beginsL (l : List Nat) (ins : Bool) : Bool := if l.take 1 ∈ [[45], [63], [58]] then safeL ((l.drop 1).take 1) ins else signL (l.take 1) && !sub (l.take 1) NF
def wbfL (l : List Nat) : Bool := (WBF.map fun p => sub p l).any id
def badAt (l : List Nat) (ins : Bool) (p : Nat × Nat) : Bool := (decide (p.2 = 58) && !safeL ((l.drop (p.1 + 1)).take 1) ins) || ((decide (p.2 = 35) && sub [l.getD (p.1 - 1) 0] [32, 10]) || (ins && sub [p.2] BRK))
def plainL (v : List Nat) (ins flat : Bool) : Bool :=
  if (decide (v = []) || (!decide (v = stripL [32, 10] v) || sub [9] v)) = true then false
  else if (wbfL v || (flat && sub [10] v)) = true then false
  else if (!beginsL (v ++ if flat = true then [58] else []) ins) = true then false
  else !((plc 0 v).any (badAt (v ++ if flat = true then [58] else []) ins))
def hasL (v st cx : List Nat) : Bool :=
  if st = [112, 108, 97, 105, 110] then plainL v (decide (cx ∈ INS)) (decide (cx ∈ FLT))
  else if st = [115, 105, 110, 103, 108, 101] then !(wbfL v || (decide (cx ∈ FLT) && sub [10] v))
  else decide (st = [100, 111, 117, 98, 108, 101]) || decide (cx = [98, 108, 111, 99, 107])
theorem lt_one (a b : Nat) : decide (([a] : List Nat) < [b]) = decide (a < b) := by
  by_cases h : a < b
  · rw [decide_eq_true h, decide_eq_true (List.cons_lt_cons_iff.mpr (.inl h))]
  · rw [decide_eq_false h, decide_eq_false]
    intro z
    rcases List.cons_lt_cons_iff.mp z with z | ⟨_, z⟩
    · exact h z
    · exact absurd z (List.not_lt_nil _)
theorem one_eq (a b : Nat) : decide (([a] : List Nat) = [b]) = decide (a = b) := by
  by_cases h : a = b
  · subst h; simp
  · simp [h]
theorem good_no {c : Nat} (h : goodC c = true) : (!((!decide ([c] < [32]) && !decide ([126] < [c])) || (decide ([c] = [9]) || decide ([c] = [10])))) = false := by
  rw [lt_one, lt_one, one_eq, one_eq]
  unfold goodC at h
  simp only [Bool.or_eq_true, Bool.and_eq_true, decide_eq_true_eq] at h
  rcases h with (h | h) | h
  · have h1 : decide (c < 32) = false := decide_eq_false (by omega)
    have h2 : decide (126 < c) = false := decide_eq_false (by omega)
    rw [h1, h2] <;> rfl
  · subst h; rfl
  · subst h; rfl
theorem good_asc {v : List Nat} (h : v.all goodC = true) : ∀ c ∈ v, c < 128 := fun c hc => by
  have := List.all_eq_true.mp h c hc
  unfold goodC at this
  simp only [Bool.or_eq_true, Bool.and_eq_true, decide_eq_true_eq] at this
  omega
theorem cut01 (l : List Nat) : cutL l (some 0) (some (0 + 1)) = l.take 1 := by
  show cutL l (some ((0 : Nat) : Int)) (some ((1 : Nat) : Int)) = _
  rw [cutL_nat] <;> rfl
theorem cut12 (l : List Nat) : cutL l (some (0 + 1)) (some (0 + 2)) = (l.drop 1).take 1 := by
  show cutL l (some ((1 : Nat) : Int)) (some ((2 : Nat) : Int)) = _
  rw [cutL_nat] <;> rfl
theorem cutP (l : List Nat) (p : Nat) : cutL l (some ((p : Int) + 1)) (some ((p : Int) + 2)) = (l.drop (p + 1)).take 1 := by
  show cutL l (some ((p + 1 : Nat) : Int)) (some ((p + 2 : Nat) : Int)) = _
  rw [cutL_nat]
  congr 1
  omega
section
variable {P : Program} {w : World} {K : PySem.W.Frag} {mg : Str → Option Value} {base : Heap}
def R_foreign : List Sl → List MO → Sl → List MO → Prop := fun ss M r M' => ∃ c : Nat, goodC c = true ∧ ss = [.d (.str [c])] ∧ M = [] ∧ r = .d (.bl false) ∧ M' = []
theorem cal_foreign {k : Nat} (D : Df K mg "is_foreign" s_is_foreign ["sign"]) (c_FEED : Gc K mg "FEED" (.str [10])) : Cal P w K mg base (k + 1) "is_foreign" (SpR K 1 R_foreign) [] := by
  obtain ⟨v_FEED, u_FEED, hm_FEED, hr_FEED, hd_FEED⟩ := c_FEED.ex
  refine cal_mk D sc_is_foreign rfl fun f cdv A outer s H E hr ss M r M' h => ?_
  obtain ⟨c, hc, rfl, rfl, rfl, rfl⟩ := h
  refine ⟨_, [], (pss_one (ps_ret (pe_not (pe_or (pe_chain op_le_str op_le_str pe_str (pv 0) pe_str) (pe_or (pe_cmpR op_eq (pv 0) pe_str (nomark _)) (pe_one (pe_cmpR op_eq (pv 0) (pe_glob (by rfl) hm_FEED hr_FEED) (nomark _)))))))), ?_, Nat.le_refl _, fun _ h => nomatch h⟩
  exact es_retD (ev_notV (ev_orV (ev_chain (ev_str [32]) (ev_var rfl) ro_leS (fun _ => ev_str [126]) (fun _ => ro_leS) (fun _ => rfl)) (fun _ => ev_orV (ev_op (ev_var rfl) (ev_str [9]) ro_eqS) (fun _ => ev_op (ev_var rfl) (ev_c hd_FEED) ro_eqS) (fun _ => rfl)) (fun _ => rfl))) (by rw [good_no hc])
def R_sign : List Sl → List MO → Sl → List MO → Prop := fun ss M r M' => ∃ l : List Nat, ss = [.d (.str l)] ∧ M = [] ∧ r = .d (.bl (signL l)) ∧ M' = []
theorem cal_sign {k : Nat} (D : Df K mg "is_sign" s_is_sign ["sign"]) : Cal P w K mg base (k + 1) "is_sign" (SpR K 1 R_sign) [] := by
  refine cal_mk D sc_is_sign rfl fun f cdv A outer s H E hr ss M r M' h => ?_
  obtain ⟨l, rfl, rfl, rfl, rfl⟩ := h
  refine ⟨_, [], (pss_one (ps_ret (pe_chain op_le_str op_le_str pe_str (pv 0) pe_str))), ?_, Nat.le_refl _, fun _ h => nomatch h⟩
  exact es_retD (ev_chain (ev_str [33]) (ev_var rfl) ro_leS (fun _ => ev_str [126]) (fun _ => ro_leS) (fun _ => rfl)) rfl
def R_safe : List Sl → List MO → Sl → List MO → Prop := fun ss M r M' => ∃ (l : List Nat) (i : Bool), ss = [.d (.str l), .d (.bl i)] ∧ M = [] ∧ r = .d (.bl (safeL l i)) ∧ M' = []
theorem cal_safe {k : Nat} (D : Df K mg "is_safe" s_is_safe ["sign", "inside"]) (c_BRACKETS : Gc K mg "BRACKETS" (.str BRK)) (f_is_sign : Cal P w K mg base (k + 1) "is_sign" (SpR K 1 R_sign) []) : Cal P w K mg base (k + 2) "is_safe" (SpR K 2 R_safe) [] := by
  obtain ⟨v_BRACKETS, u_BRACKETS, hm_BRACKETS, hr_BRACKETS, hd_BRACKETS⟩ := c_BRACKETS.ex
  refine cal_mk D sc_is_safe rfl fun f cdv A outer s H E hr ss M r M' h => ?_
  obtain ⟨l, i, rfl, rfl, rfl, rfl⟩ := h
  refine ⟨_, [], (pss_one (ps_ret (pe_and (pe_c f_is_sign hr (by omega) (by rfl) (pa_cons (pv 0) pa_nil)) (pe_one (pe_not (pe_and (pv 1) (pe_one (pe_cmpR op_in_str (pv 0) (pe_glob (by rfl) hm_BRACKETS hr_BRACKETS) (by rfl))))))))), ?_, Nat.le_refl _, fun _ h => nomatch h⟩
  exact es_retD (ev_andV (ev_call0 (ds := [.str l]) (es := []) (z := .bl (signL l)) (ea_cons (ev_var rfl) ea_nil) ⟨l, rfl, rfl, rfl, rfl⟩ rfl (fun _ => rfl)) (fun _ => ev_notV (ev_andV (ev_var rfl) (fun _ => ev_op (ev_var rfl) (ev_c hd_BRACKETS) ro_inS) (fun _ => rfl))) (fun _ => rfl)) rfl
theorem R_safeI (l : List Nat) (i : Bool) : R_safe ([Dt.str l, .bl i].map Sl.d) [] (.d (.bl (safeL l i))) [] := ⟨l, i, rfl, rfl, rfl, rfl⟩
def R_begins : List Sl → List MO → Sl → List MO → Prop := fun ss M r M' => ∃ (l : List Nat) (i : Bool), l.length ≤ 100000 ∧ ss = [.d (.str l), .d (.int 0), .d (.bl i)] ∧ M = [] ∧ r = .d (.bl (beginsL l i)) ∧ M' = []
theorem cal_begins {k : Nat} (D : Df K mg "begins_plain" s_begins_plain ["text", "place", "inside"]) (c_NOT_FIRST : Gc K mg "NOT_FIRST" (.str NF)) (f_is_sign : Cal P w K mg base (k + 1) "is_sign" (SpR K 1 R_sign) []) (f_is_safe : Cal P w K mg base (k + 2) "is_safe" (SpR K 2 R_safe) []) : Cal P w K mg base (k + 3) "begins_plain" (SpR K 3 R_begins) [] := by
  obtain ⟨v_NOT_FIRST, u_NOT_FIRST, hm_NOT_FIRST, hr_NOT_FIRST, hd_NOT_FIRST⟩ := c_NOT_FIRST.ex
  refine cal_mk (k := k + 2) D sc_begins_plain rfl fun f cdv A outer s H E hr ss M r M' h => ?_
  obtain ⟨l, i, hl, rfl, rfl, rfl, rfl⟩ := h
  refine ⟨_, [], (pss_cons (ps_asg (pe_slice sl_str (pv 0) (po_some (pv 1)) (po_some (pe_op op_add (pv 1) pe_int))) (pg_name (i := 3) sc_begins_plain.nd rfl (by first | exact .inl rfl | exact .inr rfl))) (pss_cons (ps_if (pt_cmpR op_in_seq (pv 3) (pe_tup (pa_cons pe_str (pa_cons pe_str (pa_cons pe_str pa_nil)))) (by rfl)) (pss_one (ps_ret (pe_c f_is_safe hr (by omega) (by rfl) (pa_cons (pe_slice sl_str (pv 0) (po_some (pe_op op_add (pv 1) pe_int)) (po_some (pe_op op_add (pv 1) pe_int))) (pa_cons (pv 2) pa_nil))))) pss_nil) (pss_one (ps_ret (pe_and (pe_c f_is_sign hr (by omega) (by rfl) (pa_cons (pv 3) pa_nil)) (pe_one (pe_cmpR op_notIn_str (pv 3) (pe_glob (by rfl) hm_NOT_FIRST hr_NOT_FIRST) (by rfl)))))))), ?_, Nat.le_refl _, fun _ h => nomatch h⟩
  refine es_seq (es_asg (ev_isD (ev_slS (ev_var rfl) (eo_some (ev_var rfl)) (eo_some (ev_op (ev_var rfl) ev_int ro_add)) (by omega)) (by rw [cut01]))) ?_
  refine es_nG (G' := [_, _, _, _]) rfl ?_
  refine es_guard (et_test (ev_op (ev_var rfl) (ev_tup (xs := [[45], [63], [58]].map Dt.str) (ea_cons (ev_str _) (ea_cons (ev_str _) (ea_cons (ev_str _) ea_nil))) (show 3 ≤ 1000 by decide)) ro_inT)) (fun h => ?_) (fun h => ?_)
  · refine es_retD (ev_call0 (ds := [.str ((l.drop 1).take 1), .bl i]) (es := []) (z := .bl (safeL ((l.drop 1).take 1) i)) (ea_cons (ev_isD (ev_slS (ev_var rfl) (eo_some (ev_op (ev_var rfl) ev_int ro_add)) (eo_some (ev_op (ev_var rfl) ev_int ro_add)) (by omega)) (by rw [cut12])) (ea_cons (ev_var rfl) ea_nil)) (R_safeI _ _) rfl (fun _ => rfl)) ?_
    unfold beginsL
    rw [if_pos (of_decide_eq_true h)]
  · refine es_retD (ev_andV (ev_call0 (ds := [.str (l.take 1)]) (es := []) (z := .bl (signL (l.take 1))) (ea_cons (ev_var rfl) ea_nil) ⟨_, rfl, rfl, rfl, rfl⟩ rfl (fun _ => rfl)) (fun _ => ev_op (ev_var rfl) (ev_c hd_NOT_FIRST) ro_ninS) (fun _ => rfl)) ?_
    unfold beginsL
    rw [if_neg (of_decide_eq_false h)]
def R_check : List Sl → List MO → Sl → List MO → Prop := fun ss M r M' => ∃ l : List Nat, ss = [.d (.bl true), .d (.str l)] ∧ M = [] ∧ r = .d .non ∧ M' = []
theorem cal_check {k : Nat} (D : Df K mg "check" s_check ["holds", "part"]) : Cal P w K mg base (k + 1) "check" (SpR K 2 R_check) [] := by
  refine cal_mkN D sc_check rfl fun f cdv A outer s H E hr ss M r M' h => ?_
  obtain ⟨l, rfl, rfl, rfl, rfl⟩ := h
  refine ⟨_, [], [some (.d (.bl true)), some (.d (.str l))], (pss_one (ps_if (pt_not (pt_val (pv 0))) pss_never pss_nil)), ?_, Nat.le_refl _, rfl⟩
  exact es_no (et_not (et_B (ev_var rfl))) rfl es_next
def R_word : List Sl → List MO → Sl → List MO → Prop := fun ss M r M' => ∃ (l : List Nat) (ws : List (List Nat)), ss = [.d (.str l), .d (.tup (ws.map Dt.str))] ∧ M = [] ∧ r = .d (.bl (decide (l ∈ ws))) ∧ M' = []
theorem ev_strTy {G : List (Option Sl)} {M : List MO} : EvE K (tC (.ty "str")) G M (.d tyStr) M := ev_ty
theorem cal_word {k : Nat} (D : Df K mg "is_word" s_is_word ["thing", "words"]) (m_isinstance : mg "isinstance" = none) (m_str : mg "str" = none) : Cal P w K mg base (k + 1) "is_word" (SpR K 2 R_word) [] := by
  refine cal_mk D sc_is_word rfl fun f cdv A outer s H E hr ss M r M' h => ?_
  obtain ⟨l, ws, rfl, rfl, rfl, rfl⟩ := h
  refine ⟨_, [], (pss_one (ps_ret (pe_and (pe_callB call_isi (by rfl) m_isinstance (by decide +kernel) (pa_cons (pv 0) (pa_cons (pe_bltn (v := .ty "str") (u := .type "str") (by rfl) m_str (by decide +kernel) rfl) pa_nil))) (pe_one (pe_cmpR op_in_seq (pv 0) (pv 1) (by rfl)))))), ?_, Nat.le_refl _, fun _ h => nomatch h⟩
  exact es_retD (ev_andV (a := true) (ev_cb (xs := [.str l, tyStr]) (ea_cons (ev_var rfl) (ea_cons ev_strTy ea_nil)) (rc_isStr (.str l))) (fun _ => ev_op (ev_var rfl) (ev_var rfl) ro_inT) (fun h => nomatch h)) rfl
def R_style : List Sl → List MO → Sl → List MO → Prop := fun ss M r M' => ∃ st cx : List Nat, st ∈ STYS ∧ cx ∈ CTXS ∧ ss = [.d (.str st), .d (.str cx)] ∧ M = [] ∧ r = .d .non ∧ M' = []
theorem cal_style {k : Nat} (D : Df K mg "check_style" s_check_style ["style", "context"]) (c_STYLES : Gc K mg "STYLES" (.tup (STYS.map Dt.str))) (c_CONTEXTS : Gc K mg "CONTEXTS" (.tup (CTXS.map Dt.str))) (f_check : Cal P w K mg base (k + 1) "check" (SpR K 2 R_check) []) (f_is_word : Cal P w K mg base (k + 1) "is_word" (SpR K 2 R_word) []) : Cal P w K mg base (k + 2) "check_style" (SpR K 2 R_style) [] := by
  obtain ⟨v_STYLES, u_STYLES, hm_STYLES, hr_STYLES, hd_STYLES⟩ := c_STYLES.ex
  obtain ⟨v_CONTEXTS, u_CONTEXTS, hm_CONTEXTS, hr_CONTEXTS, hd_CONTEXTS⟩ := c_CONTEXTS.ex
  refine cal_mkN D sc_check_style rfl fun f cdv A outer s H E hr ss M r M' h => ?_
  obtain ⟨st, cx, h1, h2, rfl, rfl, rfl, rfl⟩ := h
  refine ⟨_, [], [some (.d (.str st)), some (.d (.str cx))], (pss_cons (ps_expr (pe_c f_check hr (by omega) (by rfl) (pa_cons (pe_c f_is_word hr (by omega) (by rfl) (pa_cons (pv 0) (pa_cons (pe_glob (by rfl) hm_STYLES hr_STYLES) pa_nil))) (pa_cons pe_str pa_nil)))) (pss_one (ps_expr (pe_c f_check hr (by omega) (by rfl) (pa_cons (pe_c f_is_word hr (by omega) (by rfl) (pa_cons (pv 1) (pa_cons (pe_glob (by rfl) hm_CONTEXTS hr_CONTEXTS) pa_nil))) (pa_cons pe_str pa_nil)))))), ?_, Nat.le_refl _, rfl⟩
  refine es_seq (es_drop (ev_call0 (ds := [.bl true, .str [115, 116, 121, 108, 101]]) (es := []) (z := .non) (ea_cons (ev_isD (ev_call0 (ds := [.str st, .tup (STYS.map Dt.str)]) (es := []) (z := .bl (decide (st ∈ STYS))) (ea_cons (ev_var rfl) (ea_cons (ev_c hd_STYLES) ea_nil)) ⟨st, STYS, rfl, rfl, rfl, rfl⟩ rfl (fun _ => rfl)) (by rw [decide_eq_true h1])) (ea_cons (ev_str _) ea_nil)) ⟨_, rfl, rfl, rfl, rfl⟩ rfl (fun _ => rfl))) ?_
  exact es_drop (ev_call0 (ds := [.bl true, .str [99, 111, 110, 116, 101, 120, 116]]) (es := []) (z := .non) (ea_cons (ev_isD (ev_call0 (ds := [.str cx, .tup (CTXS.map Dt.str)]) (es := []) (z := .bl (decide (cx ∈ CTXS))) (ea_cons (ev_var rfl) (ea_cons (ev_c hd_CONTEXTS) ea_nil)) ⟨cx, CTXS, rfl, rfl, rfl, rfl⟩ rfl (fun _ => rfl)) (by rw [decide_eq_true h2])) (ea_cons (ev_str _) ea_nil)) ⟨_, rfl, rfl, rfl, rfl⟩ rfl (fun _ => rfl))
def R_text : List Sl → List MO → Sl → List MO → Prop := fun ss M r M' => ∃ v : List Nat, v.length ≤ 3000 ∧ v.all goodC = true ∧ ss = [.d (.str v)] ∧ M = [] ∧ r = .d (.bl true) ∧ M' = []
theorem any_no {α : Type} : ∀ xs : List α, ((xs.map fun _ => false).any id) = false
  | [] => rfl
  | x :: xs => by rw [List.map_cons, List.any_cons, any_no xs] <;> rfl
theorem cal_text {k : Nat} (D : Df K mg "is_text" s_is_text ["thing"]) (f_is_foreign : Cal P w K mg base (k + 1) "is_foreign" (SpR K 1 R_foreign) []) (m_isinstance : mg "isinstance" = none) (m_str : mg "str" = none) (m_any : mg "any" = none) : Cal P w K mg base (k + 2) "is_text" (SpR K 1 R_text) [] := by
  refine cal_mk D sc_is_text rfl fun f cdv A outer s H E hr ss M r M' h => ?_
  obtain ⟨v, hl, hg, rfl, rfl, rfl, rfl⟩ := h
  refine ⟨_, [], (pss_one (ps_ret (pe_and (pe_callB call_isi (by rfl) m_isinstance (by decide +kernel) (pa_cons (pv 0) (pa_cons (pe_bltn (v := .ty "str") (u := .type "str") (by rfl) m_str (by decide +kernel) rfl) pa_nil))) (pe_one (pe_not (pe_callB (cr_any rfl) (by rfl) m_any (by decide +kernel) (pa_cons (pe_lc (own := [("sign", 1)]) (g := (gName 1)) (by rfl) sc_is_text.nd (pi_str (pv 0)) (blkOk_by (own := [("sign", 1)]) (N := N_is_text) (sc := defScope s_is_text) (by decide +kernel)) (fun _ _ _ _ _ => pg_name (i := 1) sc_is_text.nd rfl (by first | exact .inl rfl | exact .inr rfl)) (fun _ _ _ _ _ => pts_nil) (fun _ _ _ _ _ => (pe_c f_is_foreign hr (by omega) (by rfl) (pa_cons (pv 1) pa_nil)))) pa_nil))))))), ?_, Nat.le_refl _, fun _ h => nomatch h⟩
  refine es_retD (ev_andV (a := true) (c := !((v.map fun _ => false).any id)) (ev_cb (xs := [.str v, tyStr]) (ea_cons (ev_var rfl) (ea_cons ev_strTy ea_nil)) (rc_isStr (.str v))) (fun _ => ev_notV (ev_cb (xs := [.lst ((v.map fun _ => false).map Dt.bl)]) (ea_cons (ev_isD (ev_lcM v (fun c => .str [c]) (fun _ => .bl false) (ei_str (ev_var rfl)) (by omega) (hw_name (by decide)) fun c hc => ⟨_, eg_name, ev_call0 (ds := [.str [c]]) (es := []) (z := .bl false) (ea_cons (ev_var rfl) ea_nil) ⟨c, List.all_eq_true.mp hg c hc, rfl, rfl, rfl, rfl⟩ rfl (fun _ => rfl)⟩) (by rw [List.map_map] <;> rfl)) ea_nil) rc_any)) (fun h => nomatch h)) ?_
  rw [any_no] <;> rfl
def R_value : List Sl → List MO → Sl → List MO → Prop := R_text
theorem cal_value {k : Nat} (D : Df K mg "is_value" s_is_value ["thing"]) (c_MOST_SIGNS : Gc K mg "MOST_SIGNS" (.int (3000 : Nat))) (f_is_text : Cal P w K mg base (k + 2) "is_text" (SpR K 1 R_text) []) (m_len : mg "len" = none) : Cal P w K mg base (k + 3) "is_value" (SpR K 1 R_value) [] := by
  obtain ⟨v_MOST_SIGNS, u_MOST_SIGNS, hm_MOST_SIGNS, hr_MOST_SIGNS, hd_MOST_SIGNS⟩ := c_MOST_SIGNS.ex
  refine cal_mk D sc_is_value rfl fun f cdv A outer s H E hr ss M r M' h => ?_
  obtain ⟨v, hl, hg, rfl, rfl, rfl, rfl⟩ := h
  refine ⟨_, [], (pss_one (ps_ret (pe_and (pe_c f_is_text hr (by omega) (by rfl) (pa_cons (pv 0) pa_nil)) (pe_one (pe_cmpR op_le (pe_callB call_len_str (by rfl) m_len PySem.boot_len (pa_cons (pv 0) pa_nil)) (pe_glob (by rfl) hm_MOST_SIGNS hr_MOST_SIGNS) (nomark _)))))), ?_, Nat.le_refl _, fun _ h => nomatch h⟩
  refine es_retD (ev_andV (a := true) (ev_call0 (ds := [.str v]) (es := []) (z := .bl true) (ea_cons (ev_var rfl) ea_nil) ⟨v, hl, hg, rfl, rfl, rfl, rfl⟩ rfl (fun _ => rfl)) (fun _ => ev_op (ev_cb (xs := [.str v]) (ea_cons (ev_var rfl) ea_nil) (rc_lenS (by omega))) (ev_c hd_MOST_SIGNS) ro_le) (fun h => nomatch h)) ?_
  rw [decide_eq_true (by omega)] <;> rfl
def R_white : List Sl → List MO → Sl → List MO → Prop := fun ss M r M' => ∃ v : List Nat, ss = [.d (.str v)] ∧ M = [] ∧ r = .d (.bl (wbfL v)) ∧ M' = []
theorem cal_white {k : Nat} (D : Df K mg "has_white_beside_feed" s_has_white_beside_feed ["value"]) (m_any : mg "any" = none) : Cal P w K mg base (k + 1) "has_white_beside_feed" (SpR K 1 R_white) [] := by
  refine cal_mk D sc_has_white_beside_feed rfl fun f cdv A outer s H E hr ss M r M' h => ?_
  obtain ⟨v, rfl, rfl, rfl, rfl⟩ := h
  refine ⟨_, [], (pss_one (ps_ret (pe_callB (cr_any rfl) (by rfl) m_any (by decide +kernel) (pa_cons (pe_lc (own := [("pair", 1)]) (g := (gName 1)) (by rfl) sc_has_white_beside_feed.nd (pi_tup (pe_tup (pa_cons pe_str (pa_cons pe_str (pa_cons pe_str (pa_cons pe_str pa_nil)))))) (blkOk_by (own := [("pair", 1)]) (N := N_has_white_beside_feed) (sc := defScope s_has_white_beside_feed) (by decide +kernel)) (fun _ _ _ _ _ => pg_name (i := 1) sc_has_white_beside_feed.nd rfl (by first | exact .inl rfl | exact .inr rfl)) (fun _ _ _ _ _ => pts_nil) (fun _ _ _ _ _ => (pe_cmpR op_in_str (pv 1) (pv 0) (by rfl)))) pa_nil)))), ?_, Nat.le_refl _, fun _ h => nomatch h⟩
  exact es_ret (ev_cb (xs := [.lst ((WBF.map fun p => sub p v).map Dt.bl)]) (ea_cons (ev_isD (ev_lcM WBF Dt.str (fun p => .bl (sub p v)) (ei_tup (xs := WBF.map Dt.str) (ev_tup (ea_cons (ev_str _) (ea_cons (ev_str _) (ea_cons (ev_str _) (ea_cons (ev_str _) ea_nil)))) (show 4 ≤ 1000 by decide))) (by decide) (hw_name (by decide)) fun p _ => ⟨_, eg_name, ev_op (ev_var rfl) (ev_var rfl) ro_inS⟩) rfl) ea_nil) rc_any)
end
end T
namespace T
open PySem PySem.Spec PyProof.Rows L2 DJ
theorem sub_nine (v : List Nat) : sub [9] v = decide (9 ∈ v) := sub_one 9 v
theorem begins_first {v : List Nat} {t : List Nat} {ins : Bool} (h : beginsL (v ++ t) ins = true) : v[0]? ≠ some 35 := by
  intro e
  cases v with
  | nil => cases e
  | cons a r =>
    have e : a = 35 := by simpa using e
    subst e
    have : beginsL (35 :: r ++ t) ins = false := by
      unfold beginsL
      have e1 : (35 :: r ++ t).take 1 = [35] := by simp
      rw [e1, if_neg (by decide)]
      decide
    rw [this] at h
    cases h
theorem getD_ix {l : List Nat} {i : Nat} (h : i < l.length) : l[i]? = some (l.getD i 0) := by
  rw [List.getD_eq_getElem?_getD, List.getElem?_eq_getElem h] <;> rfl
theorem any_find {α : Type} (p : α → Bool) : ∀ xs : List α, (xs.find? p = none → xs.any p = false) ∧ (∀ x, xs.find? p = some x → xs.any p = true)
  | [] => ⟨fun _ => rfl, fun x h => by cases h⟩
  | x :: xs => by
    obtain ⟨h1, h2⟩ := any_find p xs
    cases e : p x with
    | true => exact ⟨fun h => (by rw [List.find?_cons_of_pos e] at h; cases h), fun _ _ => (by rw [List.any_cons, e] <;> rfl)⟩
    | false =>
      have n : ¬ p x = true := by rw [e]; exact Bool.false_ne_true
      exact ⟨fun h => (by rw [List.find?_cons_of_neg n] at h; rw [List.any_cons, e, h1 h] <;> rfl), fun y h => (by rw [List.find?_cons_of_neg n] at h; rw [List.any_cons, e, h2 y h] <;> rfl)⟩
section
variable {P : Program} {w : World} {K : PySem.W.Frag} {mg : Str → Option Value} {base : Heap}
def R_plain : List Sl → List MO → Sl → List MO → Prop := fun ss M r M' => ∃ (v : List Nat) (ins flat : Bool), v.length ≤ 3000 ∧ ss = [.d (.str v), .d (.bl ins), .d (.bl flat)] ∧ M = [] ∧ r = .d (.bl (plainL v ins flat)) ∧ M' = []
theorem cal_plain (D : Df K mg "fits_plain" s_fits_plain ["value", "inside", "flat"]) (c_FEED : Gc K mg "FEED" (.str [10])) (c_BRACKETS : Gc K mg "BRACKETS" (.str BRK)) (f_has_white_beside_feed : Cal P w K mg base 1 "has_white_beside_feed" (SpR K 1 R_white) []) (f_begins_plain : Cal P w K mg base 3 "begins_plain" (SpR K 3 R_begins) []) (f_is_safe : Cal P w K mg base 2 "is_safe" (SpR K 2 R_safe) []) (m_enumerate : mg "enumerate" = none) : Cal P w K mg base 4 "fits_plain" (SpR K 3 R_plain) [] := by
  obtain ⟨v_FEED, u_FEED, hm_FEED, hr_FEED, hd_FEED⟩ := c_FEED.ex
  obtain ⟨v_BRACKETS, u_BRACKETS, hm_BRACKETS, hr_BRACKETS, hd_BRACKETS⟩ := c_BRACKETS.ex
  refine cal_mk (k := 3) D sc_fits_plain rfl fun f cdv A outer s H E hr ss M r M' h => ?_
  obtain ⟨v, ins, flat, hl, rfl, rfl, rfl, rfl⟩ := h
  refine ⟨_, [], (pss_cons (ps_if (PW.pt (pw_or (pt_cmpR op_eq (pv 0) pe_str (nomark _)) (pw_or (pt_cmpR op_ne (pv 0) (pe_m1 PySem.F.slot_str_strip PySem.F.type_str_strip mt_stripChars (pv 0) pe_str) (nomark _)) (pw_or1 (pt_cmpR op_in_str pe_str (pv 0) (by rfl)))))) (pss_one (ps_ret pe_bl)) pss_nil) (pss_cons (ps_if (PW.pt (pw_or (pt_val (pe_c f_has_white_beside_feed hr (by omega) (by rfl) (pa_cons (pv 0) pa_nil))) (pw_or1 (PW.pt (pw_and (pt_val (pv 2)) (pw_and1 (pt_cmpR op_in_str (pe_glob (by rfl) hm_FEED hr_FEED) (pv 0) (by rfl)))))))) (pss_one (ps_ret pe_bl)) pss_nil) (pss_cons (ps_asg (pe_op op_add_str (pv 0) (pe_ifExp (pt_val (pv 2)) pe_str pe_str)) (pg_name (i := 3) sc_fits_plain.nd rfl (by first | exact .inl rfl | exact .inr rfl))) (pss_cons (ps_if (pt_not (pt_val (pe_c f_begins_plain hr (by omega) (by rfl) (pa_cons (pv 3) (pa_cons pe_int (pa_cons (pv 1) pa_nil)))))) (pss_one (ps_ret pe_bl)) pss_nil) (pss_cons (ps_for PassesOwn.never rfl (pi_enumS (by rfl) m_enumerate (pa_cons (pv 0) pa_nil)) (pg_tup rfl (pgs_cons (pg_name (i := 4) sc_fits_plain.nd rfl (by first | exact .inl rfl | exact .inr rfl)) (pgs_cons (pg_name (i := 5) sc_fits_plain.nd rfl (by first | exact .inl rfl | exact .inr rfl)) pgs_nil))) (pss_cons (ps_if (PW.pt (pw_and (pt_cmpR op_eq (pv 5) pe_str (nomark _)) (pw_and1 (pt_not (pt_val (pe_c f_is_safe hr (by omega) (by rfl) (pa_cons (pe_slice sl_str (pv 3) (po_some (pe_op op_add (pv 4) pe_int)) (po_some (pe_op op_add (pv 4) pe_int))) (pa_cons (pv 1) pa_nil)))))))) (pss_one (ps_ret pe_bl)) pss_nil) (pss_cons (ps_if (PW.pt (pw_and (pt_cmpR op_eq (pv 5) pe_str (nomark _)) (pw_and1 (pt_cmpR op_in_str (pe_ix ix_str (pv 3) (pe_op op_sub (pv 4) pe_int) (fun _ _ => rfl)) pe_str (by rfl))))) (pss_one (ps_ret pe_bl)) pss_nil) (pss_one (ps_if (PW.pt (pw_and (pt_val (pv 1)) (pw_and1 (pt_cmpR op_in_str (pv 5) (pe_glob (by rfl) hm_BRACKETS hr_BRACKETS) (by rfl))))) (pss_one (ps_ret pe_bl)) pss_nil))))) (pss_one (ps_ret pe_bl))))))), ?_, Nat.le_refl _, fun _ h => nomatch h⟩
  refine es_guard (b := (decide (v = []) || (!decide (v = stripL [32, 10] v) || sub [9] v))) (et_or (et_test (ev_op (ev_var rfl) (ev_str []) ro_eqS)) (fun _ => et_or (et_test (ev_op (ev_var rfl) (ev_m1 (ev_var rfl) (ev_str [32, 10]) (rm_strip (by omega))) ro_neS)) (fun _ => et_test (ev_op (ev_str [9]) (ev_var rfl) ro_inS)) (fun _ => rfl)) (fun _ => rfl)) (fun h => es_retD ev_bl ?_) (fun h => ?_)
  · unfold plainL
    rw [if_pos h]
  have h0 : v ≠ [] := by
    intro e
    subst e
    cases h
  refine es_guard (b := (wbfL v || (flat && sub [10] v))) (et_or (et_B (ev_call0 (ds := [.str v]) (es := []) (z := .bl (wbfL v)) (ea_cons (ev_var rfl) ea_nil) ⟨v, rfl, rfl, rfl, rfl⟩ rfl (fun _ => rfl))) (fun _ => et_and (et_B (ev_var rfl)) (fun _ => et_test (ev_op (ev_c hd_FEED) (ev_var rfl) ro_inS)) (fun _ => rfl)) (fun _ => rfl)) (fun h2 => es_retD ev_bl ?_) (fun h2 => ?_)
  · unfold plainL
    rw [if_neg (by rw [h]; exact Bool.false_ne_true), if_pos h2]
  have ht : (if flat = true then [58] else ([] : List Nat)).length ≤ 1 := by split <;> decide
  refine es_seq (es_asg (ev_op (ev_var rfl) (ev_iteS (et_B (ev_var rfl)) (fun _ => ev_str [58]) (fun _ => ev_str [])) (ro_addS (by omega)))) ?_
  refine es_nG (G' := [_, _, _, _, _, _]) rfl ?_
  have hx : (v ++ if flat = true then [58] else []).length ≤ 3001 := by rw [List.length_append]; omega
  have e0 : plainL v ins flat = if (!beginsL (v ++ if flat = true then [58] else []) ins) = true then false else !((plc 0 v).any (badAt (v ++ if flat = true then [58] else []) ins)) := by
    unfold plainL
    rw [if_neg (by rw [h]; exact Bool.false_ne_true), if_neg (by rw [h2]; exact Bool.false_ne_true)]
  rw [e0]
  have hlt : ∀ i, i < v.length → i < (v ++ if flat = true then [58] else []).length := fun i hi => by rw [List.length_append]; omega
  have hb1 : beginsL (v ++ if flat = true then [58] else []) ins = true → v[0]? ≠ some 35 := begins_first
  generalize (v ++ if flat = true then [58] else []) = x at *
  refine es_guard (b := !beginsL x ins) (et_not (et_B (ev_call0 (ds := [.str x, .int 0, .bl ins]) (es := []) (z := .bl (beginsL x ins)) (ea_cons (ev_var rfl) (ea_cons ev_int (ea_cons (ev_var rfl) ea_nil))) ⟨x, ins, by omega, rfl, rfl, rfl, rfl⟩ rfl (fun _ => rfl)))) (fun h3 => es_retD ev_bl ?_) (fun h3 => ?_)
  · rw [if_pos h3]
  rw [if_neg (by rw [h3]; exact Bool.false_ne_true)]
  have hb := hb1 (by simpa using h3)
  have hz : ∀ p ∈ plc 0 v, p.2 = 35 → 1 ≤ p.1 ∧ p.1 - 1 < x.length := fun p hp e => by
    obtain ⟨i, e1, e2⟩ := plc_at hp
    have hi := (List.getElem?_eq_some_iff.mp e2).1
    have := hlt i hi
    rcases Nat.eq_zero_or_pos i with z | z
    · subst z; rw [e] at e2; exact absurd e2 hb
    · omega
  refine es_forFind (plc 0 v) plcD (badAt x ins) (fun _ => .d (.bl false)) (G0 := [some (.d (.str v)), some (.d (.bl ins)), some (.d (.bl flat)), some (.d (.str x)), none, none]) (ei_is (ei_enumS (ea_cons (ev_var rfl) ea_nil)) (plc_enum v 0)) (Lg.refl _) (fun p hp => ⟨_, eg_tup (egs_cons eg_name (egs_cons eg_name egs_nil)) rfl, ?_, ?_⟩) (fun p hp => ?_) (fun hn => ?_)
  rotate_left 2
  · rw [(any_find _ _).2 p hp] <;> rfl
  · rw [(any_find _ _).1 hn]
    exact es_ret ev_bl
  all_goals
    intro hq
    have t1 : EvT K _ [some (.d (.str v)), some (.d (.bl ins)), some (.d (.bl flat)), some (.d (.str x)), some (.d (.int (p.1 : Nat))), some (.d (.str [p.2]))] [] (decide (p.2 = 58) && !safeL ((x.drop (p.1 + 1)).take 1) ins) [] :=
      et_and (b := decide (p.2 = 58)) (et_is (et_test (ev_op (ev_var (i := 5) rfl) (ev_str [58]) ro_eqS)) (one_eq _ _)) (fun _ => et_not (et_B (ev_call0 (R := R_safe) (ds := [.str ((x.drop (p.1 + 1)).take 1), .bl ins]) (es := []) (dvs := []) (E := L2.E0) (n := 2) (z := .bl (safeL ((x.drop (p.1 + 1)).take 1) ins)) (ea_cons (ev_isD (ev_slS (ev_var (i := 3) rfl) (eo_some (ev_op (ev_var (i := 4) rfl) ev_int ro_add)) (eo_some (ev_op (ev_var (i := 4) rfl) ev_int ro_add)) (by omega)) (by rw [cutP])) (ea_cons (ev_var (i := 1) rfl) ea_nil)) (R_safeI _ _) rfl (fun _ => rfl)))) (fun _ => rfl)
    have t2 : EvT K _ [some (.d (.str v)), some (.d (.bl ins)), some (.d (.bl flat)), some (.d (.str x)), some (.d (.int (p.1 : Nat))), some (.d (.str [p.2]))] [] (decide (p.2 = 35) && sub [x.getD (p.1 - 1) 0] [32, 10]) [] :=
      et_and (b := decide (p.2 = 35)) (et_is (et_test (ev_op (ev_var (i := 5) rfl) (ev_str [35]) ro_eqS)) (one_eq _ _)) (fun e => et_test (ev_op (ev_op (ev_var (i := 3) rfl) (ev_op (ev_var (i := 4) rfl) ev_int ro_sub) (ro_ixS (c := x.getD (p.1 - 1) 0) (by omega) (by
        obtain ⟨q1, q2⟩ := hz p hp (of_decide_eq_true e)
        have e1 : ((p.1 : Nat) : Int) - 1 = ((p.1 - 1 : Nat) : Int) := by omega
        rw [e1, atI_nat q2, List.getD_eq_getElem?_getD, List.getElem?_eq_getElem q2] <;> rfl))) (ev_str [32, 10]) ro_inS)) (fun _ => rfl)
    have t3 : EvT K _ [some (.d (.str v)), some (.d (.bl ins)), some (.d (.bl flat)), some (.d (.str x)), some (.d (.int (p.1 : Nat))), some (.d (.str [p.2]))] [] (ins && sub [p.2] BRK) [] :=
      et_and (et_B (ev_var (i := 1) rfl)) (fun _ => et_test (ev_op (ev_var (i := 5) rfl) (ev_c hd_BRACKETS) ro_inS)) (fun _ => rfl)
    unfold badAt at hq
    generalize (decide (p.2 = 58) && !safeL ((x.drop (p.1 + 1)).take 1) ins) = b1 at *
    generalize (decide (p.2 = 35) && sub [x.getD (p.1 - 1) 0] [32, 10]) = b2 at *
    generalize (ins && sub [p.2] BRK) = b3 at *
  · refine es_guard t1 (fun _ => es_ret ev_bl) (fun e1 => es_guard t2 (fun _ => es_ret ev_bl) (fun e2 => es_yes t3 ?_ (es_ret ev_bl)))
    subst e1; subst e2
    simpa using hq
  · simp only [Bool.or_eq_false_iff] at hq
    obtain ⟨e1, e2, e3⟩ := hq
    subst e1; subst e2; subst e3
    exact es_nxw (es_pass t1 (es_pass t2 (es_no t3 rfl es_next))) (lg_cons (lg_cons (lg_cons (lg_cons (lg_cons (lg_cons lg_nil (.inr rfl)) (.inr rfl)) (.inl rfl)) (.inl rfl)) (.inl rfl)) (.inl rfl))
def R_has : List Sl → List MO → Sl → List MO → Prop := fun ss M r M' => ∃ v st cx : List Nat, v.length ≤ 3000 ∧ ss = [.d (.str v), .d (.str st), .d (.str cx)] ∧ M = [] ∧ r = .d (.bl (hasL v st cx)) ∧ M' = []
theorem cal_has (D : Df K mg "has_text" s_has_text ["value", "style", "context"]) (c_FEED : Gc K mg "FEED" (.str [10])) (c_INSIDE : Gc K mg "INSIDE" (.tup (INS.map Dt.str))) (c_FLAT : Gc K mg "FLAT" (.tup (FLT.map Dt.str))) (f_fits_plain : Cal P w K mg base 4 "fits_plain" (SpR K 3 R_plain) []) (f_has_white_beside_feed : Cal P w K mg base 1 "has_white_beside_feed" (SpR K 1 R_white) []) : Cal P w K mg base 5 "has_text" (SpR K 3 R_has) [] := by
  obtain ⟨v_FEED, u_FEED, hm_FEED, hr_FEED, hd_FEED⟩ := c_FEED.ex
  obtain ⟨v_INSIDE, u_INSIDE, hm_INSIDE, hr_INSIDE, hd_INSIDE⟩ := c_INSIDE.ex
  obtain ⟨v_FLAT, u_FLAT, hm_FLAT, hr_FLAT, hd_FLAT⟩ := c_FLAT.ex
  refine cal_mk (k := 4) D sc_has_text rfl fun f cdv A outer s H E hr ss M r M' h => ?_
  obtain ⟨v, st, cx, hl, rfl, rfl, rfl, rfl⟩ := h
  refine ⟨_, [], (pss_cons (ps_if (pt_cmpR op_eq (pv 1) pe_str (nomark _)) (pss_one (ps_ret (pe_c f_fits_plain hr (by omega) (by rfl) (pa_cons (pv 0) (pa_cons (pe_cmpR op_in_seq (pv 2) (pe_glob (by rfl) hm_INSIDE hr_INSIDE) (by rfl)) (pa_cons (pe_cmpR op_in_seq (pv 2) (pe_glob (by rfl) hm_FLAT hr_FLAT) (by rfl)) pa_nil)))))) pss_nil) (pss_cons (ps_if (pt_cmpR op_eq (pv 1) pe_str (nomark _)) (pss_one (ps_ret (pe_not (pe_or (pe_c f_has_white_beside_feed hr (by omega) (by rfl) (pa_cons (pv 0) pa_nil)) (pe_one (pe_and (pe_cmpR op_in_seq (pv 2) (pe_glob (by rfl) hm_FLAT hr_FLAT) (by rfl)) (pe_one (pe_cmpR op_in_str (pe_glob (by rfl) hm_FEED hr_FEED) (pv 0) (by rfl))))))))) pss_nil) (pss_one (ps_ret (pe_or (pe_cmpR op_eq (pv 1) pe_str (nomark _)) (pe_one (pe_cmpR op_eq (pv 2) pe_str (nomark _)))))))), ?_, Nat.le_refl _, fun _ h => nomatch h⟩
  refine es_guard (et_test (ev_op (ev_var rfl) (ev_str [112, 108, 97, 105, 110]) ro_eqS)) (fun h => es_retD (ev_call0 (ds := [.str v, .bl (decide (cx ∈ INS)), .bl (decide (cx ∈ FLT))]) (es := []) (z := .bl (plainL v (decide (cx ∈ INS)) (decide (cx ∈ FLT)))) (ea_cons (ev_var rfl) (ea_cons (ev_op (ev_var rfl) (ev_c hd_INSIDE) ro_inT) (ea_cons (ev_op (ev_var rfl) (ev_c hd_FLAT) ro_inT) ea_nil))) ⟨v, _, _, hl, rfl, rfl, rfl, rfl⟩ rfl (fun _ => rfl)) ?_) (fun h => ?_)
  · unfold hasL
    rw [if_pos (of_decide_eq_true h)]
  refine es_guard (et_test (ev_op (ev_var rfl) (ev_str [115, 105, 110, 103, 108, 101]) ro_eqS)) (fun h2 => es_retD (ev_notV (ev_orV (ev_call0 (ds := [.str v]) (es := []) (z := .bl (wbfL v)) (ea_cons (ev_var rfl) ea_nil) ⟨v, rfl, rfl, rfl, rfl⟩ rfl (fun _ => rfl)) (fun _ => ev_andV (ev_op (ev_var rfl) (ev_c hd_FLAT) ro_inT) (fun _ => ev_op (ev_c hd_FEED) (ev_var rfl) ro_inS) (fun _ => rfl)) (fun _ => rfl))) ?_) (fun h2 => es_retD (ev_orV (ev_op (ev_var rfl) (ev_str [100, 111, 117, 98, 108, 101]) ro_eqS) (fun _ => ev_op (ev_var rfl) (ev_str [98, 108, 111, 99, 107]) ro_eqS) (fun _ => rfl)) ?_)
  · unfold hasL
    rw [if_neg (of_decide_eq_false h), if_pos (of_decide_eq_true h2)]
  · unfold hasL
    rw [if_neg (of_decide_eq_false h), if_neg (of_decide_eq_false h2)]
end
end T
namespace T
open PySem PySem.Spec PyProof.Rows L2 DJ
/-! ### the draws of the laws of scalars -/
abbrev s__law_digit : Stmt := topS 44
abbrev N__law_digit : List Str := ["_law_state", "_law_base", "_law_mixed", "_law_found"]
theorem sc__law_digit : FnScope N__law_digit ["_law_state", "_law_base"] (defScope s__law_digit) := ⟨rfl, rfl, rfl, by decide +kernel, rfl, by decide +kernel, by decide +kernel⟩
abbrev s__law_one : Stmt := topS 45
abbrev N__law_one : List Str := ["_law_state", "_law_some"]
theorem sc__law_one : FnScope N__law_one ["_law_state", "_law_some"] (defScope s__law_one) := ⟨rfl, rfl, rfl, by decide +kernel, rfl, by decide +kernel, by decide +kernel⟩
abbrev s__law_value : Stmt := topS 46
abbrev N__law_value : List Str := ["_law_state", "_law_most", "_law_tame", "_law_wild", "_law_some", "_law_turn"]
theorem sc__law_value : FnScope N__law_value ["_law_state", "_law_most"] (defScope s__law_value) := ⟨rfl, rfl, rfl, by decide +kernel, rfl, by decide +kernel, by decide +kernel⟩
abbrev Wl := Int × Int × Int
abbrev Sd := Int ⊕ Wl
def sd : Sd → MO
  | .inl c => .lst [.int c]
  | .inr w => .lst [.int w.1, .int w.2.1, .int w.2.2]
theorem sdg (s : Sd) : sd s ≠ .gone := by cases s <;> exact fun z => nomatch z
def normW : Sd → Wl
  | .inl c => (if 10 ^ 18 ≤ c then c else 0, c % 2147483647, 0)
  | .inr w => w
def mx1 (a b : Int) : Int := ((a + 7919 * b + 1) * 48271) % 2147483647
def mx2 (m : Int) : Int := (m * (m / 1009 + 69621)) % 2147483647
def mx3 (m : Int) : Int := (m * (m / 2003 + 40692)) % 2147483399
def digW (w : Wl) (n : Int) : Int × Wl :=
  if 0 < w.1 then (w.1 % n, (w.1 / n, w.2.1, w.2.2)) else (mx3 (mx2 (mx1 w.2.1 (w.2.2 + 1))) % n, (w.1, w.2.1, w.2.2 + 1))
def digitW (s : Sd) (n : Int) : Int × Sd := ((digW (normW s) n).1, .inr (digW (normW s) n).2)
theorem digit_lt (s : Sd) {n : Int} (h : 0 < n) : 0 ≤ (digitW s n).1 ∧ (digitW s n).1 < n := by
  unfold digitW digW
  split
  · exact ⟨Int.emod_nonneg _ (by omega), Int.emod_lt_of_pos _ h⟩
  · exact ⟨Int.emod_nonneg _ (by omega), Int.emod_lt_of_pos _ h⟩
section
variable {P : Program} {w : World} {K : PySem.W.Frag} {mg : Str → Option Value} {base : Heap}
def R_digit : List Sl → List MO → Sl → List MO → Prop := fun ss M r M' => ∃ (x : Sd) (n : Int), (0 < n ∧ n < 1073741824) ∧ ss = [.o 0, .d (.int n)] ∧ M = [sd x] ∧ r = .d (.int (digitW x n).1) ∧ M' = [sd (digitW x n).2]
theorem cal_digit {k : Nat} (D : Df K mg "_law_digit" s__law_digit ["_law_state", "_law_base"]) (m_int : mg "int" = none) (m_len : mg "len" = none) : Cal P w K mg base (k + 1) "_law_digit" (SpR K 2 R_digit) [] := by
  refine cal_mk D sc__law_digit rfl fun f cdv A outer s H E hr ss M r M' h => ?_
  obtain ⟨x, n, ⟨hn, hn2⟩, rfl, rfl, rfl, rfl⟩ := h
  refine ⟨_, [], (pss_cons (ps_if (pt_cmpR op_eq (pe_callB call_len_seq (by rfl) m_len PySem.boot_len (pa_cons (pv 0) pa_nil)) pe_int (nomark _)) (pss_cons (ps_expr (pe_bm PySem.F.plainAttrs_list PySem.F.slot_list_extend PySem.F.type_list_extend mt_extend (pv 0) (pa_cons (pe_lst (pa_cons (pe_op op_mod (pe_callTy call_int1 (by rfl) m_int (by decide +kernel) (pa_cons (pe_ix ix_list (pv 0) pe_int (fun _ _ => rfl)) pa_nil)) pe_int) (pa_cons pe_int pa_nil))) pa_nil))) (pss_one (ps_asg (pe_ix ix_list (pe_lst (pa_cons pe_int (pa_cons (pe_ix ix_list (pv 0) pe_int (fun _ _ => rfl)) pa_nil))) (pe_callTy call_int1 (by rfl) m_int (by decide +kernel) (pa_cons (pe_cmpR op_ge (pe_ix ix_list (pv 0) pe_int (fun _ _ => rfl)) (pe_op op_pow pe_int pe_int) (nomark _)) pa_nil)) (fun _ _ => rfl)) (pg_sub (pv 0) pe_int set_list)))) pss_nil) (pss_cons (ps_if (pt_cmpR op_gt (pe_ix ix_list (pv 0) pe_int (fun _ _ => rfl)) pe_int (nomark _)) (pss_cons (ps_asg (pe_op op_mod (pe_callTy call_int1 (by rfl) m_int (by decide +kernel) (pa_cons (pe_ix ix_list (pv 0) pe_int (fun _ _ => rfl)) pa_nil)) (pv 1)) (pg_name (i := 3) sc__law_digit.nd rfl (by first | exact .inl rfl | exact .inr rfl))) (pss_cons (ps_asg (pe_op op_fdiv (pe_ix ix_list (pv 0) pe_int (fun _ _ => rfl)) (pv 1)) (pg_sub (pv 0) pe_int set_list)) (pss_one (ps_ret (pv 3))))) pss_nil) (pss_cons (ps_asg (pe_op op_add (pe_ix ix_list (pv 0) pe_int (fun _ _ => rfl)) pe_int) (pg_sub (pv 0) pe_int set_list)) (pss_cons (ps_asg (pe_op op_mod (pe_callTy call_int1 (by rfl) m_int (by decide +kernel) (pa_cons (pe_op op_mul (pe_op op_add (pe_op op_add (pe_ix ix_list (pv 0) pe_int (fun _ _ => rfl)) (pe_op op_mul pe_int (pe_ix ix_list (pv 0) pe_int (fun _ _ => rfl)))) pe_int) pe_int) pa_nil)) pe_int) (pg_name (i := 2) sc__law_digit.nd rfl (by first | exact .inl rfl | exact .inr rfl))) (pss_cons (ps_asg (pe_op op_mod (pe_callTy call_int1 (by rfl) m_int (by decide +kernel) (pa_cons (pe_op op_mul (pv 2) (pe_op op_add (pe_op op_fdiv (pv 2) pe_int) pe_int)) pa_nil)) pe_int) (pg_name (i := 2) sc__law_digit.nd rfl (by first | exact .inl rfl | exact .inr rfl))) (pss_one (ps_ret (pe_op op_mod (pe_callTy call_int1 (by rfl) m_int (by decide +kernel) (pa_cons (pe_op op_mod (pe_callTy call_int1 (by rfl) m_int (by decide +kernel) (pa_cons (pe_op op_mul (pv 2) (pe_op op_add (pe_op op_fdiv (pv 2) pe_int) pe_int)) pa_nil)) pe_int) pa_nil)) (pv 1))))))))), ?_, Nat.le_refl _, fun _ h => nomatch h⟩
  refine es_seq (M1 := [sd (.inr (normW x))]) (G1 := [some (.o 0), some (.d (.int n)), none, none]) ?_ ?_
  · cases x with
    | inr w =>
      exact es_no (b := false) (et_is (et_test (ev_op (ev_lenO (k := 0) (xs := [.int w.1, .int w.2.1, .int w.2.2]) (ev_var rfl) rfl) ev_int ro_eqI)) rfl) rfl es_next
    | inl c =>
      refine es_yes (b := true) (et_is (et_test (ev_op (ev_lenO (k := 0) (xs := [.int c]) (ev_var rfl) rfl) ev_int ro_eqI)) rfl) rfl ?_
      refine es_seq (es_extO (k := 0) (M2 := [.lst [.int c]]) (ev_var rfl) (ev_lstX (xs := [.int (c % 2147483647), .int 0]) (ea_cons (ev_op (ev_cb (xs := [.int c]) (ea_cons (ev_ixO (k := 0) (x := .int c) (xs := [.int c]) (ev_var rfl) ev_int rfl rfl) ea_nil) rc_int1) ev_int (ro_mod (by decide))) (ea_cons ev_int ea_nil)) (show 2 ≤ 1000 by decide)) ⟨_, rfl⟩ rfl (show 1 + 2 < 1000000 by decide)) ?_
      refine es_nM (M' := [.lst [.int c, .int (c % 2147483647), .int 0]]) rfl ?_
      refine es_nxM (es_setO (x := .int (if 10 ^ 18 ≤ c then c else 0)) (k := 0) (j := 0) (xs := [.int c, .int (c % 2147483647), .int 0]) (ev_op (ev_lst (xs := [.int 0, .int c]) (ea_cons ev_int (ea_cons (ev_ixO (k := 0) (x := .int c) (xs := [.int c, .int (c % 2147483647), .int 0]) (ev_var rfl) ev_int rfl rfl) ea_nil)) (show 2 ≤ 1000 by decide)) (ev_cb (xs := [.bl (decide ((10 : Int) ^ 18 ≤ c))]) (ea_cons (ev_op (ev_ixO (k := 0) (x := .int c) (xs := [.int c, .int (c % 2147483647), .int 0]) (ev_var rfl) ev_int rfl rfl) (ev_op ev_int ev_int (ro_pow ⟨by decide, by decide, by decide⟩)) ro_ge) ea_nil) rc_intB) (ro_ixL ?_)) (ev_var rfl) ev_int rfl rfl) rfl
      by_cases h : (10 : Int) ^ 18 ≤ c
      · rw [decide_eq_true h, if_pos h, if_pos rfl] <;> rfl
      · rw [decide_eq_false h, if_neg h, if_neg Bool.false_ne_true] <;> rfl
  show EvS K _ _ _ (.rt (.d (.int (digW (normW x) n).1)) [sd (.inr (digW (normW x) n).2)])
  generalize normW x = w
  obtain ⟨a, b, c⟩ := w
  refine es_nM (M' := [.lst [.int a, .int b, .int c]]) rfl ?_
  refine es_guard (et_test (ev_op (ev_ixO (k := 0) (x := .int a) (ev_var rfl) ev_int rfl rfl) ev_int ro_gt)) (fun h => ?_) (fun h => ?_)
  · have h : 0 < a := of_decide_eq_true h
    have e : digW (a, b, c) n = (a % n, (a / n, b, c)) := if_pos h
    rw [e]
    refine es_seq (es_asg (ev_op (ev_cb (xs := [.int a]) (ea_cons (ev_ixO (k := 0) (x := .int a) (ev_var rfl) ev_int rfl rfl) ea_nil) rc_int1) (ev_var rfl) (ro_mod hn))) ?_
    refine es_seq (es_setO (k := 0) (j := 0) (xs := [.int a, .int b, .int c]) (ev_op (ev_ixO (k := 0) (x := .int a) (ev_var rfl) ev_int rfl rfl) (ev_var rfl) (ro_fdiv ⟨hn, hn2⟩)) (ev_var rfl) ev_int rfl rfl) ?_
    exact es_ret (ev_var rfl)
  · have h : ¬ 0 < a := of_decide_eq_false h
    have e : digW (a, b, c) n = (mx3 (mx2 (mx1 b (c + 1))) % n, (a, b, c + 1)) := if_neg h
    rw [e]
    have k1 : CMul (mx1 b (c + 1)) (mx1 b (c + 1) / 1009 + 69621) := by
      left
      have h1 : 0 ≤ mx1 b (c + 1) := Int.emod_nonneg _ (by decide)
      have h2 : mx1 b (c + 1) < 2147483647 := Int.emod_lt_of_pos _ (by decide)
      generalize mx1 b (c + 1) = m at *
      omega
    have k2 : CMul (mx2 (mx1 b (c + 1))) (mx2 (mx1 b (c + 1)) / 2003 + 40692) := by
      left
      have h1 : 0 ≤ mx2 (mx1 b (c + 1)) := Int.emod_nonneg _ (by decide)
      have h2 : mx2 (mx1 b (c + 1)) < 2147483647 := Int.emod_lt_of_pos _ (by decide)
      generalize mx2 (mx1 b (c + 1)) = m at *
      omega
    refine es_seq (es_setO (k := 0) (j := 2) (xs := [.int a, .int b, .int c]) (ev_op (ev_ixO (k := 0) (x := .int c) (ev_var rfl) ev_int rfl rfl) ev_int ro_add) (ev_var rfl) ev_int rfl rfl) ?_
    refine es_seq (es_asg (ev_isD (ev_op (ev_cb (xs := [.int ((b + 7919 * (c + 1) + 1) * 48271)]) (ea_cons (ev_op (ev_op (ev_op (ev_ixO (k := 0) (x := .int b) (ev_var rfl) ev_int rfl rfl) (ev_op ev_int (ev_ixO (k := 0) (x := .int (c + 1)) (ev_var rfl) ev_int rfl rfl) (ro_mul (.inl (by decide)))) ro_add) ev_int ro_add) ev_int (ro_mul (.inr (by decide)))) ea_nil) rc_int1) ev_int (ro_mod (by decide))) (show _ = Dt.int (mx1 b (c + 1)) from rfl))) ?_
    refine es_nG (G' := [_, _, _, _]) rfl ?_
    refine es_seq (es_asg (ev_isD (ev_op (ev_cb (xs := [.int (mx1 b (c + 1) * (mx1 b (c + 1) / 1009 + 69621))]) (ea_cons (ev_op (ev_var rfl) (ev_op (ev_op (ev_var rfl) ev_int (ro_fdiv ⟨by decide, by decide⟩)) ev_int ro_add) (ro_mul k1)) ea_nil) rc_int1) ev_int (ro_mod (by decide))) (show _ = Dt.int (mx2 (mx1 b (c + 1))) from rfl))) ?_
    refine es_nG (G' := [_, _, _, _]) rfl ?_
    exact es_ret (ev_op (ev_cb (xs := [.int (mx3 (mx2 (mx1 b (c + 1))))]) (ea_cons (ev_isD (ev_op (ev_cb (xs := [.int (mx2 (mx1 b (c + 1)) * (mx2 (mx1 b (c + 1)) / 2003 + 40692))]) (ea_cons (ev_op (ev_var rfl) (ev_op (ev_op (ev_var rfl) ev_int (ro_fdiv ⟨by decide, by decide⟩)) ev_int ro_add) (ro_mul k2)) ea_nil) rc_int1) ev_int (ro_mod (by decide))) (show _ = Dt.int (mx3 (mx2 (mx1 b (c + 1)))) from rfl)) ea_nil) rc_int1) (ev_var rfl) (ro_mod hn))
end
/-- a drawn one of some things -/
def oneT (x : Sd) (xs : List (List Nat)) : List Nat × Sd := (xs.getD (digitW x xs.length).1.toNat [], (digitW x xs.length).2)
theorem atI_draw {α : Type} (x : Sd) (xs : List α) (d : α) (h : xs ≠ []) : atI xs (digitW x xs.length).1 = some (xs.getD (digitW x xs.length).1.toNat d) := by
  have hl : 0 < xs.length := List.length_pos_iff.mpr h
  obtain ⟨h1, h2⟩ := digit_lt x (n := xs.length) (by omega)
  generalize (digitW x xs.length).1 = i at *
  obtain ⟨n, rfl⟩ := Int.eq_ofNat_of_zero_le h1
  have hn : n < xs.length := by omega
  rw [atI_nat hn, Int.toNat_natCast, List.getD_eq_getElem?_getD, List.getElem?_eq_getElem hn] <;> rfl
theorem digit_nat (x : Sd) (n : Nat) (h : 0 < n) : (digitW x n).1.toNat < n := by
  obtain ⟨h1, h2⟩ := digit_lt x (n := n) (by omega)
  omega
theorem oneT_mem (x : Sd) {ys : List (List Nat)} (h : ys ≠ []) : (oneT x ys).1 ∈ ys := by
  have hl := digit_nat x ys.length (List.length_pos_iff.mpr h)
  show ys.getD _ [] ∈ ys
  rw [List.getD_eq_getElem?_getD, List.getElem?_eq_getElem hl]
  exact List.getElem_mem hl
theorem getD_str (ys : List (List Nat)) (i : Nat) (h : i < ys.length) : (ys.map Dt.str).getD i .non = .str (ys.getD i []) := by
  rw [List.getD_eq_getElem?_getD, List.getD_eq_getElem?_getD, List.getElem?_map, List.getElem?_eq_getElem h] <;> rfl
abbrev TAME : List (List Nat) := [[97], [98], [99, 100], [101], [105, 116], [45, 49], [120, 58, 121], [107, 35, 108], [32], [32], [32], [10], [48]]
abbrev WILD1 : List (List Nat) := [[97], [122], [45], [63], [58], [35], [32], [32], [32, 32], [10], [10], [9], [39], [34], [92], [45, 45, 45], [46, 46, 46], [44]]
abbrev WILD2 : List (List Nat) := [[91], [93], [123], [125], [124], [62], [38], [42], [33], [64], [96], [58, 32], [32, 35], [45, 32], [10, 45, 45, 45], [10, 46, 46, 46, 32]]
def pcs (d : Int) : List (List Nat) := if d = 2 then WILD1 ++ WILD2 else TAME
theorem pcs_ok (d : Int) : pcs d ≠ [] ∧ (pcs d).length ≤ 100 ∧ ∀ p ∈ pcs d, p.length ≤ 5 ∧ p.all goodC = true := by
  unfold pcs
  split
  · exact (show _ ∧ _ ∧ ∀ p ∈ WILD1 ++ WILD2, p.length ≤ 5 ∧ p.all goodC = true by decide +kernel)
  · exact (show _ ∧ _ ∧ ∀ p ∈ TAME, p.length ≤ 5 ∧ p.all goodC = true by decide +kernel)
def valsW (x : Sd) (d n : Int) : List (List Nat) × Sd := mapA (fun x (_ : Nat) => oneT x (pcs d)) (List.range n.toNat) x
def valueW (x : Sd) (most : Int) : List Nat × Sd :=
  ((valsW (digitW (digitW x 3).2 (most + 1)).2 (digitW x 3).1 (digitW (digitW x 3).2 (most + 1)).1).1.flatten, (valsW (digitW (digitW x 3).2 (most + 1)).2 (digitW x 3).1 (digitW (digitW x 3).2 (most + 1)).1).2)
theorem flat_good : ∀ {xs : List (List Nat)}, (∀ p ∈ xs, p.length ≤ 5 ∧ p.all goodC = true) → xs.flatten.length ≤ 5 * xs.length ∧ xs.flatten.all goodC = true
  | [], _ => ⟨Nat.le_refl _, rfl⟩
  | x :: xs, h => by
    obtain ⟨h1, h2⟩ := h x List.mem_cons_self
    obtain ⟨h3, h4⟩ := flat_good fun p hp => h p (List.mem_cons_of_mem _ hp)
    refine ⟨?_, ?_⟩
    · rw [List.flatten_cons, List.length_append, List.length_cons]
      omega
    · rw [List.flatten_cons, List.all_append, h2, h4] <;> rfl
theorem vals_ok (x : Sd) (d n : Int) : (valsW x d n).1.length = n.toNat ∧ ∀ p ∈ (valsW x d n).1, p.length ≤ 5 ∧ p.all goodC = true := by
  unfold valsW
  refine ⟨by rw [mapA_len, List.length_range], mapA_all (p := fun (p : List Nat) => p.length ≤ 5 ∧ p.all goodC = true) (fun m _ => (pcs_ok _).2.2 _ (oneT_mem m (pcs_ok _).1)) _ _⟩
theorem value_ok (x : Sd) {most : Int} (h0 : 0 ≤ most) (h1 : most ≤ 20) : (valueW x most).1.length ≤ 100 ∧ (valueW x most).1.all goodC = true := by
  have hd := digit_lt (digitW x 3).2 (n := most + 1) (by omega)
  obtain ⟨q1, q2⟩ := vals_ok (digitW (digitW x 3).2 (most + 1)).2 (digitW x 3).1 (digitW (digitW x 3).2 (most + 1)).1
  obtain ⟨h2, h3⟩ := flat_good q2
  refine ⟨?_, h3⟩
  show (valsW (digitW (digitW x 3).2 (most + 1)).2 (digitW x 3).1 (digitW (digitW x 3).2 (most + 1)).1).1.flatten.length ≤ 100
  omega
section
variable {P : Program} {w : World} {K : PySem.W.Frag} {mg : Str → Option Value} {base : Heap}
def R_one : List Sl → List MO → Sl → List MO → Prop := fun ss M r M' => ∃ (x : Sd) (xs : List (List Nat)), xs ≠ [] ∧ xs.length ≤ 100000 ∧ ss = [.o 0, .d (.lst (xs.map .str))] ∧ M = [sd x] ∧ r = .d (.str (oneT x xs).1) ∧ M' = [sd (oneT x xs).2]
theorem cal_one {k : Nat} (D : Df K mg "_law_one" s__law_one ["_law_state", "_law_some"]) (f__law_digit : Cal P w K mg base (k + 1) "_law_digit" (SpR K 2 R_digit) []) (m_len : mg "len" = none) : Cal P w K mg base (k + 2) "_law_one" (SpR K 2 R_one) [] := by
  refine cal_mk D sc__law_one rfl fun f cdv A outer s H E hr ss M r M' h => ?_
  obtain ⟨x, xs, hne, hl, rfl, rfl, rfl, rfl⟩ := h
  refine ⟨_, [], (pss_one (ps_ret (pe_ix ix_seq (pv 1) (pe_c f__law_digit hr (by omega) (by rfl) (pa_cons (pv 0) (pa_cons (pe_callB call_len (by rfl) m_len PySem.boot_len (pa_cons (pv 1) pa_nil)) pa_nil))) (fun _ _ => rfl)))), ?_, Nat.le_refl _, fun _ h => nomatch h⟩
  have hp : 0 < xs.length := List.length_pos_iff.mpr hne
  have e1 : (xs.map Dt.str).length = xs.length := List.length_map _
  refine es_ret (ev_op (ev_var rfl) (ev_call1 (k := 0) (m := sd x) (m' := sd (digitW x xs.length).2) (es := []) (ss := [.o 0, .d (.int (xs.length : Nat))]) (ea_cons (ev_var rfl) (ea_cons (ev_isD (ev_cb (xs := [.lst (xs.map .str)]) (ea_cons (ev_var rfl) ea_nil) rc_lenL') (by rw [e1])) ea_nil)) rfl (sdg x) ?_ ⟨x, _, ⟨by omega, by omega⟩, rfl, rfl, rfl, rfl⟩ (sdg _) rfl (fun _ => rfl)) (ro_ixL' ?_))
  · intro s hs j e
    subst e
    simp at hs
    exact hs
  · have h1 := atI_draw x (xs.map Dt.str) .non (fun e => hne (List.map_eq_nil_iff.mp e))
    rw [e1] at h1
    rw [h1, getD_str _ _ (digit_nat x _ hp)] <;> rfl
theorem R_digI (x : Sd) (n : Int) (h : 0 < n) (h2 : n < 1073741824) : R_digit (.o 0 :: [Dt.int n].map Sl.d) [sd x] (.d (.int (digitW x n).1)) [sd (digitW x n).2] := ⟨x, n, ⟨h, h2⟩, rfl, rfl, rfl, rfl⟩
theorem R_oneI (x : Sd) (xs : List (List Nat)) (h : xs ≠ []) (hl : xs.length ≤ 100000) : R_one (.o 0 :: [Dt.lst (xs.map .str)].map Sl.d) [sd x] (.d (.str (oneT x xs).1)) [sd (oneT x xs).2] := ⟨x, xs, h, hl, rfl, rfl, rfl, rfl⟩
def R_valueW : List Sl → List MO → Sl → List MO → Prop := fun ss M r M' => ∃ (x : Sd) (most : Int), 0 ≤ most ∧ most ≤ 20 ∧ ss = [.o 0, .d (.int most)] ∧ M = [sd x] ∧ r = .d (.str (valueW x most).1) ∧ M' = [sd (valueW x most).2]
theorem cal_valueW (D : Df K mg "_law_value" s__law_value ["_law_state", "_law_most"]) (f__law_digit : Cal P w K mg base 1 "_law_digit" (SpR K 2 R_digit) []) (f__law_one : Cal P w K mg base 2 "_law_one" (SpR K 2 R_one) []) (m_range : mg "range" = none) : Cal P w K mg base 3 "_law_value" (SpR K 2 R_valueW) [] := by
  refine cal_mk (k := 2) D sc__law_value rfl fun f cdv A outer s H E hr ss M r M' h => ?_
  obtain ⟨x, most, h0, h1, rfl, rfl, rfl, rfl⟩ := h
  refine ⟨_, [], (pss_cons (ps_asg (pe_lst (pa_cons pe_str (pa_cons pe_str (pa_cons pe_str (pa_cons pe_str (pa_cons pe_str (pa_cons pe_str (pa_cons pe_str (pa_cons pe_str (pa_cons pe_str (pa_cons pe_str (pa_cons pe_str (pa_cons pe_str (pa_cons pe_str pa_nil)))))))))))))) (pg_name (i := 2) sc__law_value.nd rfl (by first | exact .inl rfl | exact .inr rfl))) (pss_cons (ps_asg (pe_lst (pa_cons pe_str (pa_cons pe_str (pa_cons pe_str (pa_cons pe_str (pa_cons pe_str (pa_cons pe_str (pa_cons pe_str (pa_cons pe_str (pa_cons pe_str (pa_cons pe_str (pa_cons pe_str (pa_cons pe_str (pa_cons pe_str (pa_cons pe_str (pa_cons pe_str (pa_cons pe_str (pa_cons pe_str (pa_cons pe_str pa_nil))))))))))))))))))) (pg_name (i := 3) sc__law_value.nd rfl (by first | exact .inl rfl | exact .inr rfl))) (pss_cons (ps_asg (pe_op op_cat (pv 3) (pe_lst (pa_cons pe_str (pa_cons pe_str (pa_cons pe_str (pa_cons pe_str (pa_cons pe_str (pa_cons pe_str (pa_cons pe_str (pa_cons pe_str (pa_cons pe_str (pa_cons pe_str (pa_cons pe_str (pa_cons pe_str (pa_cons pe_str (pa_cons pe_str (pa_cons pe_str (pa_cons pe_str pa_nil)))))))))))))))))) (pg_name (i := 3) sc__law_value.nd rfl (by first | exact .inl rfl | exact .inr rfl))) (pss_cons (ps_asg (pe_ix ix_list (pe_lst (pa_cons (pv 2) (pa_cons (pv 2) (pa_cons (pv 3) pa_nil)))) (pe_c f__law_digit hr (by omega) (by rfl) (pa_cons (pv 0) (pa_cons pe_int pa_nil))) (fun _ _ => rfl)) (pg_name (i := 4) sc__law_value.nd rfl (by first | exact .inl rfl | exact .inr rfl))) (pss_one (ps_ret (pe_m1 PySem.F.slot_str_join PySem.F.type_str_join mt_join pe_str (pe_lc (own := [("_law_turn", 5)]) (g := (gName 5)) (by rfl) sc__law_value.nd (pi_range1 (by rfl) m_range (pa_cons (pe_c f__law_digit hr (by omega) (by rfl) (pa_cons (pv 0) (pa_cons (pe_op op_add (pv 1) pe_int) pa_nil))) pa_nil)) (blkOk_by (own := [("_law_turn", 5)]) (N := N__law_value) (sc := defScope s__law_value) (by decide +kernel)) (fun _ _ _ _ _ => pg_name (i := 5) sc__law_value.nd rfl (by first | exact .inl rfl | exact .inr rfl)) (fun _ _ _ _ _ => pts_nil) (fun _ _ _ _ _ => (pe_c f__law_one hr (by omega) (by rfl) (pa_cons (pv 0) (pa_cons (pv 4) pa_nil)))))))))))), ?_, Nat.le_refl _, fun _ h => nomatch h⟩
  refine es_seq (es_asg (ev_lst (xs := TAME.map Dt.str) (ea_cons (ev_str _) (ea_cons (ev_str _) (ea_cons (ev_str _) (ea_cons (ev_str _) (ea_cons (ev_str _) (ea_cons (ev_str _) (ea_cons (ev_str _) (ea_cons (ev_str _) (ea_cons (ev_str _) (ea_cons (ev_str _) (ea_cons (ev_str _) (ea_cons (ev_str _) (ea_cons (ev_str _) ea_nil))))))))))))) (show 13 ≤ 1000 by decide))) ?_
  refine es_nG (G' := [_, _, _, _, _, _]) rfl ?_
  refine es_seq (es_asg (ev_lstX (xs := WILD1.map Dt.str) (ea_cons (ev_str _) (ea_cons (ev_str _) (ea_cons (ev_str _) (ea_cons (ev_str _) (ea_cons (ev_str _) (ea_cons (ev_str _) (ea_cons (ev_str _) (ea_cons (ev_str _) (ea_cons (ev_str _) (ea_cons (ev_str _) (ea_cons (ev_str _) (ea_cons (ev_str _) (ea_cons (ev_str _) (ea_cons (ev_str _) (ea_cons (ev_str _) (ea_cons (ev_str _) (ea_cons (ev_str _) (ea_cons (ev_str _) ea_nil)))))))))))))))))) (show 18 ≤ 1000 by decide))) ?_
  refine es_nG (G' := [_, _, _, _, _, _]) rfl ?_
  refine es_seq (es_asg (s := .d (.lst ((WILD1 ++ WILD2).map Dt.str))) (M1 := [sd x]) (ev_wk (ev_op (ev_var rfl) (ev_lstX (xs := WILD2.map Dt.str) (ea_cons (ev_str _) (ea_cons (ev_str _) (ea_cons (ev_str _) (ea_cons (ev_str _) (ea_cons (ev_str _) (ea_cons (ev_str _) (ea_cons (ev_str _) (ea_cons (ev_str _) (ea_cons (ev_str _) (ea_cons (ev_str _) (ea_cons (ev_str _) (ea_cons (ev_str _) (ea_cons (ev_str _) (ea_cons (ev_str _) (ea_cons (ev_str _) (ea_cons (ev_str _) ea_nil)))))))))))))))) (show 16 ≤ 1000 by decide)) (ro_cat (show 18 + 16 ≤ 100000 by decide))) lstX_lst)) ?_
  refine es_nG (G' := [_, _, _, _, _, _]) rfl ?_
  have h3 := digit_lt x (n := 3) (by decide)
  refine es_seq (es_asg (s := .d (.lst ((pcs (digitW x 3).1).map Dt.str))) (M1 := [sd (digitW x 3).2]) (ev_op (ev_lst (xs := [.lst (TAME.map Dt.str), .lst (TAME.map Dt.str), .lst ((WILD1 ++ WILD2).map Dt.str)]) (ea_cons (ev_var rfl) (ea_cons (ev_var rfl) (ea_cons (ev_var rfl) ea_nil))) (show 3 ≤ 1000 by decide)) (ev_w (ds := [.int 3]) (ea_cons (ev_var rfl) (ea_cons ev_int ea_nil)) (sdg x) (R_digI x 3 (by decide) (by decide)) (sdg _) rfl) (ro_ixL ?_))) ?_
  · have e : (digitW x 3).1 = 0 ∨ (digitW x 3).1 = 1 ∨ (digitW x 3).1 = 2 := by omega
    rcases e with e | e | e <;> rw [e] <;> rfl
  refine es_nG (G' := [_, _, _, _, _, _]) rfl ?_
  obtain ⟨p1, p2, p3⟩ := pcs_ok (digitW x 3).1
  have hok := value_ok x h0 h1
  have hd := digit_lt (digitW x 3).2 (n := most + 1) (by omega)
  show EvS K _ _ _ (.rt (.d (.str (valsW (digitW (digitW x 3).2 (most + 1)).2 (digitW x 3).1 (digitW (digitW x 3).2 (most + 1)).1).1.flatten)) [sd (valsW (digitW (digitW x 3).2 (most + 1)).2 (digitW x 3).1 (digitW (digitW x 3).2 (most + 1)).1).2])
  have hfl : (valsW (digitW (digitW x 3).2 (most + 1)).2 (digitW x 3).1 (digitW (digitW x 3).2 (most + 1)).1).1.flatten.length ≤ 100 := hok.1
  refine es_retD (ev_m1 (ev_str []) (ev_isD (ev_lcA (List.range (digitW (digitW x 3).2 (most + 1)).1.toNat) (fun i => .int (0 + (i : Nat))) Dt.str (fun x => [sd x]) (fun y _ => oneT y (pcs (digitW x 3).1)) (digitW (digitW x 3).2 (most + 1)).2 (ei_rng1 (ea_cons (ev_w (ds := [.int (most + 1)]) (ea_cons (ev_var rfl) (ea_cons (ev_op (ev_var rfl) ev_int ro_add) ea_nil)) (sdg _) (R_digI _ _ (by omega) (by omega)) (sdg _) rfl) ea_nil) (by omega)) (by rw [List.length_range]; omega) (hw_name (by decide)) fun y i _ => ⟨_, eg_name, ev_w (ds := [.lst ((pcs (digitW x 3).1).map .str)]) (ea_cons (ev_var rfl) (ea_cons (ev_var rfl) ea_nil)) (sdg y) (R_oneI y _ p1 (by omega)) (sdg _) rfl⟩) (show _ = Dt.lst ((valsW (digitW (digitW x 3).2 (most + 1)).2 (digitW x 3).1 (digitW (digitW x 3).2 (most + 1)).1).1.map Dt.str) from rfl)) (rm_join ?_)) ?_
  · rw [List.length_flatten] at hfl
    show (List.map List.length _).sum + _ * 0 ≤ _
    omega
  · rw [joinL_nil]
end
end T
namespace T
open PySem PySem.Spec PyProof.Rows L2 DJ
/-! ### the program: the text of a block -/
abbrev s_is_like_mark : Stmt := topS 18
abbrev N_is_like_mark : List Str := ["word"]
theorem sc_is_like_mark : FnScope N_is_like_mark ["word"] (defScope s_is_like_mark) := ⟨rfl, rfl, rfl, by decide +kernel, rfl, by decide +kernel, by decide +kernel⟩
abbrev s_ahead_of : Stmt := topS 17
abbrev N_ahead_of : List Str := ["word", "indent"]
theorem sc_ahead_of : FnScope N_ahead_of ["word", "indent"] (defScope s_ahead_of) := ⟨rfl, rfl, rfl, by decide +kernel, rfl, by decide +kernel, by decide +kernel⟩
abbrev s_filled : Stmt := topS 16
abbrev N_filled : List Str := ["words", "indent", "width", "first", "line", "lines", "word"]
theorem sc_filled : FnScope N_filled ["words", "indent", "width", "first"] (defScope s_filled) := ⟨rfl, rfl, rfl, by decide +kernel, rfl, by decide +kernel, by decide +kernel⟩
abbrev s_words_of : Stmt := topS 14
abbrev N_words_of : List Str := ["row", "width", "words", "begin", "place"]
theorem sc_words_of : FnScope N_words_of ["row", "width"] (defScope s_words_of) := ⟨rfl, rfl, rfl, by decide +kernel, rfl, by decide +kernel, by decide +kernel⟩
abbrev s_block_lines : Stmt := topS 20
abbrev N_block_lines : List Str := ["rows", "folded", "indent", "width", "lines", "before", "row", "word"]
theorem sc_block_lines : FnScope N_block_lines ["rows", "folded", "indent", "width"] (defScope s_block_lines) := ⟨rfl, rfl, rfl, by decide +kernel, rfl, by decide +kernel, by decide +kernel⟩
abbrev s_block_text : Stmt := topS 19
abbrev N_block_text : List Str := ["value", "folded", "indent", "width", "deep", "sign", "body", "feeds", "parts", "rows", "aside", "lines", "part", "row", "word"]
theorem sc_block_text : FnScope N_block_text ["value", "folded", "indent", "width", "deep"] (defScope s_block_text) := ⟨rfl, rfl, rfl, by decide +kernel, rfl, by decide +kernel, by decide +kernel⟩
abbrev s_text_of_scalar : Stmt := topS 41
abbrev N_text_of_scalar : List Str := ["value", "style", "context", "indent", "width", "deep"]
theorem sc_text_of_scalar : FnScope N_text_of_scalar ["value", "style", "context", "indent", "width", "deep"] (defScope s_text_of_scalar) := ⟨rfl, rfl, rfl, by decide +kernel, rfl, by decide +kernel, by decide +kernel⟩
abbrev s_is_whole : Stmt := topS 37
abbrev N_is_whole : List Str := ["thing", "low", "high"]
theorem sc_is_whole : FnScope N_is_whole ["thing", "low", "high"] (defScope s_is_whole) := ⟨rfl, rfl, rfl, by decide +kernel, rfl, by decide +kernel, by decide +kernel⟩
abbrev s_check_deep : Stmt := topS 33
abbrev N_check_deep : List Str := ["deep", "indent"]
theorem sc_check_deep : FnScope N_check_deep ["deep", "indent"] (defScope s_check_deep) := ⟨rfl, rfl, rfl, by decide +kernel, rfl, by decide +kernel, by decide +kernel⟩
abbrev s_written : Stmt := topS 30
abbrev N_written : List Str := ["value", "style", "context", "indent", "width", "deep"]
theorem sc_written : FnScope N_written ["value", "style", "context", "indent", "width", "deep"] (defScope s_written) := ⟨rfl, rfl, rfl, by decide +kernel, rfl, by decide +kernel, by decide +kernel⟩
abbrev MRK : List (List Nat) := [[45, 45, 45], [46, 46, 46]]
abbrev LIT : List Nat := [108, 105, 116, 101, 114, 97, 108]
def markL (w : List Nat) : Bool := decide (w.take 3 ∈ MRK) && decide ((w.drop 3).take 1 ∈ ([[], [32]] : List (List Nat)))
abbrev spcs (n : Int) : List Nat := (List.replicate n.toNat [32]).flatten
def aheadL (w : List Nat) (i : Int) : List Nat := if (decide (i = 0) && markL w) = true then [32] else spcs i
def lineL (w : List Nat) (i : Int) : List Nat := if w = [] then [] else aheadL w i ++ w
theorem cut_pre (l : List Nat) (k : Nat) : cutL l none (some ((k : Nat) : Int)) = l.take k := cutL_to l k
theorem cut34 (l : List Nat) : cutL l (some 3) (some 4) = (l.drop 3).take 1 := by
  show cutL l (some ((3 : Nat) : Int)) (some ((4 : Nat) : Int)) = _
  rw [cutL_nat]
theorem spcs_len (n : Int) : (spcs n).length = n.toNat := by
  show (List.replicate n.toNat [32]).flatten.length = _
  rw [rep_len, List.length_singleton, Nat.one_mul]
theorem ahead_len (w : List Nat) {i : Int} (h : i ≤ 200) : (aheadL w i).length ≤ 201 := by
  unfold aheadL
  split
  · decide
  · rw [spcs_len]; omega
theorem line_len (w : List Nat) {i : Int} (h : i ≤ 200) : (lineL w i).length ≤ w.length + 201 := by
  unfold lineL
  split
  · exact Nat.zero_le _
  · have := ahead_len w h
    rw [List.length_append]; omega
theorem eqD_one (w : List Nat) : eqD (.lst [.str w]) (.lst [.str []]) = decide (w = []) := by
  have e : eqD (.lst [.str w]) (.lst [.str []]) = (PyData.eqv (.str (tx w)) (.str (tx [])) && true) := rfl
  rw [e, Bool.and_true]
  by_cases h : w = []
  · subst h; rfl
  · rw [decide_eq_false h]
    cases hz : PyData.eqv (.str (tx w)) (.str (tx [])) with
    | false => rfl
    | true =>
      exact absurd (tx_inj (by simpa [PyData.eqv] using hz)) h
theorem asc_pl {w : List Nat} (h : ∀ c ∈ w, c < 128) : plD (.lst [.str w]) = true := by
  show (plD (.str w) && true) = true
  rw [Bool.and_true]
  exact List.all_eq_true.mpr fun c hc => decide_eq_true (h c hc)
section
variable {P : Program} {w : World} {K : PySem.W.Frag} {mg : Str → Option Value} {base : Heap}
def R_mark : List Sl → List MO → Sl → List MO → Prop := fun ss M r M' => ∃ l : List Nat, l.length ≤ 3000 ∧ ss = [.d (.str l)] ∧ M = [] ∧ r = .d (.bl (markL l)) ∧ M' = []
theorem cal_mark {k : Nat} (D : Df K mg "is_like_mark" s_is_like_mark ["word"]) (c_MARKS : Gc K mg "MARKS" (.tup (MRK.map Dt.str))) : Cal P w K mg base (k + 1) "is_like_mark" (SpR K 1 R_mark) [] := by
  obtain ⟨v_MARKS, u_MARKS, hm_MARKS, hr_MARKS, hd_MARKS⟩ := c_MARKS.ex
  refine cal_mk D sc_is_like_mark rfl fun f cdv A outer s H E hr ss M r M' h => ?_
  obtain ⟨l, hl, rfl, rfl, rfl, rfl⟩ := h
  refine ⟨_, [], (pss_one (ps_ret (pe_and (pe_cmpR op_in_seq (pe_slice sl_str (pv 0) po_none (po_some pe_int)) (pe_glob (by rfl) hm_MARKS hr_MARKS) (by rfl)) (pe_one (pe_cmpR op_in_seq (pe_slice sl_str (pv 0) (po_some pe_int) (po_some pe_int)) (pe_tup (pa_cons pe_str (pa_cons pe_str pa_nil))) (by rfl)))))), ?_, Nat.le_refl _, fun _ h => nomatch h⟩
  exact es_ret (ev_andV (a := decide (l.take 3 ∈ MRK)) (c := decide ((l.drop 3).take 1 ∈ ([[], [32]] : List (List Nat)))) (ev_op (ev_isD (ev_slS (ev_var rfl) eo_none (eo_some ev_int) (by omega)) (show _ = Dt.str (l.take 3) by rw [show cutL l none (some 3) = l.take 3 from cut_pre l 3])) (ev_c hd_MARKS) ro_inT) (fun _ => ev_op (ev_isD (ev_slS (ev_var rfl) (eo_some ev_int) (eo_some ev_int) (by omega)) (by rw [cut34])) (ev_tup (xs := [[], [32]].map Dt.str) (ea_cons (ev_str _) (ea_cons (ev_str _) ea_nil)) (show 2 ≤ 1000 by decide)) ro_inT) (fun _ => rfl))
def R_ahead : List Sl → List MO → Sl → List MO → Prop := fun ss M r M' => ∃ (l : List Nat) (i : Int), l.length ≤ 3000 ∧ 0 ≤ i ∧ i ≤ 200 ∧ ss = [.d (.str l), .d (.int i)] ∧ M = [] ∧ r = .d (.str (aheadL l i)) ∧ M' = []
theorem cal_ahead {k : Nat} (D : Df K mg "ahead_of" s_ahead_of ["word", "indent"]) (f_is_like_mark : Cal P w K mg base (k + 1) "is_like_mark" (SpR K 1 R_mark) []) : Cal P w K mg base (k + 2) "ahead_of" (SpR K 2 R_ahead) [] := by
  refine cal_mk (k := k + 1) D sc_ahead_of rfl fun f cdv A outer s H E hr ss M r M' h => ?_
  obtain ⟨l, i, hl, h0, h1, rfl, rfl, rfl, rfl⟩ := h
  refine ⟨_, [], (pss_one (ps_ret (pe_ifExp (PW.pt (pw_and (pt_cmpR op_eq (pv 1) pe_int (nomark _)) (pw_and1 (pt_val (pe_c f_is_like_mark hr (by omega) (by rfl) (pa_cons (pv 0) pa_nil)))))) pe_str (pe_op op_repN pe_str (pv 1))))), ?_, Nat.le_refl _, fun _ h => nomatch h⟩
  exact es_ret (ev_iteS (et_and (b := decide (i = 0)) (c := markL l) (et_test (ev_op (ev_var rfl) ev_int ro_eqI)) (fun _ => et_B (ev_call0 (ds := [.str l]) (es := []) (z := .bl (markL l)) (ea_cons (ev_var rfl) ea_nil) ⟨l, hl, rfl, rfl, rfl, rfl⟩ rfl (fun _ => rfl))) (fun _ => rfl)) (fun _ => ev_str [32]) (fun _ => ev_op (ev_str [32]) (ev_var rfl) (ro_repN (l := [32]) (by omega) (by omega) (by show 1 * i.toNat ≤ _; omega))))
def R_filled : PySem.W.Frag → List Sl → List MO → Sl → List MO → Prop := fun K ss M r M' => ∃ (l : List Nat) (i : Int), l.length ≤ 3000 ∧ (∀ c ∈ l, c < 128) ∧ 0 ≤ i ∧ i ≤ 200 ∧ ss = [.d (.lst [.str l]), .d (.int i), .d (.int 0), .d (.bl false)] ∧ M = [] ∧ r = .d (lstX K [.str (lineL l i)]) ∧ M' = []
theorem cal_filled {k : Nat} (D : Df K mg "filled" s_filled ["words", "indent", "width", "first"]) (f_ahead_of : Cal P w K mg base (k + 2) "ahead_of" (SpR K 2 R_ahead) []) (m_len : mg "len" = none) : Cal P w K mg base (k + 3) "filled" (SpR K 4 (R_filled K)) [] := by
  refine cal_mk (k := k + 2) D sc_filled rfl fun f cdv A outer s H E hr ss M r M' h => ?_
  obtain ⟨l, i, hl, ha, h0, h1, rfl, rfl, rfl, rfl⟩ := h
  refine ⟨_, [], (pss_cons (ps_if (pt_cmpR (op_eqD (room64 hr)) (pv 0) (pe_lst (pa_cons pe_str pa_nil)) (nomark _)) (pss_one (ps_ret (pe_lst (pa_cons pe_str pa_nil)))) pss_nil) (pss_cons (ps_asg (pe_ifExp (pt_val (pv 3)) (pe_ix ix_list (pv 0) pe_int (fun _ _ => rfl)) (pe_op op_add_str (pe_c f_ahead_of hr (by omega) (by rfl) (pa_cons (pe_ix ix_list (pv 0) pe_int (fun _ _ => rfl)) (pa_cons (pv 1) pa_nil))) (pe_ix ix_list (pv 0) pe_int (fun _ _ => rfl)))) (pg_name (i := 4) sc_filled.nd rfl (by first | exact .inl rfl | exact .inr rfl))) (pss_cons (ps_asg (pe_lst pa_nil) (pg_name (i := 5) sc_filled.nd rfl (by first | exact .inl rfl | exact .inr rfl))) (pss_cons (ps_for PassesOwn.never rfl (pi_list (pe_slice sl_list (pv 0) (po_some pe_int) po_none)) (pg_name (i := 6) sc_filled.nd rfl (by first | exact .inl rfl | exact .inr rfl)) (pss_one (ps_if (pt_cmpR op_gt (pe_op op_add (pe_op op_add (pe_callB call_len_str (by rfl) m_len PySem.boot_len (pa_cons (pv 4) pa_nil)) pe_int) (pe_callB call_len_str (by rfl) m_len PySem.boot_len (pa_cons (pv 6) pa_nil))) (pv 2) (nomark _)) (pss_cons (ps_expr (pe_bm PySem.F.plainAttrs_list PySem.F.slot_list_append PySem.F.type_list_append mt_append (pv 5) (pa_cons (pv 4) pa_nil))) (pss_one (ps_asg (pe_op op_add_str (pe_c f_ahead_of hr (by omega) (by rfl) (pa_cons (pv 6) (pa_cons (pv 1) pa_nil))) (pv 6)) (pg_name (i := 4) sc_filled.nd rfl (by first | exact .inl rfl | exact .inr rfl))))) (pss_one (ps_asg (pe_op op_add_str (pe_op op_add_str (pv 4) pe_str) (pv 6)) (pg_name (i := 4) sc_filled.nd rfl (by first | exact .inl rfl | exact .inr rfl))))))) (pss_one (ps_ret (pe_op op_cat (pv 5) (pe_lst (pa_cons (pv 4) pa_nil))))))))), ?_, Nat.le_refl _, fun _ h => nomatch h⟩
  refine es_guard (b := decide (l = [])) (et_is (et_test (ev_op (ev_var rfl) (ev_lst (xs := [.str []]) (ea_cons (ev_str []) ea_nil) (show 1 ≤ 1000 by decide)) (ro_eqDt (asc_pl ha) rfl (show 1 ≤ 64 by decide) (show 1 ≤ 64 by decide)))) (eqD_one l)) (fun h => es_retD (ev_lstX (xs := [.str []]) (ea_cons (ev_str []) ea_nil) (show 1 ≤ 1000 by decide)) (by unfold lineL; rw [if_pos (of_decide_eq_true h)])) (fun h => ?_)
  have hal := ahead_len l h1
  have eL : lineL l i = aheadL l i ++ l := if_neg (of_decide_eq_false h)
  rw [eL]
  refine es_seq (es_asg (s := .d (.str (aheadL l i ++ l))) (M1 := []) (ev_isD (ev_iteS (b := false) (l := []) (m := aheadL l i ++ l) (et_B (ev_var rfl)) (fun h => nomatch h) (fun _ => ev_op (ev_call0 (ds := [.str l, .int i]) (es := []) (z := .str (aheadL l i)) (ea_cons (ev_op (ev_var rfl) ev_int (ro_ixL (x := .str l) rfl)) (ea_cons (ev_var rfl) ea_nil)) ⟨l, i, hl, h0, h1, rfl, rfl, rfl, rfl⟩ rfl (fun _ => rfl)) (ev_op (ev_var rfl) ev_int (ro_ixL (x := .str l) rfl)) (ro_addS (by omega)))) rfl)) ?_
  refine es_nG (G' := [_, _, _, _, _, _, _]) rfl ?_
  refine es_seq (es_asg (s := .d (lstX K [])) (M1 := []) (ev_lstX (xs := []) ea_nil (Nat.zero_le _))) ?_
  refine es_nG (G' := [_, _, _, _, _, _, _]) rfl ?_
  refine es_seq (G1 := [some (.d (.lst [.str l])), some (.d (.int i)), some (.d (.int 0)), some (.d (.bl false)), some (.d (.str (aheadL l i ++ l))), some (.d (lstX K [])), none]) (M1 := []) ?_ (es_ret (ev_op (ev_var rfl) (ev_lstX (xs := [.str (aheadL l i ++ l)]) (ea_cons (ev_var rfl) ea_nil) (show 1 ≤ 1000 by decide)) (ro_cat (show 0 + 1 ≤ 100000 by decide))))
  exact es_forN ([] : List Unit) (fun _ => .non) (fun _ => [some (.d (.lst [.str l])), some (.d (.int i)), some (.d (.int 0)), some (.d (.bl false)), some (.d (.str (aheadL l i ++ l))), some (.d (lstX K [])), none]) (fun _ => []) (ei_is (ei_list (ev_wk (ev_slL (ev_var rfl) (eo_some ev_int) eo_none) lstX_lst)) rfl) (Lg.refl _) fun j x hx => nomatch hx
def R_words : PySem.W.Frag → List Sl → List MO → Sl → List MO → Prop := fun K ss M r M' => ∃ l : List Nat, l.length ≤ 3000 ∧ ss = [.d (.str l), .d (.int 0)] ∧ M = [] ∧ r = .d (lstX K [.str l]) ∧ M' = []
theorem cal_words {k : Nat} (D : Df K mg "words_of" s_words_of ["row", "width"]) (m_len : mg "len" = none) (m_range : mg "range" = none) : Cal P w K mg base (k + 1) "words_of" (SpR K 2 (R_words K)) [] := by
  refine cal_mk D sc_words_of rfl fun f cdv A outer s H E hr ss M r M' h => ?_
  obtain ⟨l, hl, rfl, rfl, rfl, rfl⟩ := h
  refine ⟨_, [], (pss_cons (ps_asg (pe_lst pa_nil) (pg_name (i := 2) sc_words_of.nd rfl (by first | exact .inl rfl | exact .inr rfl))) (pss_cons (ps_asg pe_int (pg_name (i := 3) sc_words_of.nd rfl (by first | exact .inl rfl | exact .inr rfl))) (pss_cons (ps_for PassesOwn.never rfl (pi_range2 (by rfl) m_range (pa_cons pe_int (pa_cons (pe_op op_sub (pe_callB call_len_str (by rfl) m_len PySem.boot_len (pa_cons (pv 0) pa_nil)) pe_int) pa_nil))) (pg_name (i := 4) sc_words_of.nd rfl (by first | exact .inl rfl | exact .inr rfl)) (pss_one (ps_if (PW.pt (pw_and (pt_cmpR op_gt (pv 1) pe_int (nomark _)) (pw_and (pt_cmpR op_eq (pe_ix ix_str (pv 0) (pv 4) (fun _ _ => rfl)) pe_str (nomark _)) (pw_and (pt_cmpR op_notIn_str (pe_ix ix_str (pv 0) (pe_op op_sub (pv 4) pe_int) (fun _ _ => rfl)) pe_str (by rfl)) (pw_and1 (pt_cmpR op_notIn_str (pe_ix ix_str (pv 0) (pe_op op_add (pv 4) pe_int) (fun _ _ => rfl)) pe_str (by rfl))))))) (pss_cons (ps_expr (pe_bm PySem.F.plainAttrs_list PySem.F.slot_list_append PySem.F.type_list_append mt_append (pv 2) (pa_cons (pe_slice sl_str (pv 0) (po_some (pv 3)) (po_some (pv 4))) pa_nil))) (pss_one (ps_asg (pe_op op_add (pv 4) pe_int) (pg_name (i := 3) sc_words_of.nd rfl (by first | exact .inl rfl | exact .inr rfl))))) pss_nil))) (pss_one (ps_ret (pe_op op_cat (pv 2) (pe_lst (pa_cons (pe_slice sl_str (pv 0) (po_some (pv 3)) po_none) pa_nil)))))))), ?_, Nat.le_refl _, fun _ h => nomatch h⟩
  refine es_seq (es_asg (s := .d (lstX K [])) (M1 := []) (ev_lstX (xs := []) ea_nil (Nat.zero_le _))) ?_
  refine es_nG (G' := [_, _, _, _, _]) rfl ?_
  refine es_seq (es_asg ev_int) ?_
  refine es_nG (G' := [_, _, _, _, _]) rfl ?_
  refine es_seq (G1 := [some (.d (.str l)), some (.d (.int 0)), some (.d (lstX K [])), some (.d (.int 0)), none]) (M1 := []) ?_ (es_ret (ev_op (ev_var rfl) (ev_lstX (xs := [.str l]) (ea_cons (ev_isD (ev_slS (ev_var rfl) (eo_some (ev_var rfl)) eo_none (by omega)) (show _ = Dt.str l by rw [show cutL l (some 0) none = l from (cutL_from l 0).trans (List.drop_zero)])) ea_nil) (show 1 ≤ 1000 by decide)) (ro_cat (show 0 + 1 ≤ 100000 by decide))))
  refine es_forN (List.range (((l.length : Nat) : Int) - 1 - 1).toNat) (fun i => .int (1 + (i : Nat))) (fun _ => [some (.d (.str l)), some (.d (.int 0)), some (.d (lstX K [])), some (.d (.int 0)), none]) (fun _ => []) (ei_rng2 (ea_cons ev_int (ea_cons (ev_op (ev_cb (xs := [.str l]) (ea_cons (ev_var rfl) ea_nil) (rc_lenS (by omega))) ev_int ro_sub) ea_nil)) (by omega)) (Lg.refl _) fun j x hx => ⟨_, eg_name, .inl ?_⟩
  exact es_nxw (es_no (b := false) (et_and (b := false) (c := false) (et_is (et_test (ev_op (ev_var rfl) ev_int ro_gt)) rfl) (fun h => nomatch h) (fun _ => rfl)) rfl es_next) (lg_cons (lg_cons (lg_cons (lg_cons (lg_cons lg_nil (.inr rfl)) (.inl rfl)) (.inl rfl)) (.inl rfl)) (.inl rfl))
abbrev rowD (l : List Nat) : Dt := .lst [.str l]
def linesD (ws : List (List Nat)) (i : Int) : List Dt := ws.map fun l => .str (lineL l i)
def R_blines : PySem.W.Frag → List Sl → List MO → Sl → List MO → Prop := fun K ss M r M' => ∃ (ws : List (List Nat)) (i : Int), ws.length ≤ 3001 ∧ (∀ l ∈ ws, l.length ≤ 3000 ∧ ∀ c ∈ l, c < 128) ∧ 0 ≤ i ∧ i ≤ 200 ∧ ss = [.d (.lst (ws.map rowD)), .d (.bl false), .d (.int i), .d (.int 0)] ∧ M = [] ∧ r = .d (lstX K (linesD ws i)) ∧ M' = []
theorem cal_blines {k : Nat} (D : Df K mg "block_lines" s_block_lines ["rows", "folded", "indent", "width"]) (f_filled : Cal P w K mg base (k + 3) "filled" (SpR K 4 (R_filled K)) []) : Cal P w K mg base (k + 4) "block_lines" (SpR K 4 (R_blines K)) [] := by
  refine cal_mk (k := k + 3) D sc_block_lines rfl fun f cdv A outer s H E hr ss M r M' h => ?_
  obtain ⟨ws, i, hl, ha, h0, h1, rfl, rfl, rfl, rfl⟩ := h
  refine ⟨_, [.gone], (pss_cons (ps_asg (pe_lst pa_nil) (pg_name (i := 4) sc_block_lines.nd rfl (by first | exact .inl rfl | exact .inr rfl))) (pss_cons (ps_asg pe_str (pg_name (i := 5) sc_block_lines.nd rfl (by first | exact .inl rfl | exact .inr rfl))) (pss_cons (ps_for PassesOwn.never rfl (pi_list (pv 0)) (pg_name (i := 6) sc_block_lines.nd rfl (by first | exact .inl rfl | exact .inr rfl)) (pss_cons (ps_asg (pe_ix ix_list (pv 6) pe_int (fun _ _ => rfl)) (pg_name (i := 7) sc_block_lines.nd rfl (by first | exact .inl rfl | exact .inr rfl))) (pss_cons (ps_if (pt_cmpR op_ne (pv 7) pe_str (nomark _)) (pss_cons (ps_if (PW.pt (pw_and (pt_val (pv 1)) (pw_and (pt_cmpR op_ne (pv 5) pe_str (nomark _)) (pw_and (pt_cmpR op_notIn_str (pe_ix ix_str (pv 5) pe_int (fun _ _ => rfl)) pe_str (by rfl)) (pw_and1 (pt_cmpR op_notIn_str (pe_ix ix_str (pv 7) pe_int (fun _ _ => rfl)) pe_str (by rfl))))))) (pss_one (ps_expr (pe_bm PySem.F.plainAttrs_list PySem.F.slot_list_append PySem.F.type_list_append mt_append (pv 4) (pa_cons pe_str pa_nil)))) pss_nil) (pss_one (ps_asg (pv 7) (pg_name (i := 5) sc_block_lines.nd rfl (by first | exact .inl rfl | exact .inr rfl))))) pss_nil) (pss_one (ps_expr (pe_bm PySem.F.plainAttrs_list PySem.F.slot_list_extend PySem.F.type_list_extend mt_extend (pv 4) (pa_cons (pe_c f_filled hr (by omega) (by rfl) (pa_cons (pv 6) (pa_cons (pv 2) (pa_cons (pv 3) (pa_cons pe_bl pa_nil))))) pa_nil))))))) (pss_one (ps_ret (pv 4)))))), ?_, Nat.zero_le _, fun _ h => nomatch h⟩
  refine es_seq (es_asg (ev_lstO (xs := []) ea_nil (Nat.zero_le _))) ?_
  refine es_nG (G' := [_, _, _, _, _, _, _, _]) rfl ?_
  refine es_seq (es_asg (ev_str [])) ?_
  refine es_nG (G' := [_, _, _, _, _, _, _, _]) rfl ?_
  refine es_seq (G1 := [some (.d (.lst (ws.map rowD))), some (.d (.bl false)), some (.d (.int i)), some (.d (.int 0)), some (.o 0), none, none, none]) (M1 := [.lst (linesD ws i)]) ?_ (show EvS K _ _ _ (.rt (.d (lstX K (linesD ws i))) ([MO.lst (linesD ws i)].set 0 .gone)) from es_ret (ev_freezeX (k := 0) (ev_var rfl) rfl))
  refine es_nxM (es_forN ws rowD (fun _ => [some (.d (.lst (ws.map rowD))), some (.d (.bl false)), some (.d (.int i)), some (.d (.int 0)), some (.o 0), none, none, none]) (fun j => [.lst (linesD (ws.take j) i)]) (ei_list (ev_var rfl)) (lg_cons (lg_cons (lg_cons (lg_cons (lg_cons (lg_cons (lg_cons (lg_cons lg_nil (.inl rfl)) (.inl rfl)) (.inr rfl)) (.inl rfl)) (.inl rfl)) (.inl rfl)) (.inl rfl)) (.inl rfl)) fun j l hj => ⟨_, eg_name, .inl ?_⟩) (by rw [List.take_length])
  obtain ⟨hl1, ha1⟩ := ha l (List.mem_of_getElem? hj)
  have hjl : j < ws.length := (List.getElem?_eq_some_iff.mp hj).1
  have et : linesD (ws.take (j + 1)) i = linesD (ws.take j) i ++ [.str (lineL l i)] := by
    unfold linesD
    rw [← List.take_append_getElem hjl, List.map_append, (List.getElem?_eq_some_iff.mp hj).2] <;> rfl
  have hn : (linesD (ws.take j) i).length ≤ 3001 := by
    unfold linesD
    rw [List.length_map, List.length_take]; omega
  rw [et]
  generalize linesD (ws.take j) i = xs at *
  refine es_seq (es_asg (ev_op (ev_var rfl) ev_int (ro_ixL (x := .str l) rfl))) ?_
  refine es_nG (G' := [_, _, _, _, _, _, _, _]) rfl ?_
  refine es_seq (G1 := [some (.d (.lst (ws.map rowD))), some (.d (.bl false)), some (.d (.int i)), some (.d (.int 0)), some (.o 0), none, some (.d (rowD l)), some (.d (.str l))]) (M1 := [.lst xs]) (es_if (et_test (ev_op (ev_var rfl) (ev_str []) ro_neS)) (fun h => es_seq (es_no (b := false) (et_and (b := false) (c := false) (et_B (ev_var rfl)) (fun h => nomatch h) (fun _ => rfl)) rfl es_next) (es_nxw (es_asg (ev_var rfl)) (lg_cons (lg_cons (lg_cons (lg_cons (lg_cons (lg_cons (lg_cons (lg_cons lg_nil (.inl rfl)) (.inl rfl)) (.inr rfl)) (.inl rfl)) (.inl rfl)) (.inl rfl)) (.inl rfl)) (.inl rfl)))) (fun _ => es_nxw es_next (lg_cons (lg_cons (lg_cons (lg_cons (lg_cons (lg_cons (lg_cons (lg_cons lg_nil (.inl rfl)) (.inl rfl)) (.inr rfl)) (.inl rfl)) (.inl rfl)) (.inl rfl)) (.inl rfl)) (.inl rfl)))) ?_
  refine es_nxw (es_nxM (es_extO (k := 0) (xs := xs) (ys := [.str (lineL l i)]) (M2 := [.lst xs]) (ev_var rfl) (ev_call0 (ds := [rowD l, .int i, .int 0, .bl false]) (es := []) (z := lstX K [.str (lineL l i)]) (ea_cons (ev_var rfl) (ea_cons (ev_var rfl) (ea_cons (ev_var rfl) (ea_cons ev_bl ea_nil)))) ⟨l, i, hl1, ha1, h0, h1, rfl, rfl, rfl, rfl⟩ rfl (fun _ => rfl)) ⟨_, rfl⟩ rfl (by rw [List.length_singleton]; omega)) rfl) (lg_cons (lg_cons (lg_cons (lg_cons (lg_cons (lg_cons (lg_cons (lg_cons lg_nil (.inr rfl)) (.inr rfl)) (.inl rfl)) (.inl rfl)) (.inl rfl)) (.inl rfl)) (.inl rfl)) (.inl rfl))
end
end T
namespace T
open PySem PySem.Spec PyProof.Rows L2 DJ
theorem drop_head {g : Nat → Bool} : ∀ {l : List Nat} {c : Nat} {r : List Nat}, l.dropWhile g = c :: r → g c = false
  | [], _, _, h => by cases h
  | a :: l, c, r, h => by
    cases hg : g a with
    | true => rw [List.dropWhile_cons_of_pos hg] at h; exact drop_head h
    | false =>
      rw [List.dropWhile_cons_of_neg (by rw [hg]; exact Bool.false_ne_true)] at h
      injection h with h1 h2
      rw [← h1]; exact hg
theorem drop_all {g : Nat → Bool} : ∀ {l : List Nat}, l.dropWhile g = [] → ∀ c ∈ l, g c = true
  | [], _, _, hc => by cases hc
  | a :: l, h, c, hc => by
    cases hg : g a with
    | true =>
      rw [List.dropWhile_cons_of_pos hg] at h
      rcases List.mem_cons.mp hc with e | e
      · rw [e]; exact hg
      · exact drop_all h c e
    | false =>
      rw [List.dropWhile_cons_of_neg (by rw [hg]; exact Bool.false_ne_true)] at h
      cases h
def bodyL (v : List Nat) : List Nat := rstripL [10] v
theorem body_pre (v : List Nat) : bodyL v = v.take (bodyL v).length := by
  have h := take_rev_while (inL [10]) v
  have e : bodyL v = v.take (v.length - (v.reverse.takeWhile (inL [10])).length) := h.symm
  generalize v.length - (v.reverse.takeWhile (inL [10])).length = n at e
  rw [e, List.length_take]
  by_cases hn : n ≤ v.length
  · rw [Nat.min_eq_left hn]
  · rw [Nat.min_eq_right (by omega), List.take_of_length_le (by omega), List.take_of_length_le (Nat.le_refl _)]
theorem body_len (v : List Nat) : (bodyL v).length ≤ v.length := by
  rw [body_pre v, List.length_take]; omega
theorem body_asc {v : List Nat} (h : ∀ c ∈ v, c < 128) : ∀ c ∈ bodyL v, c < 128 := fun c hc => by
  rw [body_pre v] at hc
  exact h c (List.mem_of_mem_take hc)
theorem body_left {v : List Nat} (h : bodyL v ≠ []) : lstripL [10] (bodyL v) ≠ [] := fun e => by
  have ha := drop_all e
  have e1 : (bodyL v).reverse = v.reverse.dropWhile (inL [10]) := List.reverse_reverse _
  cases er : (bodyL v).reverse with
  | nil => exact h (by simpa using er)
  | cons c r =>
    have h1 := drop_head (e1.symm.trans er)
    rw [ha c (List.mem_reverse.mp (by rw [er]; exact List.mem_cons_self))] at h1
    cases h1
theorem spl_cons (acc : List Nat) (c : Nat) (r : List Nat) : TL.spl [10] 0 acc (c :: r) = if c = 10 then acc :: TL.spl [10] 0 [] r else TL.spl [10] 0 (acc ++ [c]) r := by
  by_cases h : c = 10
  · subst h
    rw [if_pos rfl]
    exact TL.spl_hit rfl
  · rw [if_neg h]
    exact TL.spl_miss (TL.pre_of_head [] r h)
theorem spl_ok : ∀ (r acc : List Nat), (TL.spl [10] 0 acc r).length ≤ r.length + 1 ∧ ∀ p ∈ TL.spl [10] 0 acc r, p.length ≤ acc.length + r.length ∧ ∀ c ∈ p, c ∈ acc ∨ c ∈ r
  | [], acc => by
    rw [TL.spl_nil]
    refine ⟨Nat.le_refl _, fun p hp => ?_⟩
    rw [List.mem_singleton] at hp
    subst hp
    exact ⟨Nat.le_add_right _ _, fun c hc => .inl hc⟩
  | c :: r, acc => by
    rw [spl_cons]
    split
    · obtain ⟨h1, h2⟩ := spl_ok r []
      refine ⟨by rw [List.length_cons, List.length_cons]; omega, fun p hp => ?_⟩
      rcases List.mem_cons.mp hp with e | hp
      · subst e
        exact ⟨Nat.le_add_right _ _, fun c hc => .inl hc⟩
      · obtain ⟨q1, q2⟩ := h2 p hp
        rw [List.length_nil] at q1
        refine ⟨by rw [List.length_cons]; omega, fun d hd => .inr (List.mem_cons_of_mem _ ?_)⟩
        rcases q2 d hd with q | q
        · cases q
        · exact q
    · obtain ⟨h1, h2⟩ := spl_ok r (acc ++ [c])
      refine ⟨by rw [List.length_cons]; omega, fun p hp => ?_⟩
      obtain ⟨q1, q2⟩ := h2 p hp
      rw [List.length_append, List.length_singleton] at q1
      refine ⟨by rw [List.length_cons]; omega, fun d hd => ?_⟩
      rcases q2 d hd with q | q
      · rcases List.mem_append.mp q with q | q
        · exact .inl q
        · rw [List.mem_singleton] at q
          subst q
          exact .inr List.mem_cons_self
      · exact .inr (List.mem_cons_of_mem _ q)
def rowsL (v : List Nat) : List (List Nat) := splL [10] (bodyL v)
theorem rows_ok {v : List Nat} (hl : v.length ≤ 100) (ha : ∀ c ∈ v, c < 128) : (rowsL v).length ≤ 101 ∧ ∀ l ∈ rowsL v, l.length ≤ 100 ∧ ∀ c ∈ l, c < 128 := by
  obtain ⟨h1, h2⟩ := spl_ok (bodyL v) []
  have hb := body_len v
  refine ⟨by show (TL.spl [10] 0 [] (bodyL v)).length ≤ 101; omega, fun l h => ?_⟩
  obtain ⟨q1, q2⟩ := h2 l h
  rw [List.length_nil] at q1
  refine ⟨by omega, fun c hc => ?_⟩
  rcases q2 c hc with q | q
  · cases q
  · exact body_asc ha c q
theorem join_len (l : List Nat) : ∀ xs : List (List Nat), (TL.joinL l xs).length ≤ (xs.map (·.length)).sum + xs.length * l.length
  | [] => by simp [TL.joinL]
  | [x] => by simp [TL.joinL]
  | x :: y :: r => by
    have ih := join_len l (y :: r)
    show (x ++ (l ++ TL.joinL l (y :: r))).length ≤ _
    rw [List.length_append, List.length_append, List.map_cons, List.sum_cons, List.length_cons, Nat.add_mul]
    omega
theorem sum_le {n : Nat} : ∀ {xs : List (List Nat)}, (∀ x ∈ xs, x.length ≤ n) → (xs.map (·.length)).sum ≤ n * xs.length
  | [], _ => Nat.zero_le _
  | x :: xs, h => by
    have h1 := h x List.mem_cons_self
    have ih := sum_le fun y hy => h y (List.mem_cons_of_mem _ hy)
    rw [List.map_cons, List.sum_cons, List.length_cons, Nat.mul_succ]
    omega
def feedI (v : List Nat) : Int := (v.length : Int) - ((bodyL v).length : Int)
theorem feed_ok (v : List Nat) : 0 ≤ feedI v ∧ feedI v ≤ v.length := by
  have := body_len v
  unfold feedI
  omega
def asideL (v : List Nat) (ind : Int) : Bool := decide (ind = 0) && ((rowsL v).map markL).any id
def headC (v : List Nat) : Nat := (lstripL [10] (bodyL v)).getD 0 0
def tenL (v : List Nat) (ind deep : Int) : List Nat := if decide ([headC v] = [32]) = true then [124] ++ (if asideL v ind = true then [50] else TL.numL deep.toNat) else [124]
def chompL (f : Int) : List Nat := if decide (f = 0) = true then [45] else (if decide (f = 1) = true then [] else [43])
abbrev fds (n : Int) : List Nat := (List.replicate n.toNat [10]).flatten
theorem fds_len (n : Int) : (fds n).length = n.toNat := by
  show (List.replicate n.toNat [10]).flatten.length = _
  rw [rep_len, List.length_singleton, Nat.one_mul]
def topL (v : List Nat) (ind deep : Int) : List Nat := tenL v ind deep ++ chompL (feedI v)
def inX (v : List Nat) (ind : Int) : Int := if asideL v ind = true then 1 else ind
def blockL (v : List Nat) (ind deep : Int) : List Nat :=
  if bodyL v = [] then ([124] ++ (if (feedI v != 0) = true then [43] else [45])) ++ fds (feedI v)
  else TL.joinL [10] (topL v ind deep :: (rowsL v).map fun l => lineL l (inX v ind)) ++ fds (max 0 (feedI v - 1))
theorem num_one {d : Int} (h0 : 0 ≤ d) (h : d ≤ 9) : (TL.numL d.toNat).length = 1 := by
  rw [TL.numL_lt (by omega)] <;> rfl
theorem ten_len (v : List Nat) {ind deep : Int} (h0 : 0 ≤ deep) (h : deep ≤ 9) : (tenL v ind deep).length ≤ 2 := by
  have := num_one h0 h
  unfold tenL
  split
  · rw [List.length_append]
    split
    · decide
    · rw [this]; decide
  · decide
theorem chomp_len (f : Int) : (chompL f).length ≤ 1 := by
  unfold chompL
  split
  · decide
  · split <;> decide
theorem any_two (ws : List (List Nat)) : (ws.flatMap fun l => [l].map fun y => Dt.bl (markL y)) = (ws.map markL).map Dt.bl := by
  induction ws with
  | nil => rfl
  | cons w ws ih => rw [List.flatMap_cons, ih] <;> rfl
section
variable {P : Program} {w : World} {K : PySem.W.Frag} {mg : Str → Option Value} {base : Heap}
def R_block : List Sl → List MO → Sl → List MO → Prop := fun ss M r M' => ∃ (v : List Nat) (ind deep : Int), v.length ≤ 100 ∧ (∀ c ∈ v, c < 128) ∧ 0 ≤ ind ∧ ind ≤ 100 ∧ 1 ≤ deep ∧ deep ≤ 9 ∧ ss = [.d (.str v), .d (.bl false), .d (.int ind), .d (.int 0), .d (.int deep)] ∧ M = [] ∧ r = .d (.str (blockL v ind deep)) ∧ M' = []
theorem cal_block (D : Df K mg "block_text" s_block_text ["value", "folded", "indent", "width", "deep"]) (c_FEED : Gc K mg "FEED" (.str [10])) (f_is_like_mark : Cal P w K mg base 1 "is_like_mark" (SpR K 1 R_mark) []) (f_words_of : Cal P w K mg base 1 "words_of" (SpR K 2 (R_words K)) []) (f_block_lines : Cal P w K mg base 4 "block_lines" (SpR K 4 (R_blines K)) []) (m_len : mg "len" = none) (m_any : mg "any" = none) (m_max : mg "max" = none) (m_str : mg "str" = none) : Cal P w K mg base 5 "block_text" (SpR K 5 R_block) [] := by
  obtain ⟨v_FEED, u_FEED, hm_FEED, hr_FEED, hd_FEED⟩ := c_FEED.ex
  refine cal_mk (k := 4) D sc_block_text rfl fun f cdv A outer s H E hr ss M r M' h => ?_
  obtain ⟨v, ind, deep, hl, ha, h0, h1, h2, h3, rfl, rfl, rfl, rfl⟩ := h
  have hb := body_len v
  obtain ⟨hf0, hf1⟩ := feed_ok v
  have eF : ((v.length : Nat) : Int) - (((bodyL v).length : Nat) : Int) = feedI v := rfl
  by_cases hbd : bodyL v = []
  · refine ⟨_, [], (pss_cons (ps_asg (pe_ifExp (pt_val (pv 1)) pe_str pe_str) (pg_name (i := 5) sc_block_text.nd rfl (by first | exact .inl rfl | exact .inr rfl))) (pss_cons (ps_asg (pe_m1 PySem.F.slot_str_rstrip PySem.F.type_str_rstrip mt_rstripChars (pv 0) (pe_glob (by rfl) hm_FEED hr_FEED)) (pg_name (i := 6) sc_block_text.nd rfl (by first | exact .inl rfl | exact .inr rfl))) (pss_cons (ps_asg (pe_op op_sub (pe_callB call_len_str (by rfl) m_len PySem.boot_len (pa_cons (pv 0) pa_nil)) (pe_callB call_len_str (by rfl) m_len PySem.boot_len (pa_cons (pv 6) pa_nil))) (pg_name (i := 7) sc_block_text.nd rfl (by first | exact .inl rfl | exact .inr rfl))) (pss_cons (ps_if (pt_cmpR op_eq (pv 6) pe_str (nomark _)) (pss_one (ps_ret (pe_op op_add_str (pe_op op_add_str (pv 5) (pe_ifExp (pt_truth (pv 7) (by intro _; rfl)) pe_str pe_str)) (pe_op op_repN (pe_glob (by rfl) hm_FEED hr_FEED) (pv 7))))) pss_nil) (pss_cons (ps_asg (pe_m1 PySem.F.slot_str_split PySem.F.type_str_split mt_split (pv 6) (pe_glob (by rfl) hm_FEED hr_FEED)) (pg_name (i := 8) sc_block_text.nd rfl (by first | exact .inl rfl | exact .inr rfl))) (pss_cons (ps_setLc (i := 9) (own := [("part", 12)]) (g := (gName 12)) (by rfl) sc_block_text.nd rfl rfl (sw_true rfl rfl rfl (by decide +kernel)) (pi_list (pv 8)) (blkOk_by (own := [("part", 12)]) (N := N_block_text) (sc := defScope s_block_text) (by decide +kernel)) (fun _ _ _ _ _ => pg_name (i := 12) sc_block_text.nd rfl (by first | exact .inl rfl | exact .inr rfl)) (fun _ _ _ _ _ => pts_nil) (fun _ _ _ _ _ => (pe_c f_words_of hr (by omega) (by rfl) (pa_cons (pv 12) (pa_cons (pe_ifExp (pt_cmpR (show OpR _ (compareOp .In) (rIn K false) from op_in_seq) (pe_slice sl_str (pv 12) po_none (po_some pe_int)) (pe_tup (pa_cons pe_str (pa_cons pe_str pa_nil))) (by rfl)) pe_int (pv 3)) pa_nil))))) (pss_cons (ps_asg (pe_and (pe_cmpR op_eq (pv 2) pe_int (nomark _)) (pe_one (pe_callB (cr_any rfl) (by rfl) m_any (by decide +kernel) (pa_cons (pe_lc2 (own := [("row", 13), ("word", 14)]) (vs1 := [14]) (g := gName 13) (g1 := gName 14) (wi1 := iList K (tVar 13)) (by rfl) sc_block_text.nd (pi_list (pv 9)) (blkOk_by (own := [("row", 13), ("word", 14)]) (N := N_block_text) (sc := defScope s_block_text) (by decide +kernel)) (by decide) (fun _ _ _ _ _ => pg_name (i := 13) sc_block_text.nd rfl (by first | exact .inl rfl | exact .inr rfl)) (fun _ _ _ _ _ => pts_nil) (fun _ _ _ _ _ => (pi_list (pv 13))) (fun _ _ _ _ _ => pg_name (i := 14) sc_block_text.nd rfl (by first | exact .inl rfl | exact .inr rfl)) (fun _ _ _ _ _ => pts_nil) (fun _ _ _ _ _ => (pe_c f_is_like_mark hr (by omega) (by rfl) (pa_cons (pv 14) pa_nil)))) pa_nil)))) (pg_name (i := 10) sc_block_text.nd rfl (by first | exact .inl rfl | exact .inr rfl))) (pss_cons (ps_if (pt_cmpR op_eq (pe_ix ix_str (pe_m1 PySem.F.slot_str_lstrip PySem.F.type_str_lstrip mt_lstripChars (pv 6) (pe_glob (by rfl) hm_FEED hr_FEED)) pe_int (fun _ _ => rfl)) pe_str (nomark _)) (pss_one (ps_asg (pe_op op_add_str (pv 5) (pe_ifExp (pt_val (pv 10)) pe_str (pe_callTy call_str_int (by rfl) m_str (by decide +kernel) (pa_cons (pv 4) pa_nil)))) (pg_name (i := 5) sc_block_text.nd rfl (by first | exact .inl rfl | exact .inr rfl)))) pss_nil) (pss_cons (ps_asg (pe_lst (pa_cons (pe_op op_add_str (pv 5) (pe_ifExp (pt_cmpR op_eq (pv 7) pe_int (nomark _)) pe_str (pe_ifExp (pt_cmpR op_eq (pv 7) pe_int (nomark _)) pe_str pe_str))) pa_nil)) (pg_name (i := 11) sc_block_text.nd rfl (by first | exact .inl rfl | exact .inr rfl))) (pss_cons (ps_expr (pe_bm PySem.F.plainAttrs_list PySem.F.slot_list_extend PySem.F.type_list_extend mt_extend (pv 11) (pa_cons (pe_c f_block_lines hr (by omega) (by rfl) (pa_cons (pv 9) (pa_cons (pv 1) (pa_cons (pe_ifExp (pt_val (pv 10)) pe_int (pv 2)) (pa_cons (pv 3) pa_nil))))) pa_nil))) (pss_one (ps_ret (pe_op op_add_str (pe_m1 PySem.F.slot_str_join PySem.F.type_str_join mt_join (pe_glob (by rfl) hm_FEED hr_FEED) (pv 11)) (pe_op op_repN (pe_glob (by rfl) hm_FEED hr_FEED) (pe_callB (call_max2 rfl) (by rfl) m_max (by decide +kernel) (pa_cons pe_int (pa_cons (pe_op op_sub (pv 7) pe_int) pa_nil))))))))))))))))), ?_, Nat.le_refl _, fun _ h => nomatch h⟩
    refine es_seq (es_asg (s := .d (.str [124])) (M1 := []) (ev_isD (ev_iteS (b := false) (l := []) (m := [124]) (et_B (ev_var rfl)) (fun h => nomatch h) (fun _ => ev_str [124])) rfl)) ?_
    refine es_nG (G' := [_, _, _, _, _, _, _, _, _, _, _, _, _, _, _]) rfl ?_
    refine es_seq (es_asg (s := .d (.str (bodyL v))) (M1 := []) (ev_m1 (ev_var rfl) (ev_c hd_FEED) (rm_rstrip (by omega)))) ?_
    refine es_nG (G' := [_, _, _, _, _, _, _, _, _, _, _, _, _, _, _]) rfl ?_
    refine es_seq (es_asg (s := .d (.int (feedI v))) (M1 := []) (ev_isD (ev_op (ev_cb (xs := [.str v]) (ea_cons (ev_var rfl) ea_nil) (rc_lenS (by omega))) (ev_cb (xs := [.str (bodyL v)]) (ea_cons (ev_var rfl) ea_nil) (rc_lenS (by omega))) ro_sub) (by rw [eF]))) ?_
    refine es_nG (G' := [_, _, _, _, _, _, _, _, _, _, _, _, _, _, _]) rfl ?_
    refine es_seqR (es_yes (et_test (ev_op (ev_var rfl) (ev_str []) ro_eqS)) (decide_eq_true hbd) (es_retD (ev_op (ev_op (ev_var rfl) (ev_iteS (et_int (ev_var rfl)) (fun _ => ev_str [43]) (fun _ => ev_str [45])) (ro_addS (by split <;> decide))) (ev_op (ev_c hd_FEED) (ev_var rfl) (ro_repN (l := [10]) (by omega) (by omega) (by show 1 * (feedI v).toNat ≤ _; omega))) (ro_addS ?_)) ?_))
    · rw [fds_len, List.length_append]
      have : (if (feedI v != 0) = true then ([43] : List Nat) else [45]).length = 1 := by split <;> rfl
      rw [this, List.length_singleton]
      omega
    · unfold blockL
      rw [if_pos hbd]
  · refine ⟨_, [.gone], (pss_cons (ps_asg (pe_ifExp (pt_val (pv 1)) pe_str pe_str) (pg_name (i := 5) sc_block_text.nd rfl (by first | exact .inl rfl | exact .inr rfl))) (pss_cons (ps_asg (pe_m1 PySem.F.slot_str_rstrip PySem.F.type_str_rstrip mt_rstripChars (pv 0) (pe_glob (by rfl) hm_FEED hr_FEED)) (pg_name (i := 6) sc_block_text.nd rfl (by first | exact .inl rfl | exact .inr rfl))) (pss_cons (ps_asg (pe_op op_sub (pe_callB call_len_str (by rfl) m_len PySem.boot_len (pa_cons (pv 0) pa_nil)) (pe_callB call_len_str (by rfl) m_len PySem.boot_len (pa_cons (pv 6) pa_nil))) (pg_name (i := 7) sc_block_text.nd rfl (by first | exact .inl rfl | exact .inr rfl))) (pss_cons (ps_if (pt_cmpR op_eq (pv 6) pe_str (nomark _)) (pss_one (ps_ret (pe_op op_add_str (pe_op op_add_str (pv 5) (pe_ifExp (pt_truth (pv 7) (by intro _; rfl)) pe_str pe_str)) (pe_op op_repN (pe_glob (by rfl) hm_FEED hr_FEED) (pv 7))))) pss_nil) (pss_cons (ps_asg (pe_m1 PySem.F.slot_str_split PySem.F.type_str_split mt_split (pv 6) (pe_glob (by rfl) hm_FEED hr_FEED)) (pg_name (i := 8) sc_block_text.nd rfl (by first | exact .inl rfl | exact .inr rfl))) (pss_cons (ps_setLc (i := 9) (own := [("part", 12)]) (g := (gName 12)) (by rfl) sc_block_text.nd rfl rfl (sw_true rfl rfl rfl (by decide +kernel)) (pi_list (pv 8)) (blkOk_by (own := [("part", 12)]) (N := N_block_text) (sc := defScope s_block_text) (by decide +kernel)) (fun _ _ _ _ _ => pg_name (i := 12) sc_block_text.nd rfl (by first | exact .inl rfl | exact .inr rfl)) (fun _ _ _ _ _ => pts_nil) (fun _ _ _ _ _ => (pe_c f_words_of hr (by omega) (by rfl) (pa_cons (pv 12) (pa_cons (pe_ifExp (pt_cmpR (show OpR _ (compareOp .In) (rIn K false) from op_in_seq) (pe_slice sl_str (pv 12) po_none (po_some pe_int)) (pe_tup (pa_cons pe_str (pa_cons pe_str pa_nil))) (by rfl)) pe_int (pv 3)) pa_nil))))) (pss_cons (ps_asg (pe_and (pe_cmpR op_eq (pv 2) pe_int (nomark _)) (pe_one (pe_callB (cr_any rfl) (by rfl) m_any (by decide +kernel) (pa_cons (pe_lc2 (own := [("row", 13), ("word", 14)]) (vs1 := [14]) (g := gName 13) (g1 := gName 14) (wi1 := iList K (tVar 13)) (by rfl) sc_block_text.nd (pi_list (pv 9)) (blkOk_by (own := [("row", 13), ("word", 14)]) (N := N_block_text) (sc := defScope s_block_text) (by decide +kernel)) (by decide) (fun _ _ _ _ _ => pg_name (i := 13) sc_block_text.nd rfl (by first | exact .inl rfl | exact .inr rfl)) (fun _ _ _ _ _ => pts_nil) (fun _ _ _ _ _ => (pi_list (pv 13))) (fun _ _ _ _ _ => pg_name (i := 14) sc_block_text.nd rfl (by first | exact .inl rfl | exact .inr rfl)) (fun _ _ _ _ _ => pts_nil) (fun _ _ _ _ _ => (pe_c f_is_like_mark hr (by omega) (by rfl) (pa_cons (pv 14) pa_nil)))) pa_nil)))) (pg_name (i := 10) sc_block_text.nd rfl (by first | exact .inl rfl | exact .inr rfl))) (pss_cons (ps_if (pt_cmpR op_eq (pe_ix ix_str (pe_m1 PySem.F.slot_str_lstrip PySem.F.type_str_lstrip mt_lstripChars (pv 6) (pe_glob (by rfl) hm_FEED hr_FEED)) pe_int (fun _ _ => rfl)) pe_str (nomark _)) (pss_one (ps_asg (pe_op op_add_str (pv 5) (pe_ifExp (pt_val (pv 10)) pe_str (pe_callTy call_str_int (by rfl) m_str (by decide +kernel) (pa_cons (pv 4) pa_nil)))) (pg_name (i := 5) sc_block_text.nd rfl (by first | exact .inl rfl | exact .inr rfl)))) pss_nil) (pss_cons (ps_asg (pe_lst (pa_cons (pe_op op_add_str (pv 5) (pe_ifExp (pt_cmpR op_eq (pv 7) pe_int (nomark _)) pe_str (pe_ifExp (pt_cmpR op_eq (pv 7) pe_int (nomark _)) pe_str pe_str))) pa_nil)) (pg_name (i := 11) sc_block_text.nd rfl (by first | exact .inl rfl | exact .inr rfl))) (pss_cons (ps_expr (pe_bm PySem.F.plainAttrs_list PySem.F.slot_list_extend PySem.F.type_list_extend mt_extend (pv 11) (pa_cons (pe_c f_block_lines hr (by omega) (by rfl) (pa_cons (pv 9) (pa_cons (pv 1) (pa_cons (pe_ifExp (pt_val (pv 10)) pe_int (pv 2)) (pa_cons (pv 3) pa_nil))))) pa_nil))) (pss_one (ps_ret (pe_op op_add_str (pe_m1 PySem.F.slot_str_join PySem.F.type_str_join mt_join (pe_glob (by rfl) hm_FEED hr_FEED) (pv 11)) (pe_op op_repN (pe_glob (by rfl) hm_FEED hr_FEED) (pe_callB (call_max2 rfl) (by rfl) m_max (by decide +kernel) (pa_cons pe_int (pa_cons (pe_op op_sub (pv 7) pe_int) pa_nil))))))))))))))))), ?_, Nat.zero_le _, fun _ h => nomatch h⟩
    refine es_seq (es_asg (s := .d (.str [124])) (M1 := []) (ev_isD (ev_iteS (b := false) (l := []) (m := [124]) (et_B (ev_var rfl)) (fun h => nomatch h) (fun _ => ev_str [124])) rfl)) ?_
    refine es_nG (G' := [_, _, _, _, _, _, _, _, _, _, _, _, _, _, _]) rfl ?_
    refine es_seq (es_asg (s := .d (.str (bodyL v))) (M1 := []) (ev_m1 (ev_var rfl) (ev_c hd_FEED) (rm_rstrip (by omega)))) ?_
    refine es_nG (G' := [_, _, _, _, _, _, _, _, _, _, _, _, _, _, _]) rfl ?_
    refine es_seq (es_asg (s := .d (.int (feedI v))) (M1 := []) (ev_isD (ev_op (ev_cb (xs := [.str v]) (ea_cons (ev_var rfl) ea_nil) (rc_lenS (by omega))) (ev_cb (xs := [.str (bodyL v)]) (ea_cons (ev_var rfl) ea_nil) (rc_lenS (by omega))) ro_sub) (by rw [eF]))) ?_
    refine es_nG (G' := [_, _, _, _, _, _, _, _, _, _, _, _, _, _, _]) rfl ?_
    refine es_pass (et_is (et_test (ev_op (ev_var rfl) (ev_str []) ro_eqS)) (decide_eq_false hbd)) ?_
    refine es_seq (es_asg (s := .d (.lst ((rowsL v).map Dt.str))) (M1 := []) (ev_wk (ev_m1 (ev_var rfl) (ev_c hd_FEED) (rm_split (by omega) (by decide) (by decide))) lstX_lst)) ?_
    refine es_nG (G' := [_, _, _, _, _, _, _, _, _, _, _, _, _, _, _]) rfl ?_
    obtain ⟨hw1, hw2⟩ := rows_ok hl ha
    have hleft := body_left hbd
    have eT : topL v ind deep = tenL v ind deep ++ chompL (feedI v) := rfl
    have eA : asideL v ind = (decide (ind = 0) && ((rowsL v).map markL).any id) := rfl
    have eB : blockL v ind deep = TL.joinL [10] (topL v ind deep :: (rowsL v).map fun l => lineL l (inX v ind)) ++ fds (max 0 (feedI v - 1)) := if_neg hbd
    have eX : inX v ind = if asideL v ind = true then 1 else ind := rfl
    have hX : 0 ≤ inX v ind ∧ inX v ind ≤ 200 := by rw [eX]; split <;> omega
    have htl := ten_len v (ind := ind) (by omega) h3
    have hcl := chomp_len (feedI v)
    have eH : atI (lstripL [10] (bodyL v)) 0 = some (headC v) := by
      have hp : 0 < (lstripL [10] (bodyL v)).length := List.length_pos_iff.mpr hleft
      rw [show (0 : Int) = ((0 : Nat) : Int) from rfl, atI_nat hp]
      unfold headC
      rw [List.getD_eq_getElem?_getD, List.getElem?_eq_getElem hp] <;> rfl
    have eN : tenL v ind deep = if decide ([headC v] = [32]) = true then [124] ++ (if asideL v ind = true then [50] else TL.numL deep.toNat) else [124] := rfl
    have hll : (lstripL [10] (bodyL v)).length ≤ 1000000 := by
      have : (lstripL [10] (bodyL v)).length ≤ (bodyL v).length := (List.dropWhile_sublist _).length_le
      omega
    have hnum := num_one (d := deep) (by omega) h3
    rw [eB]
    generalize rowsL v = ws at *
    refine es_seq (es_asg (s := .d (.lst (ws.map rowD))) (M1 := []) (ev_lcM ws Dt.str rowD (ei_list (ev_var rfl)) (by omega) (hw_name (by decide)) fun l hlm => ⟨_, eg_name, ev_wk (ev_call0 (ds := [.str l, .int 0]) (es := []) (z := lstX K [.str l]) (ea_cons (ev_var rfl) (ea_cons (ev_isD (ev_iteI (i := 0) (j := 0) (b := decide (l.take 1 ∈ ([[32], [9]] : List (List Nat)))) (et_test (ev_op (ev_isD (ev_slS (ev_var rfl) eo_none (eo_some ev_int) (by have := (hw2 l hlm).1; omega)) (show _ = Dt.str (l.take 1) by rw [show cutL l none (some 1) = l.take 1 from cut_pre l 1])) (ev_tup (xs := [[32], [9]].map Dt.str) (ea_cons (ev_str _) (ea_cons (ev_str _) ea_nil)) (show 2 ≤ 1000 by decide)) ro_inT)) (fun _ => ev_int) (fun _ => ev_var rfl)) (by split <;> rfl)) ea_nil)) ⟨l, by have := (hw2 l hlm).1; omega, rfl, rfl, rfl, rfl⟩ rfl (fun _ => rfl)) lstX_lst⟩)) ?_
    refine es_nG (G' := [_, _, _, _, _, _, _, _, _, _, _, _, _, _, _]) rfl ?_
    refine es_seq (es_asg (s := .d (.bl (asideL v ind))) (M1 := []) (ev_isD (ev_andV (a := decide (ind = 0)) (c := (ws.map markL).any id) (ev_op (ev_var rfl) ev_int ro_eqI) (fun _ => ev_cb (xs := [.lst ((ws.map markL).map Dt.bl)]) (ea_cons (ev_isD (ev_lc2 ws rowD (fun l => [l]) Dt.str (fun _ y => .bl (markL y)) (ei_list (ev_var rfl)) (by rw [any_two, List.length_map, List.length_map]; omega) (hw_name (by decide)) (hw_name (by decide)) fun l hlm => ⟨_, eg_name, ei_list (ev_var rfl), fun y hy => ⟨_, eg_name, ev_call0 (ds := [.str y]) (es := []) (z := .bl (markL y)) (ea_cons (ev_var rfl) ea_nil) ⟨y, by rw [List.mem_singleton] at hy; subst hy; have := (hw2 _ hlm).1; omega, rfl, rfl, rfl, rfl⟩ rfl (fun _ => rfl)⟩⟩) (by rw [any_two])) ea_nil) rc_any) (fun _ => rfl)) (by rw [eA]))) ?_
    refine es_nG (G' := [_, _, _, _, _, _, _, _, _, _, _, _, _, _, _]) rfl ?_
    generalize asideL v ind = as at *
    refine es_seq (G1 := [some (.d (.str v)), some (.d (.bl false)), some (.d (.int ind)), some (.d (.int 0)), some (.d (.int deep)), some (.d (.str (tenL v ind deep))), some (.d (.str (bodyL v))), some (.d (.int (feedI v))), some (.d (.lst (ws.map Dt.str))), some (.d (.lst (ws.map rowD))), some (.d (.bl as)), none, none, none, none]) (M1 := []) ?_ ?_
    · have t : EvT K _ [some (.d (.str v)), some (.d (.bl false)), some (.d (.int ind)), some (.d (.int 0)), some (.d (.int deep)), some (.d (.str [124])), some (.d (.str (bodyL v))), some (.d (.int (feedI v))), some (.d (.lst (ws.map Dt.str))), some (.d (.lst (ws.map rowD))), some (.d (.bl as)), none, none, none, none] [] (decide ([headC v] = [32])) [] := et_test (ev_op (ev_op (ev_m1 (ev_var (i := 6) rfl) (ev_c hd_FEED) (rm_lstrip (by omega))) ev_int (ro_ixS hll eH)) (ev_str [32]) ro_eqS)
      refine es_if t (fun h => ?_) (fun h => ?_)
      · have e : tenL v ind deep = [124] ++ (if as = true then [50] else TL.numL deep.toNat) := by rw [eN, if_pos h]
        rw [e]
        exact es_asg (i := 5) (ev_op (ev_var rfl) (ev_iteS (et_B (ev_var rfl)) (fun _ => ev_str [50]) (fun _ => ev_cb (xs := [.int deep]) (ea_cons (ev_var rfl) ea_nil) (rc_str (by
          have : deep = 1 ∨ deep = 2 ∨ deep = 3 ∨ deep = 4 ∨ deep = 5 ∨ deep = 6 ∨ deep = 7 ∨ deep = 8 ∨ deep = 9 := by omega
          rcases this with e | e | e | e | e | e | e | e | e <;> subst e <;> decide) (by omega)))) (ro_addS (by
          have : (if as = true then ([50] : List Nat) else TL.numL deep.toNat).length = 1 := by split <;> first | rfl | exact hnum
          rw [this]; decide)))
      · have e : tenL v ind deep = [124] := by rw [eN, if_neg (by rw [h]; exact Bool.false_ne_true)]
        rw [e]
        exact es_next
    refine es_seq (es_asg (ev_lstO (M1 := []) (xs := [.str (topL v ind deep)]) (ea_cons (ev_isD (ev_op (ev_var rfl) (ev_iteS (et_test (ev_op (ev_var rfl) ev_int ro_eqI)) (fun _ => ev_str [45]) (fun _ => ev_iteS (et_test (ev_op (ev_var rfl) ev_int ro_eqI)) (fun _ => ev_str []) (fun _ => ev_str [43]))) (ro_addS (show (tenL v ind deep).length + (chompL (feedI v)).length ≤ _ by omega))) (by rw [eT] <;> rfl)) ea_nil) (show 1 ≤ 1000 by decide))) ?_
    refine es_nG (G' := [_, _, _, _, _, _, _, _, _, _, _, _, _, _, _]) rfl ?_
    refine es_seq (es_extO (k := 0) (xs := [.str (topL v ind deep)]) (ys := linesD ws (inX v ind)) (M2 := [.lst [.str (topL v ind deep)]]) (ev_var rfl) (ev_call0 (ds := [.lst (ws.map rowD), .bl false, .int (inX v ind), .int 0]) (es := []) (z := lstX K (linesD ws (inX v ind))) (ea_cons (ev_var rfl) (ea_cons (ev_var rfl) (ea_cons (ev_isD (ev_iteI (et_B (ev_var rfl)) (fun _ => ev_int) (fun _ => ev_var rfl)) (by rw [eX])) (ea_cons (ev_var rfl) ea_nil)))) ⟨ws, inX v ind, by omega, fun l hlm => ⟨by have := (hw2 l hlm).1; omega, (hw2 l hlm).2⟩, hX.1, hX.2, rfl, rfl, rfl, rfl⟩ rfl (fun _ => rfl)) ⟨_, rfl⟩ rfl (by unfold linesD; rw [List.length_map, List.length_singleton]; omega)) ?_
    have htop : (topL v ind deep).length ≤ 3 := by rw [eT, List.length_append]; omega
    generalize topL v ind deep = tp at *
    have eZ : [Dt.str tp] ++ linesD ws (inX v ind) = (tp :: ws.map fun l => lineL l (inX v ind)).map Dt.str := by
      unfold linesD
      rw [List.map_cons, List.map_map] <;> rfl
    have hsum : ((tp :: ws.map fun l => lineL l (inX v ind)).map (·.length)).sum ≤ 301 * (tp :: ws.map fun l => lineL l (inX v ind)).length := sum_le fun x hx => by
      rcases List.mem_cons.mp hx with e | hx
      · rw [e]; omega
      · obtain ⟨l, hlm, rfl⟩ := List.mem_map.mp hx
        have q1 := line_len l hX.2
        have q2 := (hw2 l hlm).1
        omega
    have hcount : (tp :: ws.map fun l => lineL l (inX v ind)).length ≤ 102 := by rw [List.length_cons, List.length_map]; omega
    have hjoin := join_len [10] (tp :: ws.map fun l => lineL l (inX v ind))
    refine es_nM (M' := [.lst ((tp :: ws.map fun l => lineL l (inX v ind)).map Dt.str)]) (by rw [← eZ] <;> rfl) ?_
    generalize (tp :: ws.map fun l => lineL l (inX v ind)) = ls at *
    rw [List.length_singleton] at hjoin
    show EvS K _ _ _ (.rt (.d (.str (TL.joinL [10] ls ++ fds (max 0 (feedI v - 1))))) ([MO.lst (ls.map Dt.str)].set 0 .gone))
    refine es_ret (ev_op (ev_m1 (ev_c hd_FEED) (ev_freeze (k := 0) (ev_var rfl) rfl) (rm_join (by rw [List.length_singleton]; omega))) (ev_op (ev_c hd_FEED) (ev_isD (ev_cb (xs := [.int 0, .int (feedI v - 1)]) (ea_cons ev_int (ea_cons (ev_op (ev_var rfl) ev_int ro_sub) ea_nil)) rc_max2) (show _ = Dt.int (max 0 (feedI v - 1)) by congr 1; split <;> omega)) (ro_repN (l := [10]) (by omega) (by omega) (by show 1 * (max 0 (feedI v - 1)).toNat ≤ _; omega))) (ro_addS ?_))
    rw [fds_len]
    omega
end
end T
namespace T
open PySem PySem.Spec PyProof.Rows L2 DJ
abbrev BLK : List Nat := [98, 108, 111, 99, 107]
theorem has_lit (v : List Nat) : hasL v LIT BLK = true := by
  unfold hasL
  rw [if_neg (by decide), if_neg (by decide)]
  rfl
section
variable {P : Program} {w : World} {K : PySem.W.Frag} {mg : Str → Option Value} {base : Heap}
def R_tos : List Sl → List MO → Sl → List MO → Prop := fun ss M r M' => ∃ (v : List Nat) (ind width deep : Int), v.length ≤ 100 ∧ (∀ c ∈ v, c < 128) ∧ 0 ≤ ind ∧ ind ≤ 100 ∧ 1 ≤ deep ∧ deep ≤ 9 ∧ ss = [.d (.str v), .d (.str LIT), .d (.str BLK), .d (.int ind), .d (.int width), .d (.int deep)] ∧ M = [] ∧ r = .d (.str (blockL v ind deep)) ∧ M' = []
theorem cal_tos (D : Df K mg "text_of_scalar" s_text_of_scalar ["value", "style", "context", "indent", "width", "deep"]) (f_block_text : Cal P w K mg base 5 "block_text" (SpR K 5 R_block) []) : Cal P w K mg base 6 "text_of_scalar" (SpR K 6 R_tos) [] := by
  refine cal_mk (k := 5) D sc_text_of_scalar rfl fun f cdv A outer s H E hr ss M r M' h => ?_
  obtain ⟨v, ind, width, deep, hl, ha, h0, h1, h2, h3, rfl, rfl, rfl, rfl⟩ := h
  refine ⟨_, [], (pss_cons (ps_if (pt_cmpR (show OpR _ (compareOp .In) (rIn K false) from op_in_seq) (pv 1) (pe_tup (pa_cons pe_str (pa_cons pe_str pa_nil))) (by rfl)) (pss_one (ps_ret (pe_c f_block_text hr (by omega) (by rfl) (pa_cons (pv 0) (pa_cons (pe_cmpR op_eq (pv 1) pe_str (nomark _)) (pa_cons (pv 3) (pa_cons (pe_ifExp (pt_cmpR op_eq (pv 1) pe_str (nomark _)) (pv 4) pe_int) (pa_cons (pv 5) pa_nil)))))))) pss_nil) (pss_one ps_never)), ?_, Nat.le_refl _, fun _ h => nomatch h⟩
  exact es_seqR (es_yes (et_test (ev_op (ev_var rfl) (ev_tup (xs := [LIT, [102, 111, 108, 100, 101, 100]].map Dt.str) (ea_cons (ev_str _) (ea_cons (ev_str _) ea_nil)) (show 2 ≤ 1000 by decide)) ro_inT)) (by decide) (es_ret (ev_call0 (ds := [.str v, .bl false, .int ind, .int 0, .int deep]) (es := []) (z := .str (blockL v ind deep)) (ea_cons (ev_var rfl) (ea_cons (ev_isD (ev_op (ev_var rfl) (ev_str [102, 111, 108, 100, 101, 100]) ro_eqS) rfl) (ea_cons (ev_var rfl) (ea_cons (ev_isD (ev_iteI (i := 0) (j := 0) (b := false) (et_is (et_test (ev_op (ev_var rfl) (ev_str [102, 111, 108, 100, 101, 100]) ro_eqS)) rfl) (fun h => nomatch h) (fun _ => ev_int)) rfl) (ea_cons (ev_var rfl) ea_nil))))) ⟨v, ind, deep, hl, ha, h0, h1, h2, h3, rfl, rfl, rfl, rfl⟩ rfl (fun _ => rfl))))
def R_whole : List Sl → List MO → Sl → List MO → Prop := fun ss M r M' => ∃ i lo hi : Int, lo ≤ i ∧ i ≤ hi ∧ ss = [.d (.int i), .d (.int lo), .d (.int hi)] ∧ M = [] ∧ r = .d (.bl true) ∧ M' = []
theorem cal_whole {k : Nat} (D : Df K mg "is_whole" s_is_whole ["thing", "low", "high"]) (m_isinstance : mg "isinstance" = none) (m_int : mg "int" = none) (m_bool : mg "bool" = none) : Cal P w K mg base (k + 1) "is_whole" (SpR K 3 R_whole) [] := by
  refine cal_mk D sc_is_whole rfl fun f cdv A outer s H E hr ss M r M' h => ?_
  obtain ⟨i, lo, hi, h1, h2, rfl, rfl, rfl, rfl⟩ := h
  refine ⟨_, [], (pss_one (ps_ret (pe_and (pe_callB call_isi (by rfl) m_isinstance (by decide +kernel) (pa_cons (pv 0) (pa_cons (pe_bltn (v := .ty "int") (u := .type "int") (by rfl) m_int (by decide +kernel) rfl) pa_nil))) (pe_and (pe_not (pe_callB call_isi (by rfl) m_isinstance (by decide +kernel) (pa_cons (pv 0) (pa_cons (pe_bltn (v := .ty "bool") (u := .type "bool") (by rfl) m_bool (by decide +kernel) rfl) pa_nil)))) (pe_one (pe_chain op_le op_le (pv 1) (pv 0) (pv 2))))))), ?_, Nat.le_refl _, fun _ h => nomatch h⟩
  exact es_retD (ev_andV (a := true) (c := true) (ev_cb (xs := [.int i, tyInt]) (ea_cons (ev_var rfl) (ea_cons ev_ty ea_nil)) rc_intI) (fun _ => ev_isD (ev_andV (a := true) (c := true) (ev_isD (ev_notV (ev_cb (xs := [.int i, tyBool]) (ea_cons (ev_var rfl) (ea_cons ev_ty ea_nil)) rc_intNB)) rfl) (fun _ => ev_isD (ev_chain (ev_var rfl) (ev_var rfl) ro_le (fun _ => ev_var rfl) (fun _ => ro_le) (fun _ => rfl)) (by rw [decide_eq_true h1, decide_eq_true h2] <;> rfl)) (fun _ => rfl)) rfl) (fun _ => rfl)) rfl
def R_cdeep : List Sl → List MO → Sl → List MO → Prop := fun ss M r M' => ∃ d i : Int, 1 ≤ d ∧ d ≤ 9 ∧ d ≤ i + 1 ∧ ss = [.d (.int d), .d (.int i)] ∧ M = [] ∧ r = .d .non ∧ M' = []
theorem cal_cdeep {k : Nat} (D : Df K mg "check_deep" s_check_deep ["deep", "indent"]) (f_check : Cal P w K mg base (k + 1) "check" (SpR K 2 R_check) []) (f_is_whole : Cal P w K mg base (k + 1) "is_whole" (SpR K 3 R_whole) []) (m_min : mg "min" = none) : Cal P w K mg base (k + 2) "check_deep" (SpR K 2 R_cdeep) [] := by
  refine cal_mkN D sc_check_deep rfl fun f cdv A outer s H E hr ss M r M' h => ?_
  obtain ⟨d, i, h1, h2, h3, rfl, rfl, rfl, rfl⟩ := h
  refine ⟨_, [], [some (.d (.int d)), some (.d (.int i))], (pss_one (ps_expr (pe_c f_check hr (by omega) (by rfl) (pa_cons (pe_c f_is_whole hr (by omega) (by rfl) (pa_cons (pv 0) (pa_cons pe_int (pa_cons (pe_callB (call_min2 rfl) (by rfl) m_min (by decide +kernel) (pa_cons pe_int (pa_cons (pe_op op_add (pv 1) pe_int) pa_nil))) pa_nil)))) (pa_cons pe_str pa_nil))))), ?_, Nat.le_refl _, rfl⟩
  exact es_drop (ev_call0 (ds := [.bl true, .str [100, 101, 101, 112]]) (es := []) (z := .non) (ea_cons (ev_call0 (ds := [.int d, .int 1, .int (if i + 1 < 9 then i + 1 else 9)]) (es := []) (z := .bl true) (ea_cons (ev_var rfl) (ea_cons ev_int (ea_cons (ev_cb (xs := [.int 9, .int (i + 1)]) (ea_cons ev_int (ea_cons (ev_op (ev_var rfl) ev_int ro_add) ea_nil)) rc_min2) ea_nil))) ⟨d, 1, _, h1, by split <;> omega, rfl, rfl, rfl, rfl⟩ rfl (fun _ => rfl)) (ea_cons (ev_str _) ea_nil)) ⟨_, rfl, rfl, rfl, rfl⟩ rfl (fun _ => rfl))
def R_wr : List Sl → List MO → Sl → List MO → Prop := fun ss M r M' => ∃ (v : List Nat) (ind width deep : Int), v.length ≤ 100 ∧ v.all goodC = true ∧ 0 ≤ ind ∧ ind ≤ 100 ∧ 0 ≤ width ∧ width ≤ 200 ∧ 1 ≤ deep ∧ deep ≤ 9 ∧ deep ≤ ind + 1 ∧ ss = [.d (.str v), .d (.str LIT), .d (.str BLK), .d (.int ind), .d (.int width), .d (.int deep)] ∧ M = [] ∧ r = .d (.str (blockL v ind deep)) ∧ M' = []
theorem cal_wr (D : DfD K mg "written" s_written [.int 0, .int 1]) (f_check : Cal P w K mg base 1 "check" (SpR K 2 R_check) []) (f_is_value : Cal P w K mg base 3 "is_value" (SpR K 1 R_value) []) (f_check_style : Cal P w K mg base 2 "check_style" (SpR K 2 R_style) []) (f_is_whole : Cal P w K mg base 1 "is_whole" (SpR K 3 R_whole) []) (f_check_deep : Cal P w K mg base 2 "check_deep" (SpR K 2 R_cdeep) []) (f_has_text : Cal P w K mg base 5 "has_text" (SpR K 3 R_has) []) (f_text_of_scalar : Cal P w K mg base 6 "text_of_scalar" (SpR K 6 R_tos) [])
    (j : Nat) (hj : 6 - (2 - j) + (2 - j) = 6)
    (hbind : ∀ (T : Addr) (kV doc pm : Value) (an : Option Addr) (cdv ct : Value) (us its : List Value), us.length = 6 - (2 - j) → its.length = 2 →
      ∃ k, bindArgs (PySem.W.fnOf "written" "written" (defArgs s_written) (defBody s_written) (defScope s_written) (.ref T) kV doc pm an cdv ct) ⟨us, []⟩ = seqItems? (.ref T) >>= k ∧ k (some its.toArray) = pure ((["value", "style", "context", "indent", "width", "deep"] : List Str).zip (us ++ its.drop j))) :
    Cal P w K mg base 7 "written" (SpR K 6 R_wr) (([.int 0, .int 1] : List V).drop j) := by
  refine cal_mkD (k := 6) (N := N_written) D sc_written rfl (fun f cdv A outer s H E hr ss M r M' h => ?_) j hj (by simp) hbind
  obtain ⟨v, ind, width, deep, hl, hg, h0, h1, h2, h3, h4, h5, h6, rfl, rfl, rfl, rfl⟩ := h
  refine ⟨_, [], (pss_cons (ps_expr (pe_c f_check hr (by omega) (by rfl) (pa_cons (pe_c f_is_value hr (by omega) (by rfl) (pa_cons (pv 0) pa_nil)) (pa_cons pe_str pa_nil)))) (pss_cons (ps_expr (pe_c f_check_style hr (by omega) (by rfl) (pa_cons (pv 1) (pa_cons (pv 2) pa_nil)))) (pss_cons (ps_expr (pe_c f_check hr (by omega) (by rfl) (pa_cons (pe_c f_is_whole hr (by omega) (by rfl) (pa_cons (pv 3) (pa_cons pe_int (pa_cons pe_int pa_nil)))) (pa_cons pe_str pa_nil)))) (pss_cons (ps_expr (pe_c f_check hr (by omega) (by rfl) (pa_cons (pe_c f_is_whole hr (by omega) (by rfl) (pa_cons (pv 4) (pa_cons pe_int (pa_cons pe_int pa_nil)))) (pa_cons pe_str pa_nil)))) (pss_cons (ps_expr (pe_c f_check_deep hr (by omega) (by rfl) (pa_cons (pv 5) (pa_cons (pv 3) pa_nil)))) (pss_cons (ps_if (pt_not (pt_val (pe_c f_has_text hr (by omega) (by rfl) (pa_cons (pv 0) (pa_cons (pv 1) (pa_cons (pv 2) pa_nil)))))) pss_never pss_nil) (pss_one (ps_ret (pe_c f_text_of_scalar hr (by omega) (by rfl) (pa_cons (pv 0) (pa_cons (pv 1) (pa_cons (pv 2) (pa_cons (pv 3) (pa_cons (pv 4) (pa_cons (pv 5) pa_nil))))))))))))))), ?_, Nat.le_refl _, fun _ h => nomatch h⟩
  refine es_seq (es_drop (ev_call0 (ds := [.bl true, .str [118, 97, 108, 117, 101]]) (es := []) (z := .non) (ea_cons (ev_call0 (ds := [.str v]) (es := []) (z := .bl true) (ea_cons (ev_var rfl) ea_nil) ⟨v, by omega, hg, rfl, rfl, rfl, rfl⟩ rfl (fun _ => rfl)) (ea_cons (ev_str _) ea_nil)) ⟨_, rfl, rfl, rfl, rfl⟩ rfl (fun _ => rfl))) ?_
  refine es_seq (es_drop (ev_call0 (ds := [.str LIT, .str BLK]) (es := []) (z := .non) (ea_cons (ev_var rfl) (ea_cons (ev_var rfl) ea_nil)) ⟨LIT, BLK, by decide, by decide, rfl, rfl, rfl, rfl⟩ rfl (fun _ => rfl))) ?_
  refine es_seq (es_drop (ev_call0 (ds := [.bl true, .str [105, 110, 100, 101, 110, 116]]) (es := []) (z := .non) (ea_cons (ev_call0 (ds := [.int ind, .int 0, .int 100]) (es := []) (z := .bl true) (ea_cons (ev_var rfl) (ea_cons ev_int (ea_cons ev_int ea_nil))) ⟨ind, 0, 100, h0, h1, rfl, rfl, rfl, rfl⟩ rfl (fun _ => rfl)) (ea_cons (ev_str _) ea_nil)) ⟨_, rfl, rfl, rfl, rfl⟩ rfl (fun _ => rfl))) ?_
  refine es_seq (es_drop (ev_call0 (ds := [.bl true, .str [119, 105, 100, 116, 104]]) (es := []) (z := .non) (ea_cons (ev_call0 (ds := [.int width, .int 0, .int 200]) (es := []) (z := .bl true) (ea_cons (ev_var rfl) (ea_cons ev_int (ea_cons ev_int ea_nil))) ⟨width, 0, 200, h2, h3, rfl, rfl, rfl, rfl⟩ rfl (fun _ => rfl)) (ea_cons (ev_str _) ea_nil)) ⟨_, rfl, rfl, rfl, rfl⟩ rfl (fun _ => rfl))) ?_
  refine es_seq (es_drop (ev_call0 (ds := [.int deep, .int ind]) (es := []) (z := .non) (ea_cons (ev_var rfl) (ea_cons (ev_var rfl) ea_nil)) ⟨deep, ind, h4, h5, h6, rfl, rfl, rfl, rfl⟩ rfl (fun _ => rfl))) ?_
  refine es_pass (et_is (et_not (et_B (ev_call0 (ds := [.str v, .str LIT, .str BLK]) (es := []) (z := .bl (hasL v LIT BLK)) (ea_cons (ev_var rfl) (ea_cons (ev_var rfl) (ea_cons (ev_var rfl) ea_nil))) ⟨v, LIT, BLK, by omega, rfl, rfl, rfl, rfl⟩ rfl (fun _ => rfl)))) (by rw [has_lit] <;> rfl)) ?_
  exact es_ret (ev_call0 (ds := [.str v, .str LIT, .str BLK, .int ind, .int width, .int deep]) (es := []) (z := .str (blockL v ind deep)) (ea_cons (ev_var rfl) (ea_cons (ev_var rfl) (ea_cons (ev_var rfl) (ea_cons (ev_var rfl) (ea_cons (ev_var rfl) (ea_cons (ev_var rfl) ea_nil)))))) ⟨v, ind, width, deep, hl, good_asc hg, h0, h1, h4, h5, rfl, rfl, rfl, rfl⟩ rfl (fun _ => rfl))
theorem bind4 (T : Addr) (kV doc pm : Value) (an : Option Addr) (cdv ct : Value) (us its : List Value) (h1 : us.length = 4) (h2 : its.length = 2) :
      ∃ k, bindArgs (PySem.W.fnOf "written" "written" (defArgs s_written) (defBody s_written) (defScope s_written) (.ref T) kV doc pm an cdv ct) ⟨us, []⟩ = seqItems? (.ref T) >>= k ∧ k (some its.toArray) = pure ((["value", "style", "context", "indent", "width", "deep"] : List Str).zip (us ++ its.drop 0)) :=
  match us, h1, its, h2 with | [_, _, _, _], _, [_, _], _ => ⟨_, rfl, rfl⟩
theorem bind6 (T : Addr) (kV doc pm : Value) (an : Option Addr) (cdv ct : Value) (us its : List Value) (h1 : us.length = 6) (h2 : its.length = 2) :
      ∃ k, bindArgs (PySem.W.fnOf "written" "written" (defArgs s_written) (defBody s_written) (defScope s_written) (.ref T) kV doc pm an cdv ct) ⟨us, []⟩ = seqItems? (.ref T) >>= k ∧ k (some its.toArray) = pure ((["value", "style", "context", "indent", "width", "deep"] : List Str).zip (us ++ its.drop 2)) :=
  match us, h1, its, h2 with | [_, _, _, _, _, _], _, [_, _], _ => ⟨_, rfl, rfl⟩
end
end T
namespace T
open PySem PySem.Spec PyProof.Rows L2 DJ
/-! ### the law's own look -/
abbrev s__law_lines : Stmt := topS 47
abbrev N__law_lines : List Str := ["_law_state", "_law_some", "_law_rows", "_law_turn"]
theorem sc__law_lines : FnScope N__law_lines ["_law_state"] (defScope s__law_lines) := ⟨rfl, rfl, rfl, by decide +kernel, rfl, by decide +kernel, by decide +kernel⟩
abbrev s__law_due : Stmt := topS 48
abbrev N__law_due : List Str := ["_law_value_here", "_law_indent", "_law_deep", "_law_feeds", "_law_sign", "_law_rows", "_law_marks", "_law_more", "_law_full", "_law_digit_here", "_law_found", "_law_row"]
theorem sc__law_due : FnScope N__law_due ["_law_value_here", "_law_indent", "_law_deep"] (defScope s__law_due) := ⟨rfl, rfl, rfl, by decide +kernel, rfl, by decide +kernel, by decide +kernel⟩
theorem at0 {α : Type} (x : α) (xs : List α) : atI (x :: xs) 0 = some x := by
  rw [show (0 : Int) = ((0 : Nat) : Int) from rfl, atI_nat (Nat.zero_lt_succ _)] <;> rfl
theorem eqD_nilL (xs : List (List Nat)) : eqD (.lst (xs.map Dt.str)) (.lst []) = decide (xs = []) := by
  cases xs with
  | nil => simp [eqD, toP, toPs, PyData.eqv, PyData.eqvAll]
  | cons x xs => simp [eqD, toP, toPs, PyData.eqv, PyData.eqvAll]
theorem plDs_strs : ∀ {xs : List (List Nat)}, (∀ x ∈ xs, ∀ c ∈ x, c < 128) → plDs (xs.map Dt.str) = true ∧ dpDs (xs.map Dt.str) = 0
  | [], _ => ⟨rfl, rfl⟩
  | x :: xs, h => by
    obtain ⟨h1, h2⟩ := plDs_strs fun y hy => h y (List.mem_cons_of_mem _ hy)
    refine ⟨?_, ?_⟩
    · show (plD (.str x) && plDs (xs.map Dt.str)) = true
      rw [h1, Bool.and_true]
      exact List.all_eq_true.mpr fun c hc => decide_eq_true (h x List.mem_cons_self c hc)
    · show max 0 (dpDs (xs.map Dt.str)) = 0
      rw [h2] <;> rfl
abbrev SOME : List (List Nat) := [[], [], [97], [32, 98], [32, 32], [9, 99], [45, 45, 45], [46, 46, 46, 32, 100], [45, 45, 45, 32], [101, 32, 32], [32, 32, 32, 102, 32, 103], [35, 104], [39, 105]]
theorem some_ok : SOME ≠ [] ∧ SOME.length ≤ 100000 ∧ ∀ p ∈ SOME, p.length ≤ 6 ∧ p.all goodC = true := by decide +kernel
def rowsW (x : Sd) (n : Int) : List (List Nat) × Sd := mapA (fun x (_ : Nat) => oneT x SOME) (List.range n.toNat) x
def linesW (x : Sd) : List Nat × Sd :=
  (TL.joinL [10] (rowsW (digitW x 7).2 (digitW x 7).1).1 ++ fds (digitW (rowsW (digitW x 7).2 (digitW x 7).1).2 4).1, (digitW (rowsW (digitW x 7).2 (digitW x 7).1).2 4).2)
theorem rowsW_ok (x : Sd) (n : Int) : (rowsW x n).1.length = n.toNat ∧ ∀ p ∈ (rowsW x n).1, p.length ≤ 6 ∧ p.all goodC = true := by
  unfold rowsW
  exact ⟨by rw [mapA_len, List.length_range], mapA_all (p := fun (p : List Nat) => p.length ≤ 6 ∧ p.all goodC = true) (fun m _ => some_ok.2.2 _ (oneT_mem m some_ok.1)) _ _⟩
theorem fds_good (n : Int) : (fds n).all goodC = true := by
  rw [List.all_eq_true]
  intro c hc
  obtain ⟨l, hl, hcl⟩ := List.mem_flatten.mp hc
  rw [(List.mem_replicate.mp hl).2, List.mem_singleton] at hcl
  subst hcl
  rfl
theorem join_good : ∀ {xs : List (List Nat)}, (∀ p ∈ xs, p.all goodC = true) → (TL.joinL [10] xs).all goodC = true
  | [], _ => rfl
  | [x], h => h x List.mem_cons_self
  | x :: y :: r, h => by
    have ih := join_good (xs := y :: r) fun p hp => h p (List.mem_cons_of_mem _ hp)
    show (x ++ ([10] ++ TL.joinL [10] (y :: r))).all goodC = true
    rw [List.all_append, List.all_append, ih, h x List.mem_cons_self] <;> rfl
theorem rows_bound (x : Sd) : (TL.joinL [10] (rowsW (digitW x 7).2 (digitW x 7).1).1).length ≤ 42 ∧ ((rowsW (digitW x 7).2 (digitW x 7).1).1.map (·.length)).sum + (rowsW (digitW x 7).2 (digitW x 7).1).1.length * 1 ≤ 42 := by
  obtain ⟨h1, h2⟩ := rowsW_ok (digitW x 7).2 (digitW x 7).1
  have hd := digit_lt x (n := 7) (by decide)
  have h3 := join_len [10] (rowsW (digitW x 7).2 (digitW x 7).1).1
  have h4 := sum_le fun p hp => (h2 p hp).1
  rw [List.length_singleton] at h3
  omega
theorem lines_ok (x : Sd) : (linesW x).1.length ≤ 100 ∧ (linesW x).1.all goodC = true := by
  obtain ⟨h1, h2⟩ := rowsW_ok (digitW x 7).2 (digitW x 7).1
  have h3 := (rows_bound x).1
  have hd := digit_lt (rowsW (digitW x 7).2 (digitW x 7).1).2 (n := 4) (by decide)
  unfold linesW
  refine ⟨?_, ?_⟩
  · rw [List.length_append, fds_len]
    omega
  · rw [List.all_append, fds_good, join_good fun p hp => (h2 p hp).2] <;> rfl
abbrev MK4 : List (List Nat) := [[45, 45, 45, 32], [46, 46, 46, 32]]
def mk4 (l : List Nat) : Bool := decide ((l ++ [32]).take 4 ∈ MK4)
def fullB (l : List Nat) : Bool := !decide (l = [])
def moreI (v : List Nat) (ind : Int) : Int := if (decide (ind = 0) && !decide ((rowsL v).filter mk4 = [])) = true then 1 else 0
def digH (v : List Nat) (ind deep : Int) : List Nat := (List.replicate (if decide ([headC v] = [32]) = true then (1 : Int) else 0).toNat (TL.numL (deep + moreI v ind).toNat)).flatten
def pieceL (i : Int) (l : List Nat) : List Nat := ([10] ++ spcs (i * (if fullB l = true then 1 else 0))) ++ l
def dueL (v : List Nat) (ind deep : Int) : List Nat :=
  if feedI v = (v.length : Int) then ([124] ++ (if decide (0 < feedI v) = true then [43] else [45])) ++ fds (feedI v)
  else ((([124] ++ digH v ind deep) ++ chompL (feedI v)) ++ ((rowsL v).map (pieceL (ind + moreI v ind))).flatten) ++ fds (max 0 (feedI v - 1))
theorem spl_first : ∀ (r acc : List Nat), ∃ f fs, TL.spl [10] 0 acc r = (acc ++ f) :: fs
  | [], acc => ⟨[], [], by rw [TL.spl_nil, List.append_nil]⟩
  | c :: r, acc => by
    rw [spl_cons]
    split
    · exact ⟨[], _, by rw [List.append_nil]⟩
    · obtain ⟨f, fs, e⟩ := spl_first r (acc ++ [c])
      exact ⟨c :: f, fs, by rw [e, List.append_assoc] <;> rfl⟩
theorem full_first : ∀ (r : List Nat) {c : Nat} {r' : List Nat}, r.dropWhile (inL [10]) = c :: r' → ∃ f fs, (TL.spl [10] 0 [] r).filter fullB = (c :: f) :: fs
  | [], c, r', h => by cases h
  | a :: r, c, r', h => by
    rw [spl_cons]
    by_cases e : a = 10
    · subst e
      rw [List.dropWhile_cons_of_pos rfl] at h
      rw [if_pos rfl, List.filter_cons_of_neg (by decide)]
      exact full_first r h
    · have g : inL [10] a = false := decide_eq_false (by simpa using e)
      rw [List.dropWhile_cons_of_neg (by rw [g]; exact Bool.false_ne_true)] at h
      injection h with h1 h2
      subst h1
      rw [if_neg e]
      obtain ⟨f, fs, e2⟩ := spl_first r ([] ++ [a])
      rw [e2]
      exact ⟨f, fs.filter fullB, by rw [List.filter_cons_of_pos] <;> rfl⟩
theorem full_head {v : List Nat} (h : bodyL v ≠ []) : ∃ f fs, (rowsL v).filter fullB = (headC v :: f) :: fs := by
  have hl := body_left h
  cases e : lstripL [10] (bodyL v) with
  | nil => exact absurd e hl
  | cons c r =>
    have e2 : headC v = c := by unfold headC; rw [e] <;> rfl
    rw [e2]
    exact full_first (bodyL v) e
theorem feed_all (v : List Nat) : (feedI v = (v.length : Int)) ↔ bodyL v = [] := by
  have := body_len v
  unfold feedI
  constructor
  · intro h
    exact List.eq_nil_of_length_eq_zero (by omega)
  · intro h
    rw [h]
    simp
section
variable {P : Program} {w : World} {K : PySem.W.Frag} {mg : Str → Option Value} {base : Heap}
def R_lines : List Sl → List MO → Sl → List MO → Prop := fun ss M r M' => ∃ x : Sd, ss = [.o 0] ∧ M = [sd x] ∧ r = .d (.str (linesW x).1) ∧ M' = [sd (linesW x).2]
theorem cal_lines {k : Nat} (D : Df K mg "_law_lines" s__law_lines ["_law_state"]) (f__law_digit : Cal P w K mg base (k + 1) "_law_digit" (SpR K 2 R_digit) []) (f__law_one : Cal P w K mg base (k + 2) "_law_one" (SpR K 2 R_one) []) (m_range : mg "range" = none) : Cal P w K mg base (k + 3) "_law_lines" (SpR K 1 R_lines) [] := by
  refine cal_mk (k := k + 2) D sc__law_lines rfl fun f cdv A outer s H E hr ss M r M' h => ?_
  obtain ⟨x, rfl, rfl, rfl, rfl⟩ := h
  refine ⟨_, [], (pss_cons (ps_asg (pe_lst (pa_cons pe_str (pa_cons pe_str (pa_cons pe_str (pa_cons pe_str (pa_cons pe_str (pa_cons pe_str (pa_cons pe_str (pa_cons pe_str (pa_cons pe_str (pa_cons pe_str (pa_cons pe_str (pa_cons pe_str (pa_cons pe_str pa_nil)))))))))))))) (pg_name (i := 1) sc__law_lines.nd rfl (by first | exact .inl rfl | exact .inr rfl))) (pss_cons (ps_setLc (i := 2) (own := [("_law_turn", 3)]) (g := (gName 3)) (by rfl) sc__law_lines.nd rfl rfl (sw_true rfl rfl rfl (by decide +kernel)) (pi_range1 (by rfl) m_range (pa_cons (pe_c f__law_digit hr (by omega) (by rfl) (pa_cons (pv 0) (pa_cons pe_int pa_nil))) pa_nil)) (blkOk_by (own := [("_law_turn", 3)]) (N := N__law_lines) (sc := defScope s__law_lines) (by decide +kernel)) (fun _ _ _ _ _ => pg_name (i := 3) sc__law_lines.nd rfl (by first | exact .inl rfl | exact .inr rfl)) (fun _ _ _ _ _ => pts_nil) (fun _ _ _ _ _ => (pe_c f__law_one hr (by omega) (by rfl) (pa_cons (pv 0) (pa_cons (pv 1) pa_nil))))) (pss_one (ps_ret (pe_op op_add_str (pe_m1 PySem.F.slot_str_join PySem.F.type_str_join mt_join pe_str (pv 2)) (pe_op op_repN pe_str (pe_c f__law_digit hr (by omega) (by rfl) (pa_cons (pv 0) (pa_cons pe_int pa_nil))))))))), ?_, Nat.le_refl _, fun _ h => nomatch h⟩
  refine es_seq (es_asg (ev_lst (xs := SOME.map Dt.str) (ea_cons (ev_str _) (ea_cons (ev_str _) (ea_cons (ev_str _) (ea_cons (ev_str _) (ea_cons (ev_str _) (ea_cons (ev_str _) (ea_cons (ev_str _) (ea_cons (ev_str _) (ea_cons (ev_str _) (ea_cons (ev_str _) (ea_cons (ev_str _) (ea_cons (ev_str _) (ea_cons (ev_str _) ea_nil))))))))))))) (show 13 ≤ 1000 by decide))) ?_
  refine es_nG (G' := [_, _, _, _]) rfl ?_
  have hd := digit_lt x (n := 7) (by decide)
  refine es_seq (es_asg (s := .d (.lst ((rowsW (digitW x 7).2 (digitW x 7).1).1.map Dt.str))) (M1 := [sd (rowsW (digitW x 7).2 (digitW x 7).1).2]) (ev_isD (ev_lcA (List.range (digitW x 7).1.toNat) (fun i => .int (0 + (i : Nat))) Dt.str (fun x => [sd x]) (fun y _ => oneT y SOME) (digitW x 7).2 (ei_rng1 (ea_cons (ev_w (ds := [.int 7]) (ea_cons (ev_var rfl) (ea_cons ev_int ea_nil)) (sdg _) (R_digI _ _ (by omega) (by omega)) (sdg _) rfl) ea_nil) (by omega)) (by rw [List.length_range]; omega) (hw_name (by decide)) fun y i _ => ⟨_, eg_name, ev_w (ds := [.lst (SOME.map .str)]) (ea_cons (ev_var rfl) (ea_cons (ev_var rfl) ea_nil)) (sdg y) (R_oneI y _ some_ok.1 some_ok.2.1) (sdg _) rfl⟩) (show _ = Dt.lst ((rowsW (digitW x 7).2 (digitW x 7).1).1.map Dt.str) from rfl))) ?_
  refine es_nG (G' := [_, _, _, _]) rfl ?_
  obtain ⟨hb1, hb2⟩ := rows_bound x
  have eL : linesW x = (TL.joinL [10] (rowsW (digitW x 7).2 (digitW x 7).1).1 ++ fds (digitW (rowsW (digitW x 7).2 (digitW x 7).1).2 4).1, (digitW (rowsW (digitW x 7).2 (digitW x 7).1).2 4).2) := rfl
  rw [eL]
  generalize (rowsW (digitW x 7).2 (digitW x 7).1).1 = rs at *
  generalize (rowsW (digitW x 7).2 (digitW x 7).1).2 = y at *
  have hd2 := digit_lt y (n := 4) (by decide)
  exact es_ret (ev_op (ev_m1 (ev_str [10]) (ev_var rfl) (rm_join (by rw [List.length_singleton]; omega))) (ev_op (ev_str [10]) (ev_w (ds := [.int 4]) (ea_cons (ev_var rfl) (ea_cons ev_int ea_nil)) (sdg _) (R_digI _ _ (by omega) (by omega)) (sdg _) rfl) (ro_repN (l := [10]) (by omega) (by omega) (by show 1 * (digitW y 4).1.toNat ≤ _; omega))) (ro_addS (by show _ + (fds (digitW y 4).1).length ≤ _; rw [fds_len]; omega)))
def R_due : List Sl → List MO → Sl → List MO → Prop := fun ss M r M' => ∃ (v : List Nat) (ind deep : Int), v.length ≤ 100 ∧ (∀ c ∈ v, c < 128) ∧ 0 ≤ ind ∧ ind ≤ 100 ∧ 1 ≤ deep ∧ deep ≤ 9 ∧ deep ≤ ind + 1 ∧ ss = [.d (.str v), .d (.int ind), .d (.int deep)] ∧ M = [] ∧ r = .d (.str (dueL v ind deep)) ∧ M' = []
theorem cal_due {k : Nat} (D : Df K mg "_law_due" s__law_due ["_law_value_here", "_law_indent", "_law_deep"]) (m_len : mg "len" = none) (m_min : mg "min" = none) (m_max : mg "max" = none) (m_int : mg "int" = none) (m_str : mg "str" = none) : Cal P w K mg base (k + 1) "_law_due" (SpR K 3 R_due) [] := by
  refine cal_mk D sc__law_due rfl fun f cdv A outer s H E hr ss M r M' h => ?_
  obtain ⟨v, ind, deep, hl, ha, h0, h1, h2, h3, h4, rfl, rfl, rfl, rfl⟩ := h
  refine ⟨_, [], (pss_cons (ps_asg (pe_op op_sub (pe_callB call_len_str (by rfl) m_len PySem.boot_len (pa_cons (pv 0) pa_nil)) (pe_callB call_len_str (by rfl) m_len PySem.boot_len (pa_cons (pe_m1 PySem.F.slot_str_rstrip PySem.F.type_str_rstrip mt_rstripChars (pv 0) pe_str) pa_nil))) (pg_name (i := 3) sc__law_due.nd rfl (by first | exact .inl rfl | exact .inr rfl))) (pss_cons (ps_asg (pe_ix ix_list (pe_lst (pa_cons pe_str (pa_cons pe_str (pa_cons pe_str pa_nil)))) (pe_callB (call_min2 rfl) (by rfl) m_min (by decide +kernel) (pa_cons (pv 3) (pa_cons pe_int pa_nil))) (fun _ _ => rfl)) (pg_name (i := 4) sc__law_due.nd rfl (by first | exact .inl rfl | exact .inr rfl))) (pss_cons (ps_if (pt_cmpR op_eq (pv 3) (pe_callB call_len_str (by rfl) m_len PySem.boot_len (pa_cons (pv 0) pa_nil)) (nomark _)) (pss_one (ps_ret (pe_op op_add_str (pe_op op_add_str pe_str (pe_ix ix_list (pe_lst (pa_cons pe_str (pa_cons pe_str pa_nil))) (pe_callTy call_int1 (by rfl) m_int (by decide +kernel) (pa_cons (pe_cmpR op_gt (pv 3) pe_int (nomark _)) pa_nil)) (fun _ _ => rfl))) (pe_op op_repN pe_str (pv 3))))) pss_nil) (pss_cons (ps_asg (pe_m1 PySem.F.slot_str_split PySem.F.type_str_split mt_split (pe_slice sl_str (pv 0) po_none (po_some (pe_op op_sub (pe_callB call_len_str (by rfl) m_len PySem.boot_len (pa_cons (pv 0) pa_nil)) (pv 3)))) pe_str) (pg_name (i := 5) sc__law_due.nd rfl (by first | exact .inl rfl | exact .inr rfl))) (pss_cons (ps_setLc (i := 6) (own := [("_law_row", 11)]) (g := (gName 11)) (by rfl) sc__law_due.nd rfl rfl (sw_true rfl rfl rfl (by decide +kernel)) (pi_list (pv 5)) (blkOk_by (own := [("_law_row", 11)]) (N := N__law_due) (sc := defScope s__law_due) (by decide +kernel)) (fun _ _ _ _ _ => pg_name (i := 11) sc__law_due.nd rfl (by first | exact .inl rfl | exact .inr rfl)) (fun _ _ _ _ _ => pts_one (pt_cmpR (show OpR _ (compareOp .In) (rIn K false) from op_in_seq) (pe_slice sl_str (pe_op op_add_str (pv 11) pe_str) po_none (po_some pe_int)) (pe_tup (pa_cons pe_str (pa_cons pe_str pa_nil))) (by rfl))) (fun _ _ _ _ _ => (pv 11))) (pss_cons (ps_asg (pe_callTy call_int1 (by rfl) m_int (by decide +kernel) (pa_cons (pe_and (pe_cmpR op_eq (pv 1) pe_int (nomark _)) (pe_one (pe_cmpR (op_neD (room64 hr)) (pv 6) (pe_lst pa_nil) (nomark _)))) pa_nil)) (pg_name (i := 7) sc__law_due.nd rfl (by first | exact .inl rfl | exact .inr rfl))) (pss_cons (ps_setLc (i := 8) (own := [("_law_row", 11)]) (g := (gName 11)) (by rfl) sc__law_due.nd rfl rfl (sw_true rfl rfl rfl (by decide +kernel)) (pi_list (pv 5)) (blkOk_by (own := [("_law_row", 11)]) (N := N__law_due) (sc := defScope s__law_due) (by decide +kernel)) (fun _ _ _ _ _ => pg_name (i := 11) sc__law_due.nd rfl (by first | exact .inl rfl | exact .inr rfl)) (fun _ _ _ _ _ => pts_one (pt_cmpR op_ne (pv 11) pe_str (nomark _))) (fun _ _ _ _ _ => (pv 11))) (pss_cons (ps_asg (pe_op op_repN (pe_callTy call_str_int (by rfl) m_str (by decide +kernel) (pa_cons (pe_op op_add (pv 2) (pv 7)) pa_nil)) (pe_callTy call_int1 (by rfl) m_int (by decide +kernel) (pa_cons (pe_cmpR op_eq (pe_ix ix_str (pe_ix ix_list (pv 8) pe_int (fun _ _ => rfl)) pe_int (fun _ _ => rfl)) pe_str (nomark _)) pa_nil))) (pg_name (i := 9) sc__law_due.nd rfl (by first | exact .inl rfl | exact .inr rfl))) (pss_cons (ps_asg (pe_op op_add_str (pe_op op_add_str pe_str (pv 9)) (pv 4)) (pg_name (i := 10) sc__law_due.nd rfl (by first | exact .inl rfl | exact .inr rfl))) (pss_cons (ps_for PassesOwn.never rfl (pi_list (pv 5)) (pg_name (i := 11) sc__law_due.nd rfl (by first | exact .inl rfl | exact .inr rfl)) (pss_one (ps_asg (pe_op op_add_str (pe_op op_add_str (pe_op op_add_str (pv 10) pe_str) (pe_op op_repN pe_str (pe_op op_mul (pe_op op_add (pv 1) (pv 7)) (pe_callTy call_int1 (by rfl) m_int (by decide +kernel) (pa_cons (pe_cmpR op_ne (pv 11) pe_str (nomark _)) pa_nil))))) (pv 11)) (pg_name (i := 10) sc__law_due.nd rfl (by first | exact .inl rfl | exact .inr rfl))))) (pss_one (ps_ret (pe_op op_add_str (pv 10) (pe_op op_repN pe_str (pe_callB (call_max2 rfl) (by rfl) m_max (by decide +kernel) (pa_cons pe_int (pa_cons (pe_op op_sub (pv 3) pe_int) pa_nil))))))))))))))))), ?_, Nat.le_refl _, fun _ h => nomatch h⟩
  have hb := body_len v
  obtain ⟨hf0, hf1⟩ := feed_ok v
  have eF : ((v.length : Nat) : Int) - (((bodyL v).length : Nat) : Int) = feedI v := rfl
  refine es_seq (es_asg (s := .d (.int (feedI v))) (M1 := []) (ev_isD (ev_op (ev_cb (xs := [.str v]) (ea_cons (ev_var rfl) ea_nil) (rc_lenS (by omega))) (ev_cb (xs := [.str (bodyL v)]) (ea_cons (ev_m1 (ev_var rfl) (ev_str [10]) (rm_rstrip (by omega))) ea_nil) (rc_lenS (by omega))) ro_sub) (by rw [eF]))) ?_
  refine es_nG (G' := [_, _, _, _, _, _, _, _, _, _, _, _]) rfl ?_
  refine es_seq (es_asg (s := .d (.str (chompL (feedI v)))) (M1 := []) (ev_op (ev_lst (xs := [.str [45], .str [], .str [43]]) (ea_cons (ev_str _) (ea_cons (ev_str _) (ea_cons (ev_str _) ea_nil))) (show 3 ≤ 1000 by decide)) (ev_cb (xs := [.int (feedI v), .int 2]) (ea_cons (ev_var rfl) (ea_cons ev_int ea_nil)) rc_min2) (ro_ixL (x := .str (chompL (feedI v))) ?_))) ?_
  · unfold chompL
    by_cases e0 : feedI v = 0
    · rw [e0] <;> rfl
    · by_cases e1 : feedI v = 1
      · rw [e1] <;> rfl
      · rw [decide_eq_false e0, decide_eq_false e1, if_neg Bool.false_ne_true, if_neg Bool.false_ne_true]
        by_cases e2 : 2 < feedI v
        · rw [if_pos e2] <;> rfl
        · rw [if_neg e2, show feedI v = 2 by omega] <;> rfl
  refine es_nG (G' := [_, _, _, _, _, _, _, _, _, _, _, _]) rfl ?_
  refine es_guard (et_test (ev_op (ev_var rfl) (ev_cb (xs := [.str v]) (ea_cons (ev_var rfl) ea_nil) (rc_lenS (by omega))) ro_eqI)) (fun h => ?_) (fun h => ?_)
  · have h : feedI v = (v.length : Int) := of_decide_eq_true h
    have e : dueL v ind deep = ([124] ++ (if decide (0 < feedI v) = true then [43] else [45])) ++ fds (feedI v) := if_pos h
    have hx : (if decide (0 < feedI v) = true then ([43] : List Nat) else [45]).length = 1 := by split <;> rfl
    rw [e]
    refine es_ret (ev_op (ev_op (ev_str [124]) (ev_op (ev_lst (xs := [.str [45], .str [43]]) (ea_cons (ev_str _) (ea_cons (ev_str _) ea_nil)) (show 2 ≤ 1000 by decide)) (ev_cb (xs := [.bl (decide (0 < feedI v))]) (ea_cons (ev_op (ev_var rfl) ev_int ro_gt) ea_nil) rc_intB) (ro_ixL (x := .str (if decide (0 < feedI v) = true then [43] else [45])) (by cases decide (0 < feedI v) <;> rfl))) (ro_addS (by rw [hx]; decide))) (ev_op (ev_str [10]) (ev_var rfl) (ro_repN (l := [10]) (by omega) (by omega) (by show 1 * (feedI v).toNat ≤ _; omega))) (ro_addS ?_))
    show _ + (fds (feedI v)).length ≤ _
    rw [fds_len, List.length_append, hx, List.length_singleton]
    omega
  have h : ¬ feedI v = (v.length : Int) := of_decide_eq_false h
  have hbd : bodyL v ≠ [] := fun e => h ((feed_all v).mpr e)
  have e : dueL v ind deep = ((([124] ++ digH v ind deep) ++ chompL (feedI v)) ++ ((rowsL v).map (pieceL (ind + moreI v ind))).flatten) ++ fds (max 0 (feedI v - 1)) := if_neg h
  rw [e]
  obtain ⟨hw1, hw2⟩ := rows_ok hl ha
  obtain ⟨f0, fs, ef⟩ := full_head hbd
  have eD : digH v ind deep = (List.replicate (if decide ([headC v] = [32]) = true then (1 : Int) else 0).toNat (TL.numL (deep + moreI v ind).toNat)).flatten := rfl
  have eM : moreI v ind = if (decide (ind = 0) && !decide ((rowsL v).filter mk4 = [])) = true then 1 else 0 := rfl
  have hM : 0 ≤ moreI v ind ∧ moreI v ind ≤ 1 ∧ (ind ≠ 0 → moreI v ind = 0) := by
    refine ⟨by rw [eM]; split <;> omega, by rw [eM]; split <;> omega, fun hz => ?_⟩
    rw [eM, decide_eq_false hz] <;> rfl
  have hcl := chomp_len (feedI v)
  have hcut : cutL v none (some (((v.length : Nat) : Int) - feedI v)) = bodyL v := by
    rw [show ((v.length : Nat) : Int) - feedI v = (((bodyL v).length : Nat) : Int) by unfold feedI; omega, cut_pre]
    exact (body_pre v).symm
  have eR : rowsL v = splL [10] (bodyL v) := rfl
  refine es_seq (es_asg (s := .d (.lst ((rowsL v).map Dt.str))) (M1 := []) (ev_wk (ev_m1 (ev_isD (ev_slS (ev_var rfl) eo_none (eo_some (ev_op (ev_cb (xs := [.str v]) (ea_cons (ev_var rfl) ea_nil) (rc_lenS (by omega))) (ev_var rfl) ro_sub)) (by omega)) (by rw [hcut])) (ev_str [10]) (rm_split (by omega) (by decide) (by decide))) lstX_lst)) ?_
  refine es_nG (G' := [_, _, _, _, _, _, _, _, _, _, _, _]) rfl ?_
  generalize rowsL v = ws at *
  have hmk : ∀ x ∈ ws.filter mk4, ∀ c ∈ x, c < 128 := fun x hx => (hw2 x (List.mem_filter.mp hx).1).2
  refine es_seq (es_asg (s := .d (.lst ((ws.filter mk4).map Dt.str))) (M1 := []) (ev_lcF (vs := [11]) ws Dt.str Dt.str mk4 (ei_list (ev_var rfl)) (by omega) (hw_name (j := 11) (by decide)) fun l hlm => ⟨_, eg_name, et_test (ev_op (ev_isD (ev_slS (ev_op (ev_var (i := 11) rfl) (ev_str [32]) (ro_addS (by have := (hw2 l hlm).1; rw [List.length_singleton]; omega))) eo_none (eo_some ev_int) (by have := (hw2 l hlm).1; rw [List.length_append, List.length_singleton]; omega)) (show _ = Dt.str ((l ++ [32]).take 4) by rw [show cutL (l ++ [32]) none (some 4) = (l ++ [32]).take 4 from cut_pre _ 4])) (ev_tup (xs := MK4.map Dt.str) (ea_cons (ev_str _) (ea_cons (ev_str _) ea_nil)) (show 2 ≤ 1000 by decide)) ro_inT), fun _ => ev_var (i := 11) rfl⟩)) ?_
  refine es_nG (G' := [_, _, _, _, _, _, _, _, _, _, _, _]) rfl ?_
  obtain ⟨q1, q2⟩ := plDs_strs hmk
  refine es_seq (es_asg (s := .d (.int (moreI v ind))) (M1 := []) (ev_isD (ev_cb (xs := [.bl (decide (ind = 0) && !decide (ws.filter mk4 = []))]) (ea_cons (ev_andV (a := decide (ind = 0)) (c := !decide (ws.filter mk4 = [])) (ev_op (ev_var rfl) ev_int ro_eqI) (fun _ => ev_isD (ev_op (ev_var rfl) (ev_lst (xs := []) ea_nil (Nat.zero_le _)) (ro_neDt q1 rfl (by show dpDs _ + 1 ≤ 64; rw [q2]; decide) (show 1 ≤ 64 by decide))) (by rw [eqD_nilL])) (fun _ => rfl)) ea_nil) rc_intB) (by rw [eM]))) ?_
  refine es_nG (G' := [_, _, _, _, _, _, _, _, _, _, _, _]) rfl ?_
  generalize moreI v ind = mo at *
  refine es_seq (es_asg (s := .d (.lst (((headC v :: f0) :: fs).map Dt.str))) (M1 := []) (ev_isD (ev_lcF (vs := [11]) ws Dt.str Dt.str fullB (ei_list (ev_var rfl)) (by omega) (hw_name (j := 11) (by decide)) fun l hlm => ⟨_, eg_name, et_test (ev_op (ev_var (i := 11) rfl) (ev_str []) ro_neS), fun _ => ev_var (i := 11) rfl⟩) (by rw [ef]))) ?_
  refine es_nG (G' := [_, _, _, _, _, _, _, _, _, _, _, _]) rfl ?_
  have hf0l : (headC v :: f0).length ≤ 100 := by
    have hm : (headC v :: f0) ∈ ws.filter fullB := by rw [ef]; exact List.mem_cons_self
    exact (hw2 _ (List.mem_filter.mp hm).1).1
  have hnum : (TL.numL (deep + mo).toNat).length ≤ 2 := by
    by_cases hz : (deep + mo).toNat < 10
    · rw [TL.numL_lt hz]; exact Nat.le_succ 1
    · exfalso
      by_cases hi : ind = 0
      · omega
      · have := hM.2.2 hi
        omega
  have hdh : (digH v ind deep).length ≤ 2 := by
    rw [eD, rep_len]
    split <;> simp <;> omega
  refine es_seq (es_asg (s := .d (.str (digH v ind deep))) (M1 := []) (ev_isD (ev_op (ev_cb (xs := [.int (deep + mo)]) (ea_cons (ev_op (ev_var rfl) (ev_var rfl) ro_add) ea_nil) (rc_str (by
          have : deep + mo = 1 ∨ deep + mo = 2 ∨ deep + mo = 3 ∨ deep + mo = 4 ∨ deep + mo = 5 ∨ deep + mo = 6 ∨ deep + mo = 7 ∨ deep + mo = 8 ∨ deep + mo = 9 ∨ deep + mo = 10 := by omega
          rcases this with e | e | e | e | e | e | e | e | e | e <;> rw [e] <;> decide) (by omega))) (ev_cb (xs := [.bl (decide ([headC v] = [32]))]) (ea_cons (ev_op (ev_op (ev_op (ev_var rfl) ev_int (ro_ixL (x := .str (headC v :: f0)) (at0 _ _))) ev_int (ro_ixS (c := headC v) (by omega) (at0 _ _))) (ev_str [32]) ro_eqS) ea_nil) rc_intB) (ro_repN (by split <;> omega) (by split <;> omega) (by split <;> simp <;> omega))) (by rw [eD]))) ?_
  refine es_nG (G' := [_, _, _, _, _, _, _, _, _, _, _, _]) rfl ?_
  generalize digH v ind deep = dh at *
  have h124 : ([124] : List Nat).length = 1 := rfl
  have hF : (([124] ++ dh) ++ chompL (feedI v)).length ≤ 10 := by
    rw [List.length_append, List.length_append]; omega
  refine es_seq (es_asg (s := .d (.str (([124] ++ dh) ++ chompL (feedI v)))) (M1 := []) (ev_op (ev_op (ev_str [124]) (ev_var rfl) (ro_addS (by omega))) (ev_var rfl) (ro_addS (by rw [List.length_append]; omega)))) ?_
  refine es_nG (G' := [_, _, _, _, _, _, _, _, _, _, _, _]) rfl ?_
  generalize chompL (feedI v) = ch at *
  generalize ([124] ++ dh) ++ ch = F0 at *
  have hpl : ∀ l ∈ ws, (pieceL (ind + mo) l).length ≤ 202 + 1 := fun l hlm => by
    have q := (hw2 l hlm).1
    unfold pieceL
    rw [List.length_append, List.length_append, spcs_len, List.length_singleton]
    split <;> omega
  have hacc : ∀ j, (F0 ++ ((ws.take j).map (pieceL (ind + mo))).flatten).length ≤ 100000 := fun j => by
    have s1 := sum_le (n := 203) (xs := (ws.take j).map (pieceL (ind + mo))) fun x hx => by
      obtain ⟨l, hlm, rfl⟩ := List.mem_map.mp hx
      exact hpl l (List.mem_of_mem_take hlm)
    rw [List.length_map, List.length_take] at s1
    rw [List.length_append, List.length_flatten]
    have s2 : (List.map List.length ((ws.take j).map (pieceL (ind + mo)))).sum ≤ 203 * min j ws.length := s1
    omega
  refine es_seq (G1 := [some (.d (.str v)), some (.d (.int ind)), some (.d (.int deep)), some (.d (.int (feedI v))), some (.d (.str ch)), some (.d (.lst (ws.map Dt.str))), some (.d (.lst ((ws.filter mk4).map Dt.str))), some (.d (.int mo)), some (.d (.lst (((headC v :: f0) :: fs).map Dt.str))), some (.d (.str dh)), some (.d (.str (F0 ++ (ws.map (pieceL (ind + mo))).flatten))), none]) (M1 := []) ?_ ?_
  · refine es_nG (G' := [_, _, _, _, _, _, _, _, _, _, some (.d (.str F0)), none]) rfl ?_
    refine es_nxw (es_forN ws Dt.str (fun j => [some (.d (.str v)), some (.d (.int ind)), some (.d (.int deep)), some (.d (.int (feedI v))), some (.d (.str ch)), some (.d (.lst (ws.map Dt.str))), some (.d (.lst ((ws.filter mk4).map Dt.str))), some (.d (.int mo)), some (.d (.lst (((headC v :: f0) :: fs).map Dt.str))), some (.d (.str dh)), some (.d (.str (F0 ++ ((ws.take j).map (pieceL (ind + mo))).flatten))), none]) (fun _ => []) (ei_list (ev_var rfl)) ?_ fun j l hj => ⟨_, eg_name, .inl ?_⟩) ?_
    · rw [List.take_zero, List.map_nil, List.flatten_nil, List.append_nil]
      exact Lg.refl _
    · have hlm := List.mem_of_getElem? hj
      have hjl : j < ws.length := (List.getElem?_eq_some_iff.mp hj).1
      have q := (hw2 l hlm).1
      have q3 := hacc j
      have et : F0 ++ ((ws.take (j + 1)).map (pieceL (ind + mo))).flatten = (((F0 ++ ((ws.take j).map (pieceL (ind + mo))).flatten) ++ [10]) ++ spcs ((ind + mo) * (if fullB l = true then 1 else 0))) ++ l := by
        rw [← List.take_append_getElem hjl, List.map_append, (List.getElem?_eq_some_iff.mp hj).2, List.flatten_append]
        show F0 ++ (_ ++ (pieceL (ind + mo) l ++ [])) = _
        unfold pieceL
        simp only [List.append_assoc, List.append_nil]
      rw [et]
      generalize F0 ++ ((ws.take j).map (pieceL (ind + mo))).flatten = acc at *
      have hmul : 0 ≤ (ind + mo) * (if fullB l = true then 1 else 0) ∧ (ind + mo) * (if fullB l = true then 1 else 0) ≤ 101 := by split <;> omega
      refine es_nxw (es_asg (ev_op (ev_op (ev_op (ev_var rfl) (ev_str [10]) (ro_addS (by rw [List.length_singleton]; omega))) (ev_op (ev_str [32]) (ev_op (ev_op (ev_var rfl) (ev_var rfl) ro_add) (ev_cb (xs := [.bl (fullB l)]) (ea_cons (ev_op (ev_var rfl) (ev_str []) ro_neS) ea_nil) rc_intB) (ro_mul (.inl (by omega)))) (ro_repN (l := [32]) (by omega) (by omega) (by show 1 * ((ind + mo) * (if fullB l = true then 1 else 0)).toNat ≤ _; omega))) (ro_addS ?_)) (ev_var rfl) (ro_addS ?_))) (lg_cons (lg_cons (lg_cons (lg_cons (lg_cons (lg_cons (lg_cons (lg_cons (lg_cons (lg_cons (lg_cons (lg_cons lg_nil (.inr rfl)) (.inl rfl)) (.inl rfl)) (.inl rfl)) (.inl rfl)) (.inl rfl)) (.inl rfl)) (.inl rfl)) (.inl rfl)) (.inl rfl)) (.inl rfl)) (.inl rfl))
      · show _ + (spcs ((ind + mo) * (if fullB l = true then 1 else 0))).length ≤ _
        rw [spcs_len, List.length_append, List.length_singleton]
        omega
      · show (_ ++ spcs ((ind + mo) * (if fullB l = true then 1 else 0))).length + _ ≤ _
        rw [List.length_append, spcs_len, List.length_append, List.length_singleton]
        omega
    · rw [List.take_length]
      exact Lg.refl _
  have hall := hacc ws.length
  rw [List.take_length] at hall
  refine es_ret (ev_op (ev_var rfl) (ev_op (ev_str [10]) (ev_isD (ev_cb (xs := [.int 0, .int (feedI v - 1)]) (ea_cons ev_int (ea_cons (ev_op (ev_var rfl) ev_int ro_sub) ea_nil)) rc_max2) (show _ = Dt.int (max 0 (feedI v - 1)) by congr 1; split <;> omega)) (ro_repN (l := [10]) (by omega) (by omega) (by show 1 * (max 0 (feedI v - 1)).toNat ≤ _; omega))) (ro_addS ?_))
  show _ + (fds (max 0 (feedI v - 1))).length ≤ _
  rw [fds_len]
  omega
end
end T
namespace T
open PySem PySem.Spec PyProof.Rows L2 DJ
/-! ### the program's text is the law's -/
theorem mark_is (w : List Nat) : markL w = mk4 w := by
  rw [Bool.eq_iff_iff]
  match w with
  | [] => simp [markL, mk4]
  | [a] => simp [markL, mk4]
  | [a, b] => simp [markL, mk4]
  | [a, b, c] => simp [markL, mk4]
  | a :: b :: c :: d :: r => simp [markL, mk4] <;> omega
theorem any_filter : ∀ ws : List (List Nat), (ws.map markL).any id = !decide (ws.filter mk4 = [])
  | [] => rfl
  | w :: ws => by
    rw [List.map_cons, List.any_cons, any_filter ws, mark_is]
    cases h : mk4 w with
    | true => rw [List.filter_cons_of_pos h, decide_eq_false (List.cons_ne_nil _ _)] <;> rfl
    | false => rw [List.filter_cons_of_neg (by rw [h]; exact Bool.false_ne_true)] <;> rfl
theorem more_is (v : List Nat) (ind : Int) : moreI v ind = if asideL v ind = true then 1 else 0 := by
  unfold moreI asideL
  rw [any_filter]
theorem in_is (v : List Nat) (ind : Int) : inX v ind = ind + moreI v ind := by
  rw [more_is]
  unfold inX
  cases h : asideL v ind with
  | true =>
    have : ind = 0 := by
      unfold asideL at h
      rw [Bool.and_eq_true] at h
      exact of_decide_eq_true h.1
    rw [if_pos rfl, if_pos rfl]; omega
  | false => rw [if_neg Bool.false_ne_true, if_neg Bool.false_ne_true]; omega
theorem ten_is (v : List Nat) {ind deep : Int} (h1 : 1 ≤ deep) (h2 : deep ≤ ind + 1) : tenL v ind deep = [124] ++ digH v ind deep := by
  unfold tenL digH
  cases hc : decide ([headC v] = [32]) with
  | false => rfl
  | true =>
    rw [if_pos rfl, if_pos rfl, more_is]
    have e : ∀ l : List Nat, (List.replicate (1 : Int).toNat l).flatten = l := fun l => by
      show l ++ [] = l
      rw [List.append_nil]
    rw [e]
    cases h : asideL v ind with
    | true =>
      have : ind = 0 := by
        unfold asideL at h
        rw [Bool.and_eq_true] at h
        exact of_decide_eq_true h.1
      have hd : deep = 1 := by omega
      subst hd
      rw [if_pos rfl, if_pos rfl, TL.numL_lt (by decide)] <;> rfl
    | false => rw [if_neg Bool.false_ne_true, if_neg Bool.false_ne_true, Int.add_zero]
theorem join_flat : ∀ (xs : List (List Nat)) (a : List Nat), TL.joinL [10] (a :: xs) = a ++ (xs.map fun x => [10] ++ x).flatten
  | [], a => by simp [TL.joinL]
  | x :: xs, a => by
    show a ++ ([10] ++ TL.joinL [10] (x :: xs)) = _
    rw [join_flat xs x, List.map_cons, List.flatten_cons]
    simp only [List.append_assoc]
theorem piece_is {v l : List Nat} {ind : Int} (h : l ∈ rowsL v) : [10] ++ lineL l (inX v ind) = pieceL (inX v ind) l := by
  unfold lineL pieceL fullB
  by_cases hl : l = []
  · subst hl
    rw [if_pos rfl, decide_eq_true rfl, if_neg (by decide), Int.mul_zero] <;> rfl
  · rw [if_neg hl, decide_eq_false hl, if_pos (by decide), Int.mul_one]
    have e : aheadL l (inX v ind) = spcs (inX v ind) := by
      unfold aheadL
      rw [if_neg]
      intro hz
      rw [Bool.and_eq_true] at hz
      obtain ⟨z1, z2⟩ := hz
      have z1 : inX v ind = 0 := of_decide_eq_true z1
      unfold inX at z1
      cases ha : asideL v ind with
      | true => rw [ha, if_pos rfl] at z1; cases z1
      | false =>
        rw [ha, if_neg Bool.false_ne_true] at z1
        unfold asideL at ha
        rw [decide_eq_true z1, Bool.true_and] at ha
        have : ((rowsL v).map markL).any id = true := List.any_eq_true.mpr ⟨true, List.mem_map.mpr ⟨l, h, z2⟩, rfl⟩
        rw [ha] at this
        cases this
    rw [e, List.append_assoc]
theorem block_due (v : List Nat) {ind deep : Int} (h1 : 1 ≤ deep) (h2 : deep ≤ ind + 1) : blockL v ind deep = dueL v ind deep := by
  unfold blockL dueL
  obtain ⟨hf0, hf1⟩ := feed_ok v
  by_cases hb : bodyL v = []
  · rw [if_pos hb, if_pos ((feed_all v).mpr hb)]
    have e : (feedI v != 0) = decide (0 < feedI v) := by
      by_cases h : feedI v = 0
      · rw [h] <;> rfl
      · rw [decide_eq_true (by omega)]
        simpa using h
    rw [e]
  · rw [if_neg hb, if_neg (fun e => hb ((feed_all v).mp e)), join_flat]
    have e1 : topL v ind deep = ([124] ++ digH v ind deep) ++ chompL (feedI v) := by
      unfold topL
      rw [ten_is v h1 h2]
    have e2 : ((rowsL v).map fun l => lineL l (inX v ind)).map (fun x => [10] ++ x) = (rowsL v).map (pieceL (ind + moreI v ind)) := by
      rw [List.map_map, ← in_is]
      exact List.map_congr_left fun l h => piece_is h
    rw [e1, e2]
/-! ### the law -/
abbrev s_law : Stmt := topS 49
abbrev N_law : List Str := ["_law_script", "_law_cell", "_law_state", "_law_turn", "_law_value_here", "_law_indent", "_law_deep"]
theorem sc_law : FnScope N_law ["_law_script"] (defScope s_law) := ⟨rfl, rfl, rfl, by decide +kernel, rfl, by decide +kernel, by decide +kernel⟩
def valW (x : Sd) : List Nat × Sd := if (digitW x 2).1 = 0 then linesW (digitW x 2).2 else valueW (digitW x 2).2 8
theorem val_ok (x : Sd) : (valW x).1.length ≤ 100 ∧ (valW x).1.all goodC = true := by
  unfold valW
  split
  · exact lines_ok _
  · exact value_ok _ (by decide) (by decide)
def indW (x : Sd) : Int × Sd := digitW (valW x).2 10
def nineI (i : Int) : Int := if i + 1 < 9 then i + 1 else 9
def deepW (x : Sd) : Int × Sd := digitW (indW x).2 (nineI (indW x).1)
def iterW : Nat → Sd → Sd
  | 0, x => x
  | n + 1, x => (deepW (iterW n x)).2
theorem cells_is (ns : List Int) : cutL (ns.map Dt.int) none (some 6) ++ [Dt.int 0] = (ns.take 6 ++ [0]).map Dt.int := by
  rw [show cutL (ns.map Dt.int) none (some 6) = (ns.map Dt.int).take 6 from cutL_to _ 6, map_take, List.map_append] <;> rfl
section
variable {P : Program} {w : World} {K : PySem.W.Frag} {mg : Str → Option Value} {base : Heap}
theorem dvs_rep (B : Hp) : RpL K B [.int 0, .int 1] [.int 0, .int 1] := ⟨_, _, rfl, rfl, _, _, rfl, rfl, rfl⟩
theorem R_wrI {v : List Nat} {ind width deep : Int} (a1 : v.length ≤ 100) (a2 : v.all goodC = true) (a3 : 0 ≤ ind) (a4 : ind ≤ 100) (a5 : 0 ≤ width) (a6 : width ≤ 200) (a7 : 1 ≤ deep) (a8 : deep ≤ 9) (a9 : deep ≤ ind + 1) : R_wr ([Dt.str v, .str LIT, .str BLK, .int ind, .int width, .int deep].map Sl.d) [] (.d (.str (blockL v ind deep))) [] := ⟨v, ind, width, deep, a1, a2, a3, a4, a5, a6, a7, a8, a9, rfl, rfl, rfl, rfl⟩
theorem R_dueI {v : List Nat} {ind deep : Int} (a1 : v.length ≤ 100) (a2 : v.all goodC = true) (a3 : 0 ≤ ind) (a4 : ind ≤ 100) (a7 : 1 ≤ deep) (a8 : deep ≤ 9) (a9 : deep ≤ ind + 1) : R_due ([Dt.str v, .int ind, .int deep].map Sl.d) [] (.d (.str (blockL v ind deep))) [] := ⟨v, ind, deep, a1, good_asc a2, a3, a4, a7, a8, a9, rfl, rfl, by rw [block_due v a7 a9], rfl⟩
def R_law : List Sl → List MO → Sl → List MO → Prop := fun ss M r M' => ∃ ns : List Int, ns.length ≤ 63 ∧ ss = [.d (.lst (ns.map .int))] ∧ M = [] ∧ r = .d (.bl true) ∧ M' = []
theorem cal_law (D : Df K mg "law" s_law ["_law_script"]) (f_written : Cal P w K mg base 7 "written" (SpR K 6 R_wr) []) (f_written4 : Cal P w K mg base 7 "written" (SpR K 6 R_wr) [.int 0, .int 1]) (f__law_lines : Cal P w K mg base 3 "_law_lines" (SpR K 1 R_lines) []) (f__law_value : Cal P w K mg base 3 "_law_value" (SpR K 2 R_valueW) []) (f__law_digit : Cal P w K mg base 1 "_law_digit" (SpR K 2 R_digit) []) (f__law_due : Cal P w K mg base 1 "_law_due" (SpR K 3 R_due) []) (m_range : mg "range" = none) (m_min : mg "min" = none) : CalF P w K mg base 8 "law" s_law ["_law_script"] (SpR K 1 R_law) := by
  refine cal_mkF (k := 7) D sc_law rfl fun f cdv A outer s H E hr ss M r M' h => ?_
  obtain ⟨ns, hn, rfl, rfl, rfl, rfl⟩ := h
  refine ⟨_, [], (pss_cons (ps_for PassesOwn.never rfl (pi_list (pe_op op_cat (pe_slice sl_list (pv 0) po_none (po_some pe_int)) (pe_lst (pa_cons pe_int pa_nil)))) (pg_name (i := 1) sc_law.nd rfl (by first | exact .inl rfl | exact .inr rfl)) (pss_cons (ps_asg (pe_lst (pa_cons (pv 1) pa_nil)) (pg_name (i := 2) sc_law.nd rfl (by first | exact .inl rfl | exact .inr rfl))) (pss_one (ps_for PassesOwn.never rfl (pi_range1 (by rfl) m_range (pa_cons pe_int pa_nil)) (pg_name (i := 3) sc_law.nd rfl (by first | exact .inl rfl | exact .inr rfl)) (pss_cons (ps_asg (pe_ifExp (pt_cmpR op_eq (pe_c f__law_digit hr (by omega) (by rfl) (pa_cons (pv 2) (pa_cons pe_int pa_nil))) pe_int (nomark _)) (pe_c f__law_lines hr (by omega) (by rfl) (pa_cons (pv 2) pa_nil)) (pe_c f__law_value hr (by omega) (by rfl) (pa_cons (pv 2) (pa_cons pe_int pa_nil)))) (pg_name (i := 4) sc_law.nd rfl (by first | exact .inl rfl | exact .inr rfl))) (pss_cons (ps_asg (pe_c f__law_digit hr (by omega) (by rfl) (pa_cons (pv 2) (pa_cons pe_int pa_nil))) (pg_name (i := 5) sc_law.nd rfl (by first | exact .inl rfl | exact .inr rfl))) (pss_cons (ps_asg (pe_op op_add pe_int (pe_c f__law_digit hr (by omega) (by rfl) (pa_cons (pv 2) (pa_cons (pe_callB (call_min2 rfl) (by rfl) m_min (by decide +kernel) (pa_cons pe_int (pa_cons (pe_op op_add (pv 5) pe_int) pa_nil))) pa_nil)))) (pg_name (i := 6) sc_law.nd rfl (by first | exact .inl rfl | exact .inr rfl))) (pss_cons (ps_if (pt_cmpR op_ne (pe_c f_written hr (by omega) (by rfl) (pa_cons (pv 4) (pa_cons pe_str (pa_cons pe_str (pa_cons (pv 5) (pa_cons pe_int (pa_cons (pv 6) pa_nil))))))) (pe_c f__law_due hr (by omega) (by rfl) (pa_cons (pv 4) (pa_cons (pv 5) (pa_cons (pv 6) pa_nil)))) (nomark _)) (pss_one (ps_ret pe_bl)) pss_nil) (pss_cons (ps_if (pt_cmpR op_ne (pe_c f_written hr (by omega) (by rfl) (pa_cons (pv 4) (pa_cons pe_str (pa_cons pe_str (pa_cons (pv 5) (pa_cons pe_int (pa_cons (pv 6) pa_nil))))))) (pe_c f__law_due hr (by omega) (by rfl) (pa_cons (pv 4) (pa_cons (pv 5) (pa_cons (pv 6) pa_nil)))) (nomark _)) (pss_one (ps_ret pe_bl)) pss_nil) (pss_one (ps_if (pt_cmpR op_ne (pe_c f_written4 hr (by omega) (by rfl) (pa_cons (pv 4) (pa_cons pe_str (pa_cons pe_str (pa_cons pe_int pa_nil))))) (pe_c f__law_due hr (by omega) (by rfl) (pa_cons (pv 4) (pa_cons pe_int (pa_cons pe_int pa_nil)))) (nomark _)) (pss_one (ps_ret pe_bl)) pss_nil))))))))))) (pss_one (ps_ret pe_bl))), ?_, Nat.le_refl _, fun _ h => nomatch h⟩
  refine es_seq (M1 := []) (G1 := [some (.d (.lst (ns.map .int))), none, none, none, none, none, none]) ?_ (es_ret ev_bl)
  refine es_forN (ns.take 6 ++ [0]) Dt.int (fun _ => [some (.d (.lst (ns.map .int))), none, none, none, none, none, none]) (fun _ => []) (ei_is (ei_list (ev_wk (ev_op (ev_slL (ev_var rfl) eo_none (eo_some ev_int)) (ev_lstX (xs := [.int 0]) (ea_cons ev_int ea_nil) (show 1 ≤ 1000 by decide)) (ro_cat ?_)) lstX_lst)) (cells_is ns)) (Lg.refl _) fun i c hc => ⟨_, eg_name, .inl ?_⟩
  · have := cutL_len (ns.map Dt.int) none (some 6)
    rw [List.length_map] at this
    rw [List.length_singleton]
    omega
  refine es_nxT (X := [sd (iterW (List.range 12).length (.inl c))]) ?_ (by simp)
  refine es_seq (es_asg (ev_lstO (xs := [.int c]) (ea_cons (ev_var rfl) ea_nil) (show 1 ≤ 1000 by decide))) ?_
  refine es_nG (G' := [_, _, _, _, _, _, _]) rfl ?_
  refine es_nM (M' := [sd (.inl c)]) rfl ?_
  refine es_nxw (es_forN (List.range 12) (fun i => .int (0 + (i : Nat))) (fun _ => [some (.d (.lst (ns.map .int))), none, some (.o 0), none, none, none, none]) (fun j => [sd (iterW j (.inl c))]) (ei_rng1 (n := 12) (ea_cons ev_int ea_nil) (by decide)) (lg_cons (lg_cons (lg_cons (lg_cons (lg_cons (lg_cons (lg_cons lg_nil (.inl rfl)) (.inl rfl)) (.inl rfl)) (.inl rfl)) (.inl rfl)) (.inr rfl)) (.inl rfl)) fun j y hj => ⟨_, eg_name, .inl ?_⟩) (lg_cons (lg_cons (lg_cons (lg_cons (lg_cons (lg_cons (lg_cons lg_nil (.inl rfl)) (.inl rfl)) (.inl rfl)) (.inl rfl)) (.inr rfl)) (.inl rfl)) (.inl rfl))
  have es : iterW (j + 1) (.inl c) = (deepW (iterW j (.inl c))).2 := rfl
  rw [es]
  generalize iterW j (.inl c) = x at *
  obtain ⟨hv1, hv2⟩ := val_ok x
  have hva := good_asc hv2
  have eV : valW x = if (digitW x 2).1 = 0 then linesW (digitW x 2).2 else valueW (digitW x 2).2 8 := rfl
  refine es_seq (es_asg (s := .d (.str (valW x).1)) (M1 := [sd (valW x).2]) (ev_if (b := decide ((digitW x 2).1 = 0)) (et_test (ev_op (ev_w (ds := [.int 2]) (ea_cons (ev_var rfl) (ea_cons ev_int ea_nil)) (sdg _) (R_digI _ 2 (by decide) (by decide)) (sdg _) rfl) ev_int ro_eqI)) (fun h => ?_) (fun h => ?_))) ?_
  · rw [eV, if_pos (of_decide_eq_true h)]
    exact ev_w (ds := []) (ea_cons (ev_var rfl) ea_nil) (sdg _) ⟨_, rfl, rfl, rfl, rfl⟩ (sdg _) rfl
  · rw [eV, if_neg (of_decide_eq_false h)]
    exact ev_w (ds := [.int 8]) (ea_cons (ev_var rfl) (ea_cons ev_int ea_nil)) (sdg _) ⟨_, 8, by decide, by decide, rfl, rfl, rfl, rfl⟩ (sdg _) rfl
  refine es_nG (G' := [_, _, _, _, _, _, _]) rfl ?_
  have hi := digit_lt (valW x).2 (n := 10) (by decide)
  have eI : indW x = digitW (valW x).2 10 := rfl
  refine es_seq (es_asg (s := .d (.int (indW x).1)) (M1 := [sd (indW x).2]) (ev_w (ds := [.int 10]) (ea_cons (ev_var rfl) (ea_cons ev_int ea_nil)) (sdg _) (R_digI _ 10 (by decide) (by decide)) (sdg _) rfl)) ?_
  refine es_nG (G' := [_, _, _, _, _, _, _]) rfl ?_
  rw [← eI] at hi
  have h9 : 1 ≤ nineI (indW x).1 ∧ nineI (indW x).1 ≤ 9 ∧ nineI (indW x).1 ≤ (indW x).1 + 1 := by
    unfold nineI
    split <;> omega
  have hd := digit_lt (indW x).2 (n := nineI (indW x).1) (by omega)
  have eD : deepW x = digitW (indW x).2 (nineI (indW x).1) := rfl
  refine es_seq (es_asg (s := .d (.int (1 + (deepW x).1))) (M1 := [sd (deepW x).2]) (ev_op ev_int (ev_w (ds := [.int (nineI (indW x).1)]) (ea_cons (ev_var rfl) (ea_cons (ev_isD (ev_cb (xs := [.int 9, .int ((indW x).1 + 1)]) (ea_cons ev_int (ea_cons (ev_op (ev_var rfl) ev_int ro_add) ea_nil)) rc_min2) (show _ = Dt.int (nineI (indW x).1) from rfl)) ea_nil)) (sdg _) (R_digI _ _ (by omega) (by omega)) (sdg _) rfl) ro_add)) ?_
  refine es_nG (G' := [_, _, _, _, _, _, _]) rfl ?_
  rw [← eD] at hd
  generalize (valW x).1 = v at *
  generalize (indW x).1 = ind at *
  generalize (deepW x).1 = d at *
  generalize (deepW x).2 = z at *
  have b1 : 1 ≤ 1 + d := by omega
  have b2 : 1 + d ≤ 9 := by omega
  have b3 : 1 + d ≤ ind + 1 := by omega
  have i0 : 0 ≤ ind := hi.1
  have i1 : ind ≤ 100 := by omega
  refine es_seq (G1 := [some (.d (.lst (ns.map .int))), none, some (.o 0), none, some (.d (.str v)), some (.d (.int ind)), some (.d (.int (1 + d)))]) (M1 := [sd z]) (es_nxw (es_no (b := false) (et_is (et_test (ev_op (ev_call0 (ds := [.str v, .str LIT, .str BLK, .int ind, .int 0, .int (1 + d)]) (es := []) (z := .str (blockL v ind (1 + d))) (ea_cons (ev_var rfl) (ea_cons (ev_str _) (ea_cons (ev_str _) (ea_cons (ev_var rfl) (ea_cons ev_int (ea_cons (ev_var rfl) ea_nil)))))) (R_wrI hv1 hv2 i0 i1 (by decide) (by decide) b1 b2 b3) rfl (fun _ => rfl)) (ev_call0 (ds := [.str v, .int ind, .int (1 + d)]) (es := []) (z := .str (blockL v ind (1 + d))) (ea_cons (ev_var rfl) (ea_cons (ev_var rfl) (ea_cons (ev_var rfl) ea_nil))) (R_dueI hv1 hv2 i0 i1 b1 b2 b3) rfl (fun _ => rfl)) ro_neS)) (by simp)) rfl es_next) (lg_cons (lg_cons (lg_cons (lg_cons (lg_cons (lg_cons (lg_cons lg_nil (.inl rfl)) (.inl rfl)) (.inl rfl)) (.inr rfl)) (.inl rfl)) (.inr rfl)) (.inl rfl))) ?_
  refine es_seq (es_no (b := false) (et_is (et_test (ev_op (ev_call0 (ds := [.str v, .str LIT, .str BLK, .int ind, .int 9, .int (1 + d)]) (es := []) (z := .str (blockL v ind (1 + d))) (ea_cons (ev_var rfl) (ea_cons (ev_str _) (ea_cons (ev_str _) (ea_cons (ev_var rfl) (ea_cons ev_int (ea_cons (ev_var rfl) ea_nil)))))) (R_wrI hv1 hv2 i0 i1 (by decide) (by decide) b1 b2 b3) rfl (fun _ => rfl)) (ev_call0 (ds := [.str v, .int ind, .int (1 + d)]) (es := []) (z := .str (blockL v ind (1 + d))) (ea_cons (ev_var rfl) (ea_cons (ev_var rfl) (ea_cons (ev_var rfl) ea_nil))) (R_dueI hv1 hv2 i0 i1 b1 b2 b3) rfl (fun _ => rfl)) ro_neS)) (by simp)) rfl es_next) ?_
  exact es_nxw (es_no (b := false) (et_is (et_test (ev_op (ev_call0 (ds := [.str v, .str LIT, .str BLK, .int 100]) (es := [.int 0, .int 1]) (z := .str (blockL v 100 1)) (ea_cons (ev_var rfl) (ea_cons (ev_str _) (ea_cons (ev_str _) (ea_cons ev_int ea_nil)))) (R_wrI hv1 hv2 (by decide) (by decide) (by decide) (by decide) (by decide) (by decide) (by decide)) rfl dvs_rep) (ev_call0 (ds := [.str v, .int 100, .int 1]) (es := []) (z := .str (blockL v 100 1)) (ea_cons (ev_var rfl) (ea_cons ev_int (ea_cons ev_int ea_nil))) (R_dueI hv1 hv2 (by decide) (by decide) (by decide) (by decide) (by decide)) rfl (fun _ => rfl)) ro_neS)) (by simp)) rfl es_next) (lg_cons (lg_cons (lg_cons (lg_cons (lg_cons (lg_cons (lg_cons lg_nil (.inr rfl)) (.inr rfl)) (.inr rfl)) (.inl rfl)) (.inl rfl)) (.inl rfl)) (.inl rfl))
end
end T
namespace T
open PySem PySem.Spec PyProof.Rows L2 DJ
/-! ### the end: what the top has left -/
theorem all_mk {l : PySem.W.OpenLaw} {w : World} {K : PySem.W.Frag} {h : Heap} {mg : Str → Option Value} {fa : Addr} (X : K.In h) (G : h.Ns mainGlobals mg) (hfa : mg "law" = some (.ref fa))
    {f0 f1 f2 f3 f4 f5 f6 f7 f8 f9 f10 f11 f12 f13 f14 f15 f16 f17 f18 f19 f20 f21 f22 f23 f24 f25 f26 f27 g0 g1 g2 g3 g4 h21 : Addr}
    {od0 od1 od2 od3 od4 od5 od6 od7 od8 od9 od10 od11 od12 od13 od14 od15 od16 od17 od18 od19 od20 od21 od22 od23 od24 od25 od26 od27 od28 od29 od30 od31 od32 an0 an1 an2 an3 an4 an5 an6 an7 an8 an9 an10 an11 an12 an13 an14 an15 an16 an17 an18 an19 an20 an21 an22 an23 an24 an25 an26 an27 : Option Addr}
    {sl0 sl1 sl2 sl3 sl4 sl5 sl6 sl7 sl8 sl9 sl10 sl11 sl12 sl13 sl14 sl15 sl16 sl17 sl18 sl19 sl20 sl21 sl22 sl23 sl24 sl25 sl26 sl27 sl28 sl29 sl30 sl31 sl32 : Array (Option Value)}
    {oc0 oc1 oc2 oc3 oc4 oc5 oc6 oc7 oc8 oc9 oc10 oc11 oc12 oc13 oc14 oc15 oc16 oc17 oc18 oc19 oc20 oc21 oc22 oc23 oc24 oc25 oc26 oc27 kV0 kV1 kV2 kV3 kV4 kV5 kV6 kV7 kV8 kV9 kV10 kV11 kV12 kV13 kV14 kV15 kV16 kV17 kV18 kV19 kV20 kV21 kV22 kV23 kV24 kV25 kV26 kV27 dc0 dc1 dc2 dc3 dc4 dc5 dc6 dc7 dc8 dc9 dc10 dc11 dc12 dc13 dc14 dc15 dc16 dc17 dc18 dc19 dc20 dc21 dc22 dc23 dc24 dc25 dc26 dc27 pm0 pm1 pm2 pm3 pm4 pm5 pm6 pm7 pm8 pm9 pm10 pm11 pm12 pm13 pm14 pm15 pm16 pm17 pm18 pm19 pm20 pm21 pm22 pm23 pm24 pm25 pm26 pm27 cd0 cd1 cd2 cd3 cd4 cd5 cd6 cd7 cd8 cd9 cd10 cd11 cd12 cd13 cd14 cd15 cd16 cd17 cd18 cd19 cd20 cd21 cd22 cd23 cd24 cd25 cd26 cd27 ct0 ct1 ct2 ct3 ct4 ct5 ct6 ct7 ct8 ct9 ct10 ct11 ct12 ct13 ct14 ct15 ct16 ct17 ct18 ct19 ct20 ct21 ct22 ct23 ct24 ct25 ct26 ct27 : Value}
    {tc0 tc1 tc2 tc3 tc4 : Value}
    {ti0 ti1 ti2 ti3 ti4 : Array Value}
    {tn0 tn1 tn2 tn3 tn4 : Nat}
    {tS0 tS1 tS2 : Tok}
    {tI0 : Tok}
    {qc21 : Value} {qo21 : Option Addr} {qi21 : Array Value} {qn21 : Nat} {qs21 : Array (Option Value)}
    (a0 : PySem.W.nsIn K mainGlobals "is_foreign" = some (some (.ref f0)))
    (l0 : K.lookup f0 = some ⟨oc0, od0, .func (PySem.W.fnOf "is_foreign" "is_foreign" (defArgs s_is_foreign) (defBody s_is_foreign) (defScope s_is_foreign) .none kV0 dc0 pm0 an0 cd0 ct0), sl0⟩)
    (c0 : PySem.W.codeIn K cd0 "is_foreign" = true)
    (k0 : PySem.W.keepIn K (.ref f0) = true)
    (a1 : PySem.W.nsIn K mainGlobals "is_sign" = some (some (.ref f1)))
    (l1 : K.lookup f1 = some ⟨oc1, od1, .func (PySem.W.fnOf "is_sign" "is_sign" (defArgs s_is_sign) (defBody s_is_sign) (defScope s_is_sign) .none kV1 dc1 pm1 an1 cd1 ct1), sl1⟩)
    (c1 : PySem.W.codeIn K cd1 "is_sign" = true)
    (k1 : PySem.W.keepIn K (.ref f1) = true)
    (a2 : PySem.W.nsIn K mainGlobals "is_safe" = some (some (.ref f2)))
    (l2 : K.lookup f2 = some ⟨oc2, od2, .func (PySem.W.fnOf "is_safe" "is_safe" (defArgs s_is_safe) (defBody s_is_safe) (defScope s_is_safe) .none kV2 dc2 pm2 an2 cd2 ct2), sl2⟩)
    (c2 : PySem.W.codeIn K cd2 "is_safe" = true)
    (k2 : PySem.W.keepIn K (.ref f2) = true)
    (a3 : PySem.W.nsIn K mainGlobals "begins_plain" = some (some (.ref f3)))
    (l3 : K.lookup f3 = some ⟨oc3, od3, .func (PySem.W.fnOf "begins_plain" "begins_plain" (defArgs s_begins_plain) (defBody s_begins_plain) (defScope s_begins_plain) .none kV3 dc3 pm3 an3 cd3 ct3), sl3⟩)
    (c3 : PySem.W.codeIn K cd3 "begins_plain" = true)
    (k3 : PySem.W.keepIn K (.ref f3) = true)
    (a4 : PySem.W.nsIn K mainGlobals "check" = some (some (.ref f4)))
    (l4 : K.lookup f4 = some ⟨oc4, od4, .func (PySem.W.fnOf "check" "check" (defArgs s_check) (defBody s_check) (defScope s_check) .none kV4 dc4 pm4 an4 cd4 ct4), sl4⟩)
    (c4 : PySem.W.codeIn K cd4 "check" = true)
    (k4 : PySem.W.keepIn K (.ref f4) = true)
    (a5 : PySem.W.nsIn K mainGlobals "check_style" = some (some (.ref f5)))
    (l5 : K.lookup f5 = some ⟨oc5, od5, .func (PySem.W.fnOf "check_style" "check_style" (defArgs s_check_style) (defBody s_check_style) (defScope s_check_style) .none kV5 dc5 pm5 an5 cd5 ct5), sl5⟩)
    (c5 : PySem.W.codeIn K cd5 "check_style" = true)
    (k5 : PySem.W.keepIn K (.ref f5) = true)
    (a6 : PySem.W.nsIn K mainGlobals "is_text" = some (some (.ref f6)))
    (l6 : K.lookup f6 = some ⟨oc6, od6, .func (PySem.W.fnOf "is_text" "is_text" (defArgs s_is_text) (defBody s_is_text) (defScope s_is_text) .none kV6 dc6 pm6 an6 cd6 ct6), sl6⟩)
    (c6 : PySem.W.codeIn K cd6 "is_text" = true)
    (k6 : PySem.W.keepIn K (.ref f6) = true)
    (a7 : PySem.W.nsIn K mainGlobals "is_value" = some (some (.ref f7)))
    (l7 : K.lookup f7 = some ⟨oc7, od7, .func (PySem.W.fnOf "is_value" "is_value" (defArgs s_is_value) (defBody s_is_value) (defScope s_is_value) .none kV7 dc7 pm7 an7 cd7 ct7), sl7⟩)
    (c7 : PySem.W.codeIn K cd7 "is_value" = true)
    (k7 : PySem.W.keepIn K (.ref f7) = true)
    (a8 : PySem.W.nsIn K mainGlobals "is_word" = some (some (.ref f8)))
    (l8 : K.lookup f8 = some ⟨oc8, od8, .func (PySem.W.fnOf "is_word" "is_word" (defArgs s_is_word) (defBody s_is_word) (defScope s_is_word) .none kV8 dc8 pm8 an8 cd8 ct8), sl8⟩)
    (c8 : PySem.W.codeIn K cd8 "is_word" = true)
    (k8 : PySem.W.keepIn K (.ref f8) = true)
    (a9 : PySem.W.nsIn K mainGlobals "has_text" = some (some (.ref f9)))
    (l9 : K.lookup f9 = some ⟨oc9, od9, .func (PySem.W.fnOf "has_text" "has_text" (defArgs s_has_text) (defBody s_has_text) (defScope s_has_text) .none kV9 dc9 pm9 an9 cd9 ct9), sl9⟩)
    (c9 : PySem.W.codeIn K cd9 "has_text" = true)
    (k9 : PySem.W.keepIn K (.ref f9) = true)
    (a10 : PySem.W.nsIn K mainGlobals "has_white_beside_feed" = some (some (.ref f10)))
    (l10 : K.lookup f10 = some ⟨oc10, od10, .func (PySem.W.fnOf "has_white_beside_feed" "has_white_beside_feed" (defArgs s_has_white_beside_feed) (defBody s_has_white_beside_feed) (defScope s_has_white_beside_feed) .none kV10 dc10 pm10 an10 cd10 ct10), sl10⟩)
    (c10 : PySem.W.codeIn K cd10 "has_white_beside_feed" = true)
    (k10 : PySem.W.keepIn K (.ref f10) = true)
    (a11 : PySem.W.nsIn K mainGlobals "fits_plain" = some (some (.ref f11)))
    (l11 : K.lookup f11 = some ⟨oc11, od11, .func (PySem.W.fnOf "fits_plain" "fits_plain" (defArgs s_fits_plain) (defBody s_fits_plain) (defScope s_fits_plain) .none kV11 dc11 pm11 an11 cd11 ct11), sl11⟩)
    (c11 : PySem.W.codeIn K cd11 "fits_plain" = true)
    (k11 : PySem.W.keepIn K (.ref f11) = true)
    (a12 : PySem.W.nsIn K mainGlobals "is_like_mark" = some (some (.ref f12)))
    (l12 : K.lookup f12 = some ⟨oc12, od12, .func (PySem.W.fnOf "is_like_mark" "is_like_mark" (defArgs s_is_like_mark) (defBody s_is_like_mark) (defScope s_is_like_mark) .none kV12 dc12 pm12 an12 cd12 ct12), sl12⟩)
    (c12 : PySem.W.codeIn K cd12 "is_like_mark" = true)
    (k12 : PySem.W.keepIn K (.ref f12) = true)
    (a13 : PySem.W.nsIn K mainGlobals "ahead_of" = some (some (.ref f13)))
    (l13 : K.lookup f13 = some ⟨oc13, od13, .func (PySem.W.fnOf "ahead_of" "ahead_of" (defArgs s_ahead_of) (defBody s_ahead_of) (defScope s_ahead_of) .none kV13 dc13 pm13 an13 cd13 ct13), sl13⟩)
    (c13 : PySem.W.codeIn K cd13 "ahead_of" = true)
    (k13 : PySem.W.keepIn K (.ref f13) = true)
    (a14 : PySem.W.nsIn K mainGlobals "filled" = some (some (.ref f14)))
    (l14 : K.lookup f14 = some ⟨oc14, od14, .func (PySem.W.fnOf "filled" "filled" (defArgs s_filled) (defBody s_filled) (defScope s_filled) .none kV14 dc14 pm14 an14 cd14 ct14), sl14⟩)
    (c14 : PySem.W.codeIn K cd14 "filled" = true)
    (k14 : PySem.W.keepIn K (.ref f14) = true)
    (a15 : PySem.W.nsIn K mainGlobals "words_of" = some (some (.ref f15)))
    (l15 : K.lookup f15 = some ⟨oc15, od15, .func (PySem.W.fnOf "words_of" "words_of" (defArgs s_words_of) (defBody s_words_of) (defScope s_words_of) .none kV15 dc15 pm15 an15 cd15 ct15), sl15⟩)
    (c15 : PySem.W.codeIn K cd15 "words_of" = true)
    (k15 : PySem.W.keepIn K (.ref f15) = true)
    (a16 : PySem.W.nsIn K mainGlobals "block_lines" = some (some (.ref f16)))
    (l16 : K.lookup f16 = some ⟨oc16, od16, .func (PySem.W.fnOf "block_lines" "block_lines" (defArgs s_block_lines) (defBody s_block_lines) (defScope s_block_lines) .none kV16 dc16 pm16 an16 cd16 ct16), sl16⟩)
    (c16 : PySem.W.codeIn K cd16 "block_lines" = true)
    (k16 : PySem.W.keepIn K (.ref f16) = true)
    (a17 : PySem.W.nsIn K mainGlobals "block_text" = some (some (.ref f17)))
    (l17 : K.lookup f17 = some ⟨oc17, od17, .func (PySem.W.fnOf "block_text" "block_text" (defArgs s_block_text) (defBody s_block_text) (defScope s_block_text) .none kV17 dc17 pm17 an17 cd17 ct17), sl17⟩)
    (c17 : PySem.W.codeIn K cd17 "block_text" = true)
    (k17 : PySem.W.keepIn K (.ref f17) = true)
    (a18 : PySem.W.nsIn K mainGlobals "text_of_scalar" = some (some (.ref f18)))
    (l18 : K.lookup f18 = some ⟨oc18, od18, .func (PySem.W.fnOf "text_of_scalar" "text_of_scalar" (defArgs s_text_of_scalar) (defBody s_text_of_scalar) (defScope s_text_of_scalar) .none kV18 dc18 pm18 an18 cd18 ct18), sl18⟩)
    (c18 : PySem.W.codeIn K cd18 "text_of_scalar" = true)
    (k18 : PySem.W.keepIn K (.ref f18) = true)
    (a19 : PySem.W.nsIn K mainGlobals "is_whole" = some (some (.ref f19)))
    (l19 : K.lookup f19 = some ⟨oc19, od19, .func (PySem.W.fnOf "is_whole" "is_whole" (defArgs s_is_whole) (defBody s_is_whole) (defScope s_is_whole) .none kV19 dc19 pm19 an19 cd19 ct19), sl19⟩)
    (c19 : PySem.W.codeIn K cd19 "is_whole" = true)
    (k19 : PySem.W.keepIn K (.ref f19) = true)
    (a20 : PySem.W.nsIn K mainGlobals "check_deep" = some (some (.ref f20)))
    (l20 : K.lookup f20 = some ⟨oc20, od20, .func (PySem.W.fnOf "check_deep" "check_deep" (defArgs s_check_deep) (defBody s_check_deep) (defScope s_check_deep) .none kV20 dc20 pm20 an20 cd20 ct20), sl20⟩)
    (c20 : PySem.W.codeIn K cd20 "check_deep" = true)
    (k20 : PySem.W.keepIn K (.ref f20) = true)
    (a21 : PySem.W.nsIn K mainGlobals "written" = some (some (.ref f21)))
    (l21 : K.lookup f21 = some ⟨oc21, od21, .func (PySem.W.fnOf "written" "written" (defArgs s_written) (defBody s_written) (defScope s_written) (.ref h21) kV21 dc21 pm21 an21 cd21 ct21), sl21⟩)
    (r21 : K.lookup h21 = some ⟨qc21, qo21, .seq qi21 qn21, qs21⟩)
    (s21 : intsOf [0, 1] qi21.toList = true)
    (c21 : PySem.W.codeIn K cd21 "written" = true)
    (k21 : PySem.W.keepIn K (.ref f21) = true)
    (a22 : PySem.W.nsIn K mainGlobals "_law_digit" = some (some (.ref f22)))
    (l22 : K.lookup f22 = some ⟨oc22, od22, .func (PySem.W.fnOf "_law_digit" "_law_digit" (defArgs s__law_digit) (defBody s__law_digit) (defScope s__law_digit) .none kV22 dc22 pm22 an22 cd22 ct22), sl22⟩)
    (c22 : PySem.W.codeIn K cd22 "_law_digit" = true)
    (k22 : PySem.W.keepIn K (.ref f22) = true)
    (a23 : PySem.W.nsIn K mainGlobals "_law_one" = some (some (.ref f23)))
    (l23 : K.lookup f23 = some ⟨oc23, od23, .func (PySem.W.fnOf "_law_one" "_law_one" (defArgs s__law_one) (defBody s__law_one) (defScope s__law_one) .none kV23 dc23 pm23 an23 cd23 ct23), sl23⟩)
    (c23 : PySem.W.codeIn K cd23 "_law_one" = true)
    (k23 : PySem.W.keepIn K (.ref f23) = true)
    (a24 : PySem.W.nsIn K mainGlobals "_law_value" = some (some (.ref f24)))
    (l24 : K.lookup f24 = some ⟨oc24, od24, .func (PySem.W.fnOf "_law_value" "_law_value" (defArgs s__law_value) (defBody s__law_value) (defScope s__law_value) .none kV24 dc24 pm24 an24 cd24 ct24), sl24⟩)
    (c24 : PySem.W.codeIn K cd24 "_law_value" = true)
    (k24 : PySem.W.keepIn K (.ref f24) = true)
    (a25 : PySem.W.nsIn K mainGlobals "_law_lines" = some (some (.ref f25)))
    (l25 : K.lookup f25 = some ⟨oc25, od25, .func (PySem.W.fnOf "_law_lines" "_law_lines" (defArgs s__law_lines) (defBody s__law_lines) (defScope s__law_lines) .none kV25 dc25 pm25 an25 cd25 ct25), sl25⟩)
    (c25 : PySem.W.codeIn K cd25 "_law_lines" = true)
    (k25 : PySem.W.keepIn K (.ref f25) = true)
    (a26 : PySem.W.nsIn K mainGlobals "_law_due" = some (some (.ref f26)))
    (l26 : K.lookup f26 = some ⟨oc26, od26, .func (PySem.W.fnOf "_law_due" "_law_due" (defArgs s__law_due) (defBody s__law_due) (defScope s__law_due) .none kV26 dc26 pm26 an26 cd26 ct26), sl26⟩)
    (c26 : PySem.W.codeIn K cd26 "_law_due" = true)
    (k26 : PySem.W.keepIn K (.ref f26) = true)
    (a27 : PySem.W.nsIn K mainGlobals "law" = some (some (.ref f27)))
    (l27 : K.lookup f27 = some ⟨oc27, od27, .func (PySem.W.fnOf "law" "law" (defArgs s_law) (defBody s_law) (defScope s_law) .none kV27 dc27 pm27 an27 cd27 ct27), sl27⟩)
    (c27 : PySem.W.codeIn K cd27 "law" = true)
    (k27 : PySem.W.keepIn K (.ref f27) = true)
    (b0 : PySem.W.nsIn K mainGlobals "FEED" = some (some (.str (tx [10]) tS0)))
    (b1 : PySem.W.nsIn K mainGlobals "BRACKETS" = some (some (.str (tx BRK) tS1)))
    (b2 : PySem.W.nsIn K mainGlobals "NOT_FIRST" = some (some (.str (tx NF) tS2)))
    (p0 : PySem.W.nsIn K mainGlobals "MOST_SIGNS" = some (some (.int (3000 : Nat) tI0)))
    (u0 : PySem.W.nsIn K mainGlobals "STYLES" = some (some (.ref g0)))
    (v0 : K.lookup g0 = some ⟨tc0, od28, .seq ti0 tn0, sl28⟩)
    (w0 : tc0 = .type "tuple")
    (x0 : ti0.size ≤ 1000)
    (y0 : strsOf STYS ti0.toList = true)
    (u1 : PySem.W.nsIn K mainGlobals "CONTEXTS" = some (some (.ref g1)))
    (v1 : K.lookup g1 = some ⟨tc1, od29, .seq ti1 tn1, sl29⟩)
    (w1 : tc1 = .type "tuple")
    (x1 : ti1.size ≤ 1000)
    (y1 : strsOf CTXS ti1.toList = true)
    (u2 : PySem.W.nsIn K mainGlobals "INSIDE" = some (some (.ref g2)))
    (v2 : K.lookup g2 = some ⟨tc2, od30, .seq ti2 tn2, sl30⟩)
    (w2 : tc2 = .type "tuple")
    (x2 : ti2.size ≤ 1000)
    (y2 : strsOf INS ti2.toList = true)
    (u3 : PySem.W.nsIn K mainGlobals "FLAT" = some (some (.ref g3)))
    (v3 : K.lookup g3 = some ⟨tc3, od31, .seq ti3 tn3, sl31⟩)
    (w3 : tc3 = .type "tuple")
    (x3 : ti3.size ≤ 1000)
    (y3 : strsOf FLT ti3.toList = true)
    (u4 : PySem.W.nsIn K mainGlobals "MARKS" = some (some (.ref g4)))
    (v4 : K.lookup g4 = some ⟨tc4, od32, .seq ti4 tn4, sl32⟩)
    (w4 : tc4 = .type "tuple")
    (x4 : ti4.size ≤ 1000)
    (y4 : strsOf MRK ti4.toList = true)
    (z0 : PySem.W.nsIn K mainGlobals "any" = some none)
    (z1 : PySem.W.nsIn K mainGlobals "str" = some none)
    (z2 : PySem.W.nsIn K mainGlobals "len" = some none)
    (z3 : PySem.W.nsIn K mainGlobals "int" = some none)
    (z4 : PySem.W.nsIn K mainGlobals "range" = some none)
    (z5 : PySem.W.nsIn K mainGlobals "isinstance" = some none)
    (z6 : PySem.W.nsIn K mainGlobals "enumerate" = some none)
    (z7 : PySem.W.nsIn K mainGlobals "bool" = some none)
    (z8 : PySem.W.nsIn K mainGlobals "min" = some none)
    (z9 : PySem.W.nsIn K mainGlobals "max" = some none) :
    ∃ fd : FuncData, (∀ (s : Shared) (v : Value), BindsTo s fd ⟨[v], []⟩ [("_law_script", v)]) ∧ ∀ base : Heap, K.In base → base.Ns mainGlobals mg → FnOk l.prog w K mg base CX0 8 fa fd ["_law_script"] (SpR K 1 R_law) := by
  have e := hfa.symm.trans (PySem.W.mg_of X G a27)
  cases e
  have D_is_foreign := df_mk (st := s_is_foreign) (ps := ["sign"]) X G a0 l0 c0 k0 fun _ _ _ _ _ _ us hl => match us, hl with | [_], _ => rfl
  have D_is_sign := df_mk (st := s_is_sign) (ps := ["sign"]) X G a1 l1 c1 k1 fun _ _ _ _ _ _ us hl => match us, hl with | [_], _ => rfl
  have D_is_safe := df_mk (st := s_is_safe) (ps := ["sign", "inside"]) X G a2 l2 c2 k2 fun _ _ _ _ _ _ us hl => match us, hl with | [_, _], _ => rfl
  have D_begins_plain := df_mk (st := s_begins_plain) (ps := ["text", "place", "inside"]) X G a3 l3 c3 k3 fun _ _ _ _ _ _ us hl => match us, hl with | [_, _, _], _ => rfl
  have D_check := df_mk (st := s_check) (ps := ["holds", "part"]) X G a4 l4 c4 k4 fun _ _ _ _ _ _ us hl => match us, hl with | [_, _], _ => rfl
  have D_check_style := df_mk (st := s_check_style) (ps := ["style", "context"]) X G a5 l5 c5 k5 fun _ _ _ _ _ _ us hl => match us, hl with | [_, _], _ => rfl
  have D_is_text := df_mk (st := s_is_text) (ps := ["thing"]) X G a6 l6 c6 k6 fun _ _ _ _ _ _ us hl => match us, hl with | [_], _ => rfl
  have D_is_value := df_mk (st := s_is_value) (ps := ["thing"]) X G a7 l7 c7 k7 fun _ _ _ _ _ _ us hl => match us, hl with | [_], _ => rfl
  have D_is_word := df_mk (st := s_is_word) (ps := ["thing", "words"]) X G a8 l8 c8 k8 fun _ _ _ _ _ _ us hl => match us, hl with | [_, _], _ => rfl
  have D_has_text := df_mk (st := s_has_text) (ps := ["value", "style", "context"]) X G a9 l9 c9 k9 fun _ _ _ _ _ _ us hl => match us, hl with | [_, _, _], _ => rfl
  have D_has_white_beside_feed := df_mk (st := s_has_white_beside_feed) (ps := ["value"]) X G a10 l10 c10 k10 fun _ _ _ _ _ _ us hl => match us, hl with | [_], _ => rfl
  have D_fits_plain := df_mk (st := s_fits_plain) (ps := ["value", "inside", "flat"]) X G a11 l11 c11 k11 fun _ _ _ _ _ _ us hl => match us, hl with | [_, _, _], _ => rfl
  have D_is_like_mark := df_mk (st := s_is_like_mark) (ps := ["word"]) X G a12 l12 c12 k12 fun _ _ _ _ _ _ us hl => match us, hl with | [_], _ => rfl
  have D_ahead_of := df_mk (st := s_ahead_of) (ps := ["word", "indent"]) X G a13 l13 c13 k13 fun _ _ _ _ _ _ us hl => match us, hl with | [_, _], _ => rfl
  have D_filled := df_mk (st := s_filled) (ps := ["words", "indent", "width", "first"]) X G a14 l14 c14 k14 fun _ _ _ _ _ _ us hl => match us, hl with | [_, _, _, _], _ => rfl
  have D_words_of := df_mk (st := s_words_of) (ps := ["row", "width"]) X G a15 l15 c15 k15 fun _ _ _ _ _ _ us hl => match us, hl with | [_, _], _ => rfl
  have D_block_lines := df_mk (st := s_block_lines) (ps := ["rows", "folded", "indent", "width"]) X G a16 l16 c16 k16 fun _ _ _ _ _ _ us hl => match us, hl with | [_, _, _, _], _ => rfl
  have D_block_text := df_mk (st := s_block_text) (ps := ["value", "folded", "indent", "width", "deep"]) X G a17 l17 c17 k17 fun _ _ _ _ _ _ us hl => match us, hl with | [_, _, _, _, _], _ => rfl
  have D_text_of_scalar := df_mk (st := s_text_of_scalar) (ps := ["value", "style", "context", "indent", "width", "deep"]) X G a18 l18 c18 k18 fun _ _ _ _ _ _ us hl => match us, hl with | [_, _, _, _, _, _], _ => rfl
  have D_is_whole := df_mk (st := s_is_whole) (ps := ["thing", "low", "high"]) X G a19 l19 c19 k19 fun _ _ _ _ _ _ us hl => match us, hl with | [_, _, _], _ => rfl
  have D_check_deep := df_mk (st := s_check_deep) (ps := ["deep", "indent"]) X G a20 l20 c20 k20 fun _ _ _ _ _ _ us hl => match us, hl with | [_, _], _ => rfl
  have D_written : DfD K mg "written" s_written [.int 0, .int 1] := dfd_mk (st := s_written) (ls := [0, 1]) X G a21 l21 c21 k21 r21 s21 (List.cons_ne_nil _ _)
  have D__law_digit := df_mk (st := s__law_digit) (ps := ["_law_state", "_law_base"]) X G a22 l22 c22 k22 fun _ _ _ _ _ _ us hl => match us, hl with | [_, _], _ => rfl
  have D__law_one := df_mk (st := s__law_one) (ps := ["_law_state", "_law_some"]) X G a23 l23 c23 k23 fun _ _ _ _ _ _ us hl => match us, hl with | [_, _], _ => rfl
  have D__law_value := df_mk (st := s__law_value) (ps := ["_law_state", "_law_most"]) X G a24 l24 c24 k24 fun _ _ _ _ _ _ us hl => match us, hl with | [_, _], _ => rfl
  have D__law_lines := df_mk (st := s__law_lines) (ps := ["_law_state"]) X G a25 l25 c25 k25 fun _ _ _ _ _ _ us hl => match us, hl with | [_], _ => rfl
  have D__law_due := df_mk (st := s__law_due) (ps := ["_law_value_here", "_law_indent", "_law_deep"]) X G a26 l26 c26 k26 fun _ _ _ _ _ _ us hl => match us, hl with | [_, _, _], _ => rfl
  have D_law := df_mk (st := s_law) (ps := ["_law_script"]) X G a27 l27 c27 k27 fun _ _ _ _ _ _ us hl => match us, hl with | [_], _ => rfl
  have U_FEED := gc_str X G b0
  have U_BRACKETS := gc_str X G b1
  have U_NOT_FIRST := gc_str X G b2
  have U_MOST_SIGNS := gc_int X G p0
  have U_STYLES := gc_tup X G u0 v0 w0 x0 y0
  have U_CONTEXTS := gc_tup X G u1 v1 w1 x1 y1
  have U_INSIDE := gc_tup X G u2 v2 w2 x2 y2
  have U_FLAT := gc_tup X G u3 v3 w3 x3 y3
  have U_MARKS := gc_tup X G u4 v4 w4 x4 y4
  have m_any := PySem.W.mg_none_of X G z0
  have m_str := PySem.W.mg_none_of X G z1
  have m_len := PySem.W.mg_none_of X G z2
  have m_int := PySem.W.mg_none_of X G z3
  have m_range := PySem.W.mg_none_of X G z4
  have m_isinstance := PySem.W.mg_none_of X G z5
  have m_enumerate := PySem.W.mg_none_of X G z6
  have m_bool := PySem.W.mg_none_of X G z7
  have m_min := PySem.W.mg_none_of X G z8
  have m_max := PySem.W.mg_none_of X G z9
  refine ⟨PySem.W.fnOf "law" "law" (defArgs s_law) (defBody s_law) (defScope s_law) .none kV27 dc27 pm27 an27 cd27 ct27, fun s v => .of_eq rfl, fun base KI GI => ?_⟩
  have F1 := cal_foreign (P := l.prog) (w := w) (base := base) (k := 0) D_is_foreign U_FEED
  have F2 := cal_sign (P := l.prog) (w := w) (base := base) (k := 0) D_is_sign
  have F3 := cal_safe (k := 0) D_is_safe U_BRACKETS F2
  have F4 := cal_begins (k := 0) D_begins_plain U_NOT_FIRST F2 F3
  have F5 := cal_check (P := l.prog) (w := w) (base := base) (k := 0) D_check
  have F6 := cal_word (P := l.prog) (w := w) (base := base) (k := 0) D_is_word m_isinstance m_str
  have F7 := cal_style (k := 0) D_check_style U_STYLES U_CONTEXTS F5 F6
  have F8 := cal_text (k := 0) D_is_text F1 m_isinstance m_str m_any
  have F9 := cal_value (k := 0) D_is_value U_MOST_SIGNS F8 m_len
  have F10 := cal_white (P := l.prog) (w := w) (base := base) (k := 0) D_has_white_beside_feed m_any
  have F11 := cal_plain D_fits_plain U_FEED U_BRACKETS F10 F4 F3 m_enumerate
  have F12 := cal_has D_has_text U_FEED U_INSIDE U_FLAT F11 F10
  have B1 := cal_mark (P := l.prog) (w := w) (base := base) (k := 0) D_is_like_mark U_MARKS
  have B2 := cal_ahead (k := 0) D_ahead_of B1
  have B3 := cal_filled (k := 0) D_filled B2 m_len
  have B4 := cal_words (P := l.prog) (w := w) (base := base) (k := 0) D_words_of m_len m_range
  have B5 := cal_blines (k := 0) D_block_lines B3
  have B6 := cal_block D_block_text U_FEED B1 B4 B5 m_len m_any m_max m_str
  have B7 := cal_tos D_text_of_scalar B6
  have B8 := cal_whole (P := l.prog) (w := w) (base := base) (k := 0) D_is_whole m_isinstance m_int m_bool
  have B9 := cal_cdeep (k := 0) D_check_deep F5 B8 m_min
  have W6 := cal_wr D_written F5 F9 F7 B8 B9 F12 B7 2 rfl (fun T kV doc pm an cdv ct us its => bind6 T kV doc pm an cdv ct us its)
  have W4 := cal_wr D_written F5 F9 F7 B8 B9 F12 B7 0 rfl (fun T kV doc pm an cdv ct us its => bind4 T kV doc pm an cdv ct us its)
  have L1 := cal_digit (P := l.prog) (w := w) (base := base) (k := 0) D__law_digit m_int m_len
  have L2 := cal_one (k := 0) D__law_one L1 m_len
  have L3 := cal_valueW D__law_value L1 L2 m_range
  have L4 := cal_lines (k := 0) D__law_lines L1 L2 m_range
  have L5 := cal_due (P := l.prog) (w := w) (base := base) (k := 0) D__law_due m_len m_min m_max m_int m_str
  obtain ⟨f, fd, F, U, hm, b⟩ := (cal_law D_law W6 W4 L4 L3 L1 L5 m_range m_min).ex
  cases hfa.symm.trans hm
  obtain ⟨oc, od, kV, doc, pm, an, cdv, ct, osl, rfl, lk, hcd⟩ := U.ex
  have e2 := lk.symm.trans l27
  cases e2
  exact F
end T
open PySem PySem.W PyProof.Rows
set_option maxHeartbeats 0 in
theorem PySem.Challenge.cw_anchorpages_k25_texts_of_literal_scalars_holds : PySem.Challenge.rw_anchorpages_k25_texts_of_literal_scalars.Holds := by
  w_on; o_law; k_head; (case hw => w_witness2)
  k_fill
  refine L2.walk_of (l := PySem.Challenge.rw_anchorpages_k25_texts_of_literal_scalars) (n := 63) (k := 8) (x := "_law_script") (CX := fun _ => L2.CX0) (sp := fun w => DJ.SpR _ 1 T.R_law) rfl (by decide) rfl ⟨rfl, by decide, by decide⟩ (fun w h Y => PySem.W.kIn_of Y) ?F (fun _ _ a ns hl _ hS => DJ.sp_of hS ⟨ns, hl, rfl, rfl, rfl, rfl⟩) (fun _ _ _ _ _ h => h)
  case F =>
    intro w mg fa h KX G hmg
    refine' T.all_mk KX G hmg ?a0 ?l0 ?c0 ?k0 ?a1 ?l1 ?c1 ?k1 ?a2 ?l2 ?c2 ?k2 ?a3 ?l3 ?c3 ?k3 ?a4 ?l4 ?c4 ?k4 ?a5 ?l5 ?c5 ?k5 ?a6 ?l6 ?c6 ?k6 ?a7 ?l7 ?c7 ?k7 ?a8 ?l8 ?c8 ?k8 ?a9 ?l9 ?c9 ?k9 ?a10 ?l10 ?c10 ?k10 ?a11 ?l11 ?c11 ?k11 ?a12 ?l12 ?c12 ?k12 ?a13 ?l13 ?c13 ?k13 ?a14 ?l14 ?c14 ?k14 ?a15 ?l15 ?c15 ?k15 ?a16 ?l16 ?c16 ?k16 ?a17 ?l17 ?c17 ?k17 ?a18 ?l18 ?c18 ?k18 ?a19 ?l19 ?c19 ?k19 ?a20 ?l20 ?c20 ?k20 ?a21 ?l21 ?r21 ?s21 ?c21 ?k21 ?a22 ?l22 ?c22 ?k22 ?a23 ?l23 ?c23 ?k23 ?a24 ?l24 ?c24 ?k24 ?a25 ?l25 ?c25 ?k25 ?a26 ?l26 ?c26 ?k26 ?a27 ?l27 ?c27 ?k27 ?b0 ?b1 ?b2 ?p0 ?u0 ?v0 ?w0 ?x0 ?y0 ?u1 ?v1 ?w1 ?x1 ?y1 ?u2 ?v2 ?w2 ?x2 ?y2 ?u3 ?v3 ?w3 ?x3 ?y3 ?u4 ?v4 ?w4 ?x4 ?y4 ?z0 ?z1 ?z2 ?z3 ?z4 ?z5 ?z6 ?z7 ?z8 ?z9
    (case a0 => k_is); (case l0 => k_is); (case c0 => k_is); (case k0 => k_is); (case a1 => k_is); (case l1 => k_is); (case c1 => k_is); (case k1 => k_is); (case a2 => k_is); (case l2 => k_is); (case c2 => k_is); (case k2 => k_is); (case a3 => k_is); (case l3 => k_is); (case c3 => k_is); (case k3 => k_is); (case a4 => k_is); (case l4 => k_is); (case c4 => k_is); (case k4 => k_is); (case a5 => k_is); (case l5 => k_is); (case c5 => k_is); (case k5 => k_is); (case a6 => k_is); (case l6 => k_is); (case c6 => k_is); (case k6 => k_is); (case a7 => k_is); (case l7 => k_is); (case c7 => k_is); (case k7 => k_is); (case a8 => k_is); (case l8 => k_is); (case c8 => k_is); (case k8 => k_is); (case a9 => k_is); (case l9 => k_is); (case c9 => k_is); (case k9 => k_is); (case a10 => k_is); (case l10 => k_is); (case c10 => k_is); (case k10 => k_is); (case a11 => k_is); (case l11 => k_is); (case c11 => k_is); (case k11 => k_is); (case a12 => k_is); (case l12 => k_is); (case c12 => k_is); (case k12 => k_is); (case a13 => k_is); (case l13 => k_is); (case c13 => k_is); (case k13 => k_is); (case a14 => k_is); (case l14 => k_is); (case c14 => k_is); (case k14 => k_is); (case a15 => k_is); (case l15 => k_is); (case c15 => k_is); (case k15 => k_is); (case a16 => k_is); (case l16 => k_is); (case c16 => k_is); (case k16 => k_is); (case a17 => k_is); (case l17 => k_is); (case c17 => k_is); (case k17 => k_is); (case a18 => k_is); (case l18 => k_is); (case c18 => k_is); (case k18 => k_is); (case a19 => k_is); (case l19 => k_is); (case c19 => k_is); (case k19 => k_is); (case a20 => k_is); (case l20 => k_is); (case c20 => k_is); (case k20 => k_is); (case a21 => k_is); (case l21 => k_is); (case r21 => k_is); (case s21 => decide +kernel); (case c21 => k_is); (case k21 => k_is); (case a22 => k_is); (case l22 => k_is); (case c22 => k_is); (case k22 => k_is); (case a23 => k_is); (case l23 => k_is); (case c23 => k_is); (case k23 => k_is); (case a24 => k_is); (case l24 => k_is); (case c24 => k_is); (case k24 => k_is); (case a25 => k_is); (case l25 => k_is); (case c25 => k_is); (case k25 => k_is); (case a26 => k_is); (case l26 => k_is); (case c26 => k_is); (case k26 => k_is); (case a27 => k_is); (case l27 => k_is); (case c27 => k_is); (case k27 => k_is); (case b0 => k_is); (case b1 => k_is); (case b2 => k_is); (case p0 => k_is); (case u0 => k_is); (case v0 => k_is); (case w0 => exact rfl); (case x0 => decide +kernel); (case y0 => decide +kernel); (case u1 => k_is); (case v1 => k_is); (case w1 => exact rfl); (case x1 => decide +kernel); (case y1 => decide +kernel); (case u2 => k_is); (case v2 => k_is); (case w2 => exact rfl); (case x2 => decide +kernel); (case y2 => decide +kernel); (case u3 => k_is); (case v3 => k_is); (case w3 => exact rfl); (case x3 => decide +kernel); (case y3 => decide +kernel); (case u4 => k_is); (case v4 => k_is); (case w4 => exact rfl); (case x4 => decide +kernel); (case y4 => decide +kernel); (case z0 => k_is); (case z1 => k_is); (case z2 => k_is); (case z3 => k_is); (case z4 => k_is); (case z5 => k_is); (case z6 => k_is); (case z7 => k_is); (case z8 => k_is); (case z9 => k_is)
