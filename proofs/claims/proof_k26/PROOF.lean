import PyProof.Rows.All
import HandS.ForMost
import HandS.StrMore
import HandS.Style
import HandS.Codes
import HandS.ReplaceList
import HandS.ReplaceLit
import HandS.WideBits
import HandS.ReplaceDef
import HandS.IntHex
import HandS.Dict
import KE.KDictDisplayH
import HandS.DictTup
import HandS.Conv
import HandS.IsInst
import PyProof.StrOps2
import KE.GoesMore
import PyProof.ReprRoads
import HandS.Defaults
import PyProof.Rows.StrOr
import HandS.Wide
import HandS.ForExc
import HandS.ExcInit
import HandS.ExcField
import HandS.CallSlots
import HandS.Lambda
import HandS.EndTab
import KE.KDflt
import HandS.EndOwn
import KE.KNestM
import HandS.ExcIs
import HandS.TupSets
import HandS.Property
import HandS.SlotsOwn
import HandS.OwnEq
import HandS.TupLe
import HandS.Iter
import HandS.MakeKwOnly
import HandS.Flow
import HandS.More
import HandS.TryOnly
import PySem.Challenge.RW_anchorpages_k26_whole_texts_of_folded_sc
set_option Elab.async false
set_option linter.all false
set_option maxRecDepth 100000
set_option maxHeartbeats 4000000
namespace DJ
open PySem PySem.Spec PyProof.Rows L2
/-! ### data, what stands for them -/
abbrev tx (l : List Nat) : Str := ⟨l.toArray⟩
inductive Dt where
  | non | bl (b : Bool) | int (i : Int) | str (x : List Nat) | lst (xs : List Dt) | tup (xs : List Dt) | raw (v : V) | ext (φ : Hp → V → Prop)
mutual
def Rp (K : PySem.W.Frag) (H : Hp) : Dt → V → Prop
  | .non, v => v = .non
  | .bl b, v => v = .bl b
  | .int i, v => v = .int i
  | .str x, v => v = .str (tx x)
  | .lst xs, v => ∃ a vs, v = .ref a ∧ SqL K H a vs ∧ RpL K H xs vs
  | .tup xs, v => ∃ a vs, v = .ref a ∧ SqT K H a vs ∧ RpL K H xs vs
  | .raw u, v => v = u
  | .ext φ, v => ∀ H', Same H H' → φ H' v
def RpL (K : PySem.W.Frag) (H : Hp) : List Dt → List V → Prop
  | [], vs => vs = []
  | d :: ds, vs => ∃ v r, vs = v :: r ∧ Rp K H d v ∧ RpL K H ds r
end
theorem same_t {K : PySem.W.Frag} {H H' : Hp} {a : Addr} {xs : List V} (e : Same H H') (h : SqT K H a xs) : SqT K H' a xs := by
  rcases h with (h | ⟨o, h⟩) | h
  · exact .inl (.inl (e _ _ h))
  · exact .inl (.inr ⟨o, e _ _ h⟩)
  · exact .inr h
mutual
theorem Rp.mono {K : PySem.W.Frag} {H H' : Hp} (e : Same H H') : ∀ (d : Dt) (v : V), Rp K H d v → Rp K H' d v
  | .non, _, h => h
  | .bl _, _, h => h
  | .int _, _, h => h
  | .str _, _, h => h
  | .raw _, _, h => h
  | .ext _, _, h => fun H' e' => h H' (e.trans e')
  | .lst xs, v, h => by
    obtain ⟨a, vs, e1, h1, h2⟩ := h
    exact ⟨a, vs, e1, e.seq h1, RpL.mono e xs vs h2⟩
  | .tup xs, v, h => by
    obtain ⟨a, vs, e1, h1, h2⟩ := h
    exact ⟨a, vs, e1, same_t e h1, RpL.mono e xs vs h2⟩
theorem RpL.mono {K : PySem.W.Frag} {H H' : Hp} (e : Same H H') : ∀ (ds : List Dt) (vs : List V), RpL K H ds vs → RpL K H' ds vs
  | [], _, h => h
  | d :: ds, vs, h => by
    obtain ⟨v, r, e1, h1, h2⟩ := h
    exact ⟨v, r, e1, Rp.mono e d v h1, RpL.mono e ds r h2⟩
end
theorem RpL.len {K : PySem.W.Frag} {H : Hp} : ∀ {ds : List Dt} {vs : List V}, RpL K H ds vs → vs.length = ds.length
  | [], _, h => by rw [show _ = [] from h]; rfl
  | d :: ds, _, ⟨v, r, e, _, h⟩ => by rw [e, List.length_cons, List.length_cons, RpL.len h]
theorem RpL.get {K : PySem.W.Frag} {H : Hp} : ∀ {ds : List Dt} {vs : List V} {i : Nat} {d : Dt}, RpL K H ds vs → ds[i]? = some d → ∃ v, vs[i]? = some v ∧ Rp K H d v
  | [], _, _, _, _, h => by simp at h
  | d :: ds, _, 0, x, ⟨v, r, e, h1, _⟩, h => by
    subst e
    simp at h
    subst h
    exact ⟨v, rfl, h1⟩
  | d :: ds, _, i + 1, x, ⟨v, r, e, _, h2⟩, h => by
    subst e
    obtain ⟨v', e', q⟩ := RpL.get (i := i) h2 (by simpa using h)
    exact ⟨v', by simpa using e', q⟩
theorem RpL.append {K : PySem.W.Frag} {H : Hp} : ∀ {ds es : List Dt} {vs us : List V}, RpL K H ds vs → RpL K H es us → RpL K H (ds ++ es) (vs ++ us)
  | [], _, _, _, h, q => by rw [show _ = [] from h]; exact q
  | d :: ds, _, _, _, ⟨v, r, e, h1, h2⟩, q => by
    subst e
    exact ⟨v, _, rfl, h1, RpL.append h2 q⟩
theorem RpL.one {K : PySem.W.Frag} {H : Hp} {d : Dt} {v : V} (h : Rp K H d v) : RpL K H [d] [v] := ⟨v, [], rfl, h, rfl⟩
theorem RpL.take {K : PySem.W.Frag} {H : Hp} : ∀ {ds : List Dt} {vs : List V} (n : Nat), RpL K H ds vs → RpL K H (ds.take n) (vs.take n)
  | _, _, 0, _ => rfl
  | [], _, n + 1, h => by rw [show _ = [] from h]; rfl
  | d :: ds, _, n + 1, ⟨v, r, e, h1, h2⟩ => by
    subst e
    exact ⟨v, _, rfl, h1, RpL.take n h2⟩
theorem RpL.drop {K : PySem.W.Frag} {H : Hp} : ∀ {ds : List Dt} {vs : List V} (n : Nat), RpL K H ds vs → RpL K H (ds.drop n) (vs.drop n)
  | _, _, 0, h => h
  | [], _, n + 1, h => by rw [show _ = [] from h]; rfl
  | d :: ds, _, n + 1, ⟨v, r, e, h1, h2⟩ => by
    subst e
    exact RpL.drop n h2
theorem RpL.set {K : PySem.W.Frag} {H : Hp} {x : Dt} {u : V} (hx : Rp K H x u) : ∀ {ds : List Dt} {vs : List V} (n : Nat), RpL K H ds vs → RpL K H (ds.set n x) (vs.set n u)
  | [], _, _, h => by rw [show _ = [] from h]; rfl
  | d :: ds, _, 0, ⟨v, r, e, h1, h2⟩ => by
    subst e
    exact ⟨u, _, rfl, hx, h2⟩
  | d :: ds, _, n + 1, ⟨v, r, e, h1, h2⟩ => by
    subst e
    exact ⟨v, _, rfl, h1, RpL.set hx n h2⟩
theorem RpL.reverse {K : PySem.W.Frag} {H : Hp} : ∀ {ds : List Dt} {vs : List V}, RpL K H ds vs → RpL K H ds.reverse vs.reverse
  | [], _, h => by rw [show _ = [] from h]; rfl
  | d :: ds, _, ⟨v, r, e, h1, h2⟩ => by
    subst e
    rw [List.reverse_cons, List.reverse_cons]
    exact RpL.append (RpL.reverse h2) (RpL.one h1)
theorem RpL.strs {K : PySem.W.Frag} {H : Hp} : ∀ {xs : List (List Nat)} {vs : List V}, RpL K H (xs.map Dt.str) vs → vs = (xs.map tx).map V.str
  | [], _, h => h
  | x :: xs, _, ⟨v, r, e, h1, h2⟩ => by
    subst e
    rw [show v = V.str (tx x) from h1, RpL.strs h2]
    rfl
theorem RpL.strs_of {K : PySem.W.Frag} {H : Hp} : ∀ (xs : List (List Nat)), RpL K H (xs.map Dt.str) ((xs.map tx).map V.str)
  | [] => rfl
  | x :: xs => ⟨_, _, rfl, rfl, RpL.strs_of xs⟩
theorem RpL.bls {K : PySem.W.Frag} {H : Hp} : ∀ {xs : List Bool} {vs : List V}, RpL K H (xs.map Dt.bl) vs → vs = xs.map V.bl
  | [], _, h => h
  | x :: xs, _, ⟨v, r, e, h1, h2⟩ => by
    subst e
    rw [show v = V.bl x from h1, RpL.bls h2]
    rfl
theorem RpL.ints {K : PySem.W.Frag} {H : Hp} : ∀ {xs : List Int} {vs : List V}, RpL K H (xs.map Dt.int) vs → vs = xs.map V.int
  | [], _, h => h
  | x :: xs, _, ⟨v, r, e, h1, h2⟩ => by
    subst e
    rw [show v = V.int x from h1, RpL.ints h2]
    rfl
/-! ### slots, owned objects, states -/
inductive Sl where
  | d (x : Dt) | o (k : Nat)
inductive MO where
  | gone | lst (xs : List Dt) | hob (o : HO) | box (φ : Hp → HO → Prop) | abx (φ : Hp → Addr → HO → Prop)
def MoR (K : PySem.W.Frag) (B H : Hp) (a : Addr) : MO → Prop
  | .gone => True
  | .lst xs => ∃ vs, H a = some (.lst vs) ∧ RpL K B xs vs
  | .hob o => H a = some o ∧ ∀ vs, o ≠ .tup vs
  | .box φ => ∃ o, H a = some o ∧ (∀ vs, o ≠ .tup vs) ∧ ∀ B', Same B B' → φ B' o
  | .abx φ => ∃ o, H a = some o ∧ (∀ vs, o ≠ .tup vs) ∧ ∀ B', Same B B' → φ B' a o
def SlR (K : PySem.W.Frag) (B : Hp) (as : List Addr) : Sl → V → Prop
  | .d x, v => Rp K B x v
  | .o k, v => ∃ a, as[k]? = some a ∧ v = .ref a
def SlL (K : PySem.W.Frag) (B : Hp) (as : List Addr) : List Sl → List V → Prop
  | [], vs => vs = []
  | s :: ss, vs => ∃ v r, vs = v :: r ∧ SlR K B as s v ∧ SlL K B as ss r
def Px (as as' : List Addr) : Prop := ∃ t, as' = as ++ t
theorem Px.refl (as : List Addr) : Px as as := ⟨[], (List.append_nil _).symm⟩
theorem Px.trans {a b c : List Addr} (h : Px a b) (q : Px b c) : Px a c := by
  obtain ⟨t, rfl⟩ := h
  obtain ⟨u, rfl⟩ := q
  exact ⟨t ++ u, List.append_assoc _ _ _⟩
theorem Px.get {as as' : List Addr} {k : Nat} {a : Addr} (h : Px as as') (e : as[k]? = some a) : as'[k]? = some a := by
  obtain ⟨t, rfl⟩ := h
  rw [List.getElem?_append_left (List.getElem?_eq_some_iff.mp e).1]
  exact e
/-- framed, and no tuple -/
def Kp (o : Option HO) : Prop := o ≠ none ∧ ∀ vs, o ≠ some (.tup vs)
def Gr (F B B' : Hp) : Prop := Same B B' ∧ ∀ a, Kp (F a) → B a = none → B' a = none
theorem Gr.refl (F B : Hp) : Gr F B B := ⟨Same.refl B, fun _ _ h => h⟩
theorem Gr.trans {F B C D : Hp} (h : Gr F B C) (q : Gr F C D) : Gr F B D := ⟨h.1.trans q.1, fun a e n => q.2 a e (h.2 a e n)⟩
theorem SlR.mono {K : PySem.W.Frag} {B B' : Hp} {as as' : List Addr} (e : Same B B') (p : Px as as') : ∀ {s : Sl} {v : V}, SlR K B as s v → SlR K B' as' s v
  | .d x, v, h => Rp.mono e x v h
  | .o k, v, ⟨a, h, q⟩ => ⟨a, p.get h, q⟩
theorem SlL.mono {K : PySem.W.Frag} {B B' : Hp} {as as' : List Addr} (e : Same B B') (p : Px as as') : ∀ {ss : List Sl} {vs : List V}, SlL K B as ss vs → SlL K B' as' ss vs
  | [], _, h => h
  | s :: ss, _, ⟨v, r, e1, h1, h2⟩ => ⟨v, r, e1, SlR.mono e p h1, SlL.mono e p h2⟩
theorem SlL.len {K : PySem.W.Frag} {B : Hp} {as : List Addr} : ∀ {ss : List Sl} {vs : List V}, SlL K B as ss vs → vs.length = ss.length
  | [], _, h => by rw [show _ = [] from h]; rfl
  | s :: ss, _, ⟨v, r, e, _, h⟩ => by rw [e, List.length_cons, List.length_cons, SlL.len h]
theorem SlL.data {K : PySem.W.Frag} {B : Hp} {as : List Addr} : ∀ {ds : List Dt} {vs : List V}, SlL K B as (ds.map Sl.d) vs → RpL K B ds vs
  | [], _, h => h
  | d :: ds, _, ⟨v, r, e, h1, h2⟩ => ⟨v, r, e, h1, SlL.data h2⟩
theorem SlL.of_data {K : PySem.W.Frag} {B : Hp} {as : List Addr} : ∀ {ds : List Dt} {vs : List V}, RpL K B ds vs → SlL K B as (ds.map Sl.d) vs
  | [], _, h => h
  | d :: ds, _, ⟨v, r, e, h1, h2⟩ => ⟨v, r, e, h1, SlL.of_data h2⟩
theorem MoR.mono {K : PySem.W.Frag} {B B' H H' : Hp} {a : Addr} (e : Same B B') (eh : H' a = H a) : ∀ {m : MO}, MoR K B H a m → MoR K B' H' a m
  | .gone, h => h
  | .lst xs, ⟨vs, h, q⟩ => ⟨vs, eh.trans h, RpL.mono e xs vs q⟩
  | .hob _, ⟨h, q⟩ => ⟨eh.trans h, q⟩
  | .box _, ⟨o, h, q, p⟩ => ⟨o, eh.trans h, q, fun B2 e2 => p B2 (e.trans e2)⟩
  | .abx _, ⟨o, h, q, p⟩ => ⟨o, eh.trans h, q, fun B2 e2 => p B2 (e.trans e2)⟩
theorem kp_lst {vs : List V} : Kp (some (.lst vs)) := ⟨fun z => (nomatch z), fun _ z => (nomatch z)⟩
theorem Kp.same {F H : Hp} {a : Addr} (k : Kp (F a)) (e : Same F H) : Kp (H a) := by
  cases h : F a with
  | none => exact absurd h k.1
  | some o =>
    rw [e a o h]
    exact ⟨fun z => (nomatch z), fun vs z => k.2 vs (h.trans z)⟩
theorem kp_mor {K : PySem.W.Frag} {B H : Hp} {a : Addr} : ∀ {m : MO}, m ≠ .gone → MoR K B H a m → Kp (H a)
  | .gone, n, _ => absurd rfl n
  | .lst xs, _, ⟨vs, h, _⟩ => by rw [h]; exact kp_lst
  | .hob o, _, ⟨h, q⟩ => by rw [h]; exact ⟨fun z => (nomatch z), fun vs z => q vs (Option.some.inj z)⟩
  | .box _, _, ⟨o, h, q, _⟩ => by rw [h]; exact ⟨fun z => (nomatch z), fun vs z => q vs (Option.some.inj z)⟩
  | .abx _, _, ⟨o, h, q, _⟩ => by rw [h]; exact ⟨fun z => (nomatch z), fun vs z => q vs (Option.some.inj z)⟩
theorem nodup_ix2 : ∀ {l : List Addr}, l.Nodup → ∀ {i j : Nat} (hi : i < l.length) (hj : j < l.length), l[i] = l[j] → i = j
  | [], _, i, _, hi, _, _ => absurd hi (by simp)
  | a :: l, n, 0, 0, _, _, _ => rfl
  | a :: l, n, 0, j + 1, _, hj, e => absurd (by rw [show a = l[j]'(Nat.lt_of_succ_lt_succ hj) from e]; exact List.getElem_mem _) (List.nodup_cons.mp n).1
  | a :: l, n, i + 1, 0, hi, _, e => absurd (by rw [show a = l[i]'(Nat.lt_of_succ_lt_succ hi) from e.symm]; exact List.getElem_mem _) (List.nodup_cons.mp n).1
  | a :: l, n, i + 1, j + 1, hi, hj, e => congrArg (· + 1) (nodup_ix2 (List.nodup_cons.mp n).2 (Nat.lt_of_succ_lt_succ hi) (Nat.lt_of_succ_lt_succ hj) e)
structure Ow (K : PySem.W.Frag) (F B : Hp) (as : List Addr) (M : List MO) (H : Hp) : Prop where
  fb : Same F H
  bb : Same B H
  len : as.length = M.length
  nd : as.Nodup
  al : ∀ a ∈ as, H a ≠ none
  fa : ∀ a ∈ as, F a = none
  own : ∀ (k : Nat) (a : Addr) (m : MO), as[k]? = some a → M[k]? = some m → m ≠ .gone → F a = none ∧ B a = none ∧ MoR K B H a m
def Slt (K : PySem.W.Frag) (B : Hp) (as : List Addr) (G : List (Option Sl)) (σ : L2.St) : Prop :=
  σ.length = G.length ∧ ∀ (i : Nat) (s : Sl), G[i]? = some (some s) → ∃ v, σ[i]? = some (some v) ∧ SlR K B as s v
theorem Slt.mono {K : PySem.W.Frag} {B B' : Hp} {as as' : List Addr} {G : List (Option Sl)} {σ : L2.St} (h : Slt K B as G σ) (e : Same B B') (p : Px as as') : Slt K B' as' G σ :=
  ⟨h.1, fun i s q => let ⟨v, e1, h1⟩ := h.2 i s q; ⟨v, e1, SlR.mono e p h1⟩⟩
theorem Slt.set {K : PySem.W.Frag} {B : Hp} {as : List Addr} {G : List (Option Sl)} {σ : L2.St} {s : Sl} {v : V} (h : Slt K B as G σ) (i : Nat) (r : SlR K B as s v) : Slt K B as (G.set i (some s)) (σ.set i (some v)) := by
  refine ⟨by rw [List.length_set, List.length_set]; exact h.1, fun j s' q => ?_⟩
  by_cases e : i = j
  · subst e
    have hl : i < G.length := by
      rcases Nat.lt_or_ge i G.length with z | z
      · exact z
      · rw [List.getElem?_eq_none (by rw [List.length_set]; exact z)] at q
        cases q
    rw [List.getElem?_set_self hl] at q
    cases q
    exact ⟨v, by rw [List.getElem?_set_self (by rw [h.1]; exact hl)], r⟩
  · rw [List.getElem?_set_ne e] at q
    obtain ⟨v', e1, h1⟩ := h.2 j s' q
    exact ⟨v', by rw [List.getElem?_set_ne e]; exact e1, h1⟩
section
variable {K : PySem.W.Frag} {F B H : Hp} {as : List Addr} {M : List MO} {p : Addr}
theorem Ow.fresh (h : Ow K F B as M H) (hp : H p = none) : F p = none ∧ B p = none ∧ p ∉ as := by
  refine ⟨h.fb.free hp, h.bb.free hp, fun z => h.al p z hp⟩
theorem Ow.gr (h : Ow K F B as M H) (hp : H p = none) (o : HO) : Gr F B (upd B p o) := by
  obtain ⟨h1, h2, _⟩ := h.fresh hp
  refine ⟨fun a u e => ?_, fun a f n => ?_⟩
  · rw [upd_ne (ne_of_none e h2)]; exact e
  · rw [upd_ne (fun e => f.1 (by rw [e]; exact h1))]; exact n
/-- a new thing that never changes -/
theorem Ow.new (h : Ow K F B as M H) (hp : H p = none) (o : HO) : Ow K F (upd B p o) as M (upd H p o) := by
  obtain ⟨h1, h2, h3⟩ := h.fresh hp
  have hg := h.gr hp o
  refine ⟨fun a u e => ?_, fun a u e => ?_, h.len, h.nd, fun a ha => ?_, h.fa, fun k a m e1 e2 hm => ?_⟩
  · rw [upd_ne (ne_of_none e h1)]; exact h.fb _ _ e
  · by_cases ea : a = p
    · subst ea; rw [upd_same] at e ⊢; exact e
    · rw [upd_ne ea] at e ⊢; exact h.bb _ _ e
  · rw [upd_ne (fun e : a = p => h3 (e ▸ ha))]; exact h.al a ha
  · have ha : a ∈ as := List.mem_of_getElem? e1
    have ne : a ≠ p := fun e : a = p => h3 (e ▸ ha)
    obtain ⟨q1, q2, q3⟩ := h.own k a m e1 e2 hm
    exact ⟨q1, by rw [upd_ne ne]; exact q2, MoR.mono hg.1 (upd_ne ne) q3⟩
/-- a new thing that is owned -/
theorem Ow.newO (h : Ow K F B as M H) (hp : H p = none) {o : HO} {m : MO} (hm : MoR K B (upd H p o) p m) : Ow K F B (as ++ [p]) (M ++ [m]) (upd H p o) := by
  obtain ⟨h1, h2, h3⟩ := h.fresh hp
  refine ⟨fun a u e => ?_, fun a u e => ?_, by rw [List.length_append, List.length_append, h.len]; rfl, ?_, fun a ha => ?_, fun a ha => ?_, fun k a m' e1 e2 hm' => ?_⟩
  · rw [upd_ne (ne_of_none e h1)]; exact h.fb _ _ e
  · rw [upd_ne (ne_of_none e h2)]; exact h.bb _ _ e
  · refine List.nodup_append.mpr ⟨h.nd, by simp, fun a ha b hb => ?_⟩
    obtain rfl : b = p := by simpa using hb
    exact fun e => h3 (e ▸ ha)
  · rcases List.mem_append.mp ha with ha | ha
    · rw [upd_ne (fun e : a = p => h3 (e ▸ ha))]; exact h.al a ha
    · obtain rfl : a = p := by simpa using ha
      rw [upd_same]; exact fun z => nomatch z
  · rcases List.mem_append.mp ha with ha | ha
    · exact h.fa a ha
    · obtain rfl : a = p := by simpa using ha
      exact h1
  · by_cases hk : k < as.length
    · rw [List.getElem?_append_left hk] at e1
      rw [List.getElem?_append_left (by rw [← h.len]; exact hk)] at e2
      have ne : a ≠ p := fun e : a = p => h3 (e ▸ List.mem_of_getElem? e1)
      obtain ⟨q1, q2, q3⟩ := h.own k a m' e1 e2 hm'
      exact ⟨q1, q2, MoR.mono (Same.refl B) (upd_ne ne) q3⟩
    · have hl : k = as.length := by
        have := (List.getElem?_eq_some_iff.mp e1).1
        rw [List.length_append, List.length_singleton] at this
        omega
      subst hl
      rw [List.getElem?_append_right (Nat.le_refl _), Nat.sub_self] at e1
      rw [h.len, List.getElem?_append_right (Nat.le_refl _), Nat.sub_self] at e2
      obtain rfl : p = a := Option.some.inj e1
      obtain rfl : m = m' := Option.some.inj e2
      exact ⟨h1, h2, hm⟩
/-- what is owned changes -/
theorem Ow.put (h : Ow K F B as M H) {k : Nat} {a : Addr} {m m' : MO} {o : HO} (e1 : as[k]? = some a) (e2 : M[k]? = some m) (hm : m ≠ .gone) (hm' : MoR K B (upd H a o) a m') : Ow K F B as (M.set k m') (upd H a o) := by
  obtain ⟨f, b, _⟩ := h.own k a m e1 e2 hm
  refine ⟨fun c u e => ?_, fun c u e => ?_, by rw [List.length_set]; exact h.len, h.nd, fun c hc => ?_, h.fa, fun j c n q1 q2 hn => ?_⟩
  · rw [upd_ne (ne_of_none e f)]; exact h.fb _ _ e
  · rw [upd_ne (ne_of_none e b)]; exact h.bb _ _ e
  · by_cases z : c = a
    · rw [z, upd_same]; exact fun z => nomatch z
    · rw [upd_ne z]; exact h.al c hc
  · by_cases z : k = j
    · subst z
      rw [e1] at q1
      obtain rfl : a = c := Option.some.inj q1
      rw [List.getElem?_set_self (List.getElem?_eq_some_iff.mp e2).1] at q2
      obtain rfl : m' = n := Option.some.inj q2
      exact ⟨f, b, hm'⟩
    · rw [List.getElem?_set_ne z] at q2
      have ne : c ≠ a := fun e => by
        subst e
        exact z (by
          have h1 := (List.getElem?_eq_some_iff.mp e1)
          have h2 := (List.getElem?_eq_some_iff.mp q1)
          obtain ⟨l1, g1⟩ := h1
          obtain ⟨l2, g2⟩ := h2
          exact nodup_ix2 h.nd l1 l2 (g1.trans g2.symm))
      obtain ⟨r1, r2, r3⟩ := h.own j c n q1 q2 hn
      exact ⟨r1, r2, MoR.mono (Same.refl B) (upd_ne ne) r3⟩
/-- what is owned becomes data -/
theorem Ow.freeze (h : Ow K F B as M H) {k : Nat} {a : Addr} {xs : List Dt} (e1 : as[k]? = some a) (e2 : M[k]? = some (.lst xs)) : ∃ B', Gr F B B' ∧ Ow K F B' as (M.set k .gone) H ∧ Rp K B' (.lst xs) (.ref a) := by
  obtain ⟨f, b, vs, hv, hr⟩ := h.own k a _ e1 e2 (fun z => nomatch z)
  have sm : Same B (upd B a (.lst vs)) := fun c u e => by rw [upd_ne (ne_of_none e b)]; exact e
  refine ⟨upd B a (.lst vs), ⟨sm, fun c z n => ?_⟩, ⟨h.fb, fun c u e => ?_, by rw [List.length_set]; exact h.len, h.nd, h.al, h.fa, fun j c n q1 q2 hn => ?_⟩, ⟨a, vs, rfl, .inl (.inl upd_same), RpL.mono sm xs vs hr⟩⟩
  · rw [upd_ne (fun e => z.1 (by rw [e]; exact f))]; exact n
  · by_cases z : c = a
    · subst z; rw [upd_same] at e; rw [← e]; exact hv
    · rw [upd_ne z] at e; exact h.bb _ _ e
  · by_cases z : k = j
    · subst z
      rw [List.getElem?_set_self (List.getElem?_eq_some_iff.mp e2).1] at q2
      exact absurd (Option.some.inj q2).symm hn
    · rw [List.getElem?_set_ne z] at q2
      have ne : c ≠ a := fun e => by
        subst e
        obtain ⟨l1, g1⟩ := List.getElem?_eq_some_iff.mp e1
        obtain ⟨l2, g2⟩ := List.getElem?_eq_some_iff.mp q1
        exact z (nodup_ix2 h.nd l1 l2 (g1.trans g2.symm))
      obtain ⟨r1, r2, r3⟩ := h.own j c n q1 q2 hn
      exact ⟨r1, by rw [upd_ne ne]; exact r2, MoR.mono sm rfl r3⟩
theorem Ow.freezeO (h : Ow K F B as M H) {k : Nat} {a : Addr} {o : HO} (e1 : as[k]? = some a) (e2 : M[k]? = some (.hob o)) : Gr F B (upd B a o) ∧ Ow K F (upd B a o) as (M.set k .gone) H := by
  obtain ⟨f, b, hv, _⟩ := h.own k a _ e1 e2 (fun z => nomatch z)
  have hv : H a = some o := hv
  have sm : Same B (upd B a o) := fun c u e => by rw [upd_ne (ne_of_none e b)]; exact e
  refine ⟨⟨sm, fun c z n => ?_⟩, ⟨h.fb, fun c u e => ?_, by rw [List.length_set]; exact h.len, h.nd, h.al, h.fa, fun j c n q1 q2 hn => ?_⟩⟩
  · rw [upd_ne (fun e => z.1 (by rw [e]; exact f))]; exact n
  · by_cases z : c = a
    · subst z; rw [upd_same] at e; rw [← e]; exact hv
    · rw [upd_ne z] at e; exact h.bb _ _ e
  · by_cases z : k = j
    · subst z
      rw [List.getElem?_set_self (List.getElem?_eq_some_iff.mp e2).1] at q2
      exact absurd (Option.some.inj q2).symm hn
    · rw [List.getElem?_set_ne z] at q2
      have ne : c ≠ a := fun e => by
        subst e
        obtain ⟨l1, g1⟩ := List.getElem?_eq_some_iff.mp e1
        obtain ⟨l2, g2⟩ := List.getElem?_eq_some_iff.mp q1
        exact z (nodup_ix2 h.nd l1 l2 (g1.trans g2.symm))
      obtain ⟨r1, r2, r3⟩ := h.own j c n q1 q2 hn
      exact ⟨r1, by rw [upd_ne ne]; exact r2, MoR.mono sm rfl r3⟩
/-- the last ones are let go -/
theorem Ow.drop {as : List Addr} {M X : List MO} (h : Ow K F B as (M ++ X) H) : Ow K F B (as.take M.length) M H := by
  refine ⟨h.fb, h.bb, ?_, h.nd.sublist (List.take_sublist _ _), fun a ha => h.al a (List.mem_of_mem_take ha), fun a ha => h.fa a (List.mem_of_mem_take ha), fun k a m e1 e2 hm => ?_⟩
  · have := h.len
    rw [List.length_append] at this
    rw [List.length_take]
    omega
  · have hk : k < M.length := (List.getElem?_eq_some_iff.mp e2).1
    rw [List.getElem?_take_of_lt hk] at e1
    exact h.own k a m e1 (by rw [List.getElem?_append_left hk]; exact e2) hm
end
/-! ### what evaluates to what -/
section
variable (K : PySem.W.Frag)
def EvE (te : TE) (G : List (Option Sl)) (M : List MO) (r : Sl) (M' : List MO) : Prop :=
  ∀ F B as σ H, Ow K F B as M H → Slt K B as G σ → ∀ Q : VK, (∀ v B' as' H', Gr F B B' → Px as as' → Ow K F B' as' M' H' → SlR K B' as' r v → Q v H') → te σ H Q
def EvT (tt : TT) (G : List (Option Sl)) (M : List MO) (b : Bool) (M' : List MO) : Prop :=
  ∀ F B as σ H, Ow K F B as M H → Slt K B as G σ → ∀ Q : Bool → Hp → Prop, (∀ B' as' H', Gr F B B' → Px as as' → Ow K F B' as' M' H' → Q b H') → tt σ H Q
def EvA (ta : TA) (G : List (Option Sl)) (M : List MO) (rs : List Sl) (M' : List MO) : Prop :=
  ∀ F B as σ H, Ow K F B as M H → Slt K B as G σ → ∀ Q : List V → Hp → Prop, (∀ vs B' as' H', Gr F B B' → Px as as' → Ow K F B' as' M' H' → SlL K B' as' rs vs → Q vs H') → ta σ H Q
def EvO (to : TO) (G : List (Option Sl)) (M : List MO) (o : Option Int) (M' : List MO) : Prop :=
  ∀ F B as σ H, Ow K F B as M H → Slt K B as G σ → ∀ Q : Option Int → Hp → Prop, (∀ B' as' H', Gr F B B' → Px as as' → Ow K F B' as' M' H' → Q o H') → to σ H Q
/-- an operation on data -/
def RO (r : R2) (x y z : Dt) : Prop := ∀ F B as M H v u Q, Ow K F B as M H → Rp K B x v → Rp K B y u → (∀ w B' H', Gr F B B' → Ow K F B' as M H' → Rp K B' z w → Q w H') → r v u H Q
def RU (r : V → Hp → VK → Prop) (x z : Dt) : Prop := ∀ F B as M H v Q, Ow K F B as M H → Rp K B x v → (∀ w B' H', Gr F B B' → Ow K F B' as M H' → Rp K B' z w → Q w H') → r v H Q
def RC (r : List V → Hp → VK → Prop) (xs : List Dt) (z : Dt) : Prop := ∀ F B as M H vs Q, Ow K F B as M H → RpL K B xs vs → (∀ w B' H', Gr F B B' → Ow K F B' as M H' → Rp K B' z w → Q w H') → r vs H Q
def RM (r : V → List V → Hp → VK → Prop) (x : Dt) (xs : List Dt) (z : Dt) : Prop := ∀ F B as M H v vs Q, Ow K F B as M H → Rp K B x v → RpL K B xs vs → (∀ w B' H', Gr F B B' → Ow K F B' as M H' → Rp K B' z w → Q w H') → r v vs H Q
end
section
variable {K : PySem.W.Frag} {G : List (Option Sl)} {M M1 M2 M3 : List MO} {s : Sl} {ta tb te : TE} {t u : TT} {x y z : Dt} {r : R2} {b : Bool}
theorem ev_var {i : Nat} (h : G[i]? = some (some s)) : EvE K (tVar i) G M s M := fun F B as σ H o sl Q q => by
  obtain ⟨v, e, r⟩ := sl.2 i s h
  exact ⟨v, e, q v B as H (Gr.refl F B) (Px.refl as) o r⟩
theorem ev_c {v : V} (h : ∀ B, Rp K B x v) : EvE K (tC v) G M (.d x) M := fun F B as σ H o sl Q q => q v B as H (Gr.refl F B) (Px.refl as) o (h B)
theorem ev_int {i : Int} : EvE K (tC (.int i)) G M (.d (.int i)) M := ev_c fun _ => rfl
theorem ev_bl {i : Bool} : EvE K (tC (.bl i)) G M (.d (.bl i)) M := ev_c fun _ => rfl
theorem ev_non : EvE K (tC .non) G M (.d .non) M := ev_c fun _ => rfl
theorem ev_str {c : Str} (l : List Nat) (h : c = tx l := by rfl) : EvE K (tC (.str c)) G M (.d (.str l)) M := ev_c fun _ => by rw [h]; rfl
theorem ev_is {s' : Sl} (h : EvE K te G M s M1) (e : s = s') : EvE K te G M s' M1 := e ▸ h
theorem ev_isD (h : EvE K te G M (.d x) M1) (e : x = y) : EvE K te G M (.d y) M1 := e ▸ h
theorem ev_bind {te : TE} (ha : EvE K ta G M s M1) (hk : ∀ F B as σ H v, Ow K F B as M1 H → Slt K B as G σ → SlR K B as s v → ∀ Q : VK, (∀ w B' as' H', Gr F B B' → Px as as' → Ow K F B' as' M2 H' → SlR K B' as' (.d z) w → Q w H') → te σ H Q → te σ H Q) : True := trivial
theorem ev_op (ha : EvE K ta G M (.d x) M1) (hb : EvE K tb G M1 (.d y) M2) (hr : RO K r x y z) : EvE K (tOp r ta tb) G M (.d z) M2 := fun F B as σ H o sl Q q =>
  ha F B as σ H o sl _ fun v B1 as1 H1 g1 p1 o1 r1 => hb F B1 as1 σ H1 o1 (sl.mono g1.1 p1) _ fun w B2 as2 H2 g2 p2 o2 r2 =>
    hr F B2 as2 M2 H2 v w Q o2 (Rp.mono g2.1 _ _ r1) r2 fun w' B3 H3 g3 o3 r3 => q w' B3 as2 H3 (g1.trans (g2.trans g3)) (p1.trans p2) o3 r3
theorem ev_un {r : V → Hp → VK → Prop} (ha : EvE K ta G M (.d x) M1) (hr : RU K r x z) : EvE K (tUn r ta) G M (.d z) M1 := fun F B as σ H o sl Q q =>
  ha F B as σ H o sl _ fun v B1 as1 H1 g1 p1 o1 r1 => hr F B1 as1 M1 H1 v Q o1 r1 fun w' B3 H3 g3 o3 r3 => q w' B3 as1 H3 (g1.trans g3) p1 o3 r3
theorem ea_nil : EvA K tNil G M [] M := fun F B as σ H o sl Q q => q [] B as H (Gr.refl F B) (Px.refl as) o rfl
theorem ea_cons {tr : TA} {rs : List Sl} (ha : EvE K ta G M s M1) (hr : EvA K tr G M1 rs M2) : EvA K (tCons ta tr) G M (s :: rs) M2 := fun F B as σ H o sl Q q =>
  ha F B as σ H o sl _ fun v B1 as1 H1 g1 p1 o1 r1 => hr F B1 as1 σ H1 o1 (sl.mono g1.1 p1) _ fun vs B2 as2 H2 g2 p2 o2 r2 =>
    q (v :: vs) B2 as2 H2 (g1.trans g2) (p1.trans p2) o2 ⟨v, vs, rfl, SlR.mono g2.1 p2 r1, r2⟩
theorem ev_cb {r : List V → Hp → VK → Prop} {tr : TA} {xs : List Dt} (ha : EvA K tr G M (xs.map Sl.d) M1) (hr : RC K r xs z) : EvE K (tCB r tr) G M (.d z) M1 := fun F B as σ H o sl Q q =>
  ha F B as σ H o sl _ fun vs B1 as1 H1 g1 p1 o1 r1 => hr F B1 as1 M1 H1 vs Q o1 (SlL.data r1) fun w' B3 H3 g3 o3 r3 => q w' B3 as1 H3 (g1.trans g3) p1 o3 r3
theorem et_test (h : EvE K te G M (.d (.bl b)) M1) : EvT K (tTest te) G M b M1 := fun F B as σ H o sl Q q => h F B as σ H o sl _ fun v B1 as1 H1 g1 p1 o1 r1 => ⟨b, r1, q B1 as1 H1 g1 p1 o1⟩
theorem et_B (h : EvE K te G M (.d (.bl b)) M1) : EvT K (tB te) G M b M1 := fun F B as σ H o sl Q q => h F B as σ H o sl _ fun v B1 as1 H1 g1 p1 o1 r1 => ⟨b, r1, q B1 as1 H1 g1 p1 o1⟩
theorem et_and {c : Bool} (h1 : EvT K t G M b M1) (h2 : b = true → EvT K u G M1 c M2) (h3 : b = false → M1 = M2) : EvT K (tAnd t u) G M (b && c) M2 := fun F B as σ H o sl Q q => h1 F B as σ H o sl _ fun B1 as1 H1 g1 p1 o1 => by
  cases b with
  | true => exact h2 rfl F B1 as1 σ H1 o1 (sl.mono g1.1 p1) _ fun B2 as2 H2 g2 p2 o2 => q B2 as2 H2 (g1.trans g2) (p1.trans p2) o2
  | false => exact q B1 as1 H1 g1 p1 (h3 rfl ▸ o1)
theorem et_or {c : Bool} (h1 : EvT K t G M b M1) (h2 : b = false → EvT K u G M1 c M2) (h3 : b = true → M1 = M2) : EvT K (tOr t u) G M (b || c) M2 := fun F B as σ H o sl Q q => h1 F B as σ H o sl _ fun B1 as1 H1 g1 p1 o1 => by
  cases b with
  | false => exact h2 rfl F B1 as1 σ H1 o1 (sl.mono g1.1 p1) _ fun B2 as2 H2 g2 p2 o2 => q B2 as2 H2 (g1.trans g2) (p1.trans p2) o2
  | true => exact q B1 as1 H1 g1 p1 (h3 rfl ▸ o1)
theorem et_not (h1 : EvT K t G M b M1) : EvT K (tNot t) G M (!b) M1 := fun F B as σ H o sl Q q => h1 F B as σ H o sl _ q
theorem et_is {c : Bool} (h : EvT K t G M b M1) (e : b = c) : EvT K t G M c M1 := e ▸ h
theorem ev_andV {a c : Bool} (h1 : EvE K ta G M (.d (.bl a)) M1) (h2 : a = true → EvE K tb G M1 (.d (.bl c)) M2) (h3 : a = false → M1 = M2) : EvE K (tAndV ta tb) G M (.d (.bl (a && c))) M2 := fun F B as σ H o sl Q q =>
  h1 F B as σ H o sl _ fun v B1 as1 H1 g1 p1 o1 r1 => ⟨a, r1, by
    cases a with
    | true => exact h2 rfl F B1 as1 σ H1 o1 (sl.mono g1.1 p1) _ fun w B2 as2 H2 g2 p2 o2 r2 => q w B2 as2 H2 (g1.trans g2) (p1.trans p2) o2 r2
    | false => exact q (.bl false) B1 as1 H1 g1 p1 (h3 rfl ▸ o1) rfl⟩
theorem ev_orV {a c : Bool} (h1 : EvE K ta G M (.d (.bl a)) M1) (h2 : a = false → EvE K tb G M1 (.d (.bl c)) M2) (h3 : a = true → M1 = M2) : EvE K (tOrV ta tb) G M (.d (.bl (a || c))) M2 := fun F B as σ H o sl Q q =>
  h1 F B as σ H o sl _ fun v B1 as1 H1 g1 p1 o1 r1 => ⟨a, r1, by
    cases a with
    | false => exact h2 rfl F B1 as1 σ H1 o1 (sl.mono g1.1 p1) _ fun w B2 as2 H2 g2 p2 o2 r2 => q w B2 as2 H2 (g1.trans g2) (p1.trans p2) o2 r2
    | true => exact q (.bl true) B1 as1 H1 g1 p1 (h3 rfl ▸ o1) rfl⟩
theorem ev_notV {a : Bool} (h1 : EvE K ta G M (.d (.bl a)) M1) : EvE K (tNotV ta) G M (.d (.bl (!a))) M1 := fun F B as σ H o sl Q q =>
  h1 F B as σ H o sl _ fun v B1 as1 H1 g1 p1 o1 r1 => ⟨a, r1, q _ B1 as1 H1 g1 p1 o1 rfl⟩
theorem ev_if (h : EvT K t G M b M1) (h1 : b = true → EvE K ta G M1 s M2) (h2 : b = false → EvE K tb G M1 s M2) : EvE K (tIf t ta tb) G M s M2 := fun F B as σ H o sl Q q => h F B as σ H o sl _ fun B1 as1 H1 g1 p1 o1 => by
  cases b with
  | true => exact h1 rfl F B1 as1 σ H1 o1 (sl.mono g1.1 p1) _ fun w B2 as2 H2 g2 p2 o2 r2 => q w B2 as2 H2 (g1.trans g2) (p1.trans p2) o2 r2
  | false => exact h2 rfl F B1 as1 σ H1 o1 (sl.mono g1.1 p1) _ fun w B2 as2 H2 g2 p2 o2 r2 => q w B2 as2 H2 (g1.trans g2) (p1.trans p2) o2 r2
/-- a written list, a written tuple: data -/
theorem ev_tup {tr : TA} {xs : List Dt} (ha : EvA K tr G M (xs.map Sl.d) M1) (hl : xs.length ≤ 1000) : EvE K (tTup tr) G M (.d (.tup xs)) M1 := fun F B as σ H o sl Q q =>
  ha F B as σ H o sl _ fun vs B1 as1 H1 g1 p1 o1 r1 => ⟨by rw [r1.len, List.length_map]; exact Nat.le_trans hl (by decide), fun p hp => by
    have g2 := o1.gr hp (.tup vs)
    exact q _ _ as1 _ (g1.trans g2) p1 (o1.new hp _) ⟨p, vs, rfl, .inl (.inl upd_same), RpL.mono g2.1 _ _ (SlL.data r1)⟩⟩
theorem ev_lst {tr : TA} {xs : List Dt} (ha : EvA K tr G M (xs.map Sl.d) M1) (hl : xs.length ≤ 1000) : EvE K (tLst tr) G M (.d (.lst xs)) M1 := fun F B as σ H o sl Q q =>
  ha F B as σ H o sl _ fun vs B1 as1 H1 g1 p1 o1 r1 => ⟨by rw [r1.len, List.length_map]; exact Nat.le_trans hl (by decide), fun p hp => by
    have g2 := o1.gr hp (.lst vs)
    exact q _ _ as1 _ (g1.trans g2) p1 (o1.new hp _) ⟨p, vs, rfl, .inl (.inl upd_same), RpL.mono g2.1 _ _ (SlL.data r1)⟩⟩
/-- a written list that will change -/
theorem ev_lstO {tr : TA} {xs : List Dt} (ha : EvA K tr G M (xs.map Sl.d) M1) (hl : xs.length ≤ 1000) : EvE K (tLst tr) G M (.o M1.length) (M1 ++ [.lst xs]) := fun F B as σ H o sl Q q =>
  ha F B as σ H o sl _ fun vs B1 as1 H1 g1 p1 o1 r1 => ⟨by rw [r1.len, List.length_map]; exact Nat.le_trans hl (by decide), fun p hp => by
    refine q _ B1 (as1 ++ [p]) _ g1 (p1.trans ⟨[p], rfl⟩) (o1.newO hp ⟨vs, upd_same, SlL.data r1⟩) ⟨p, ?_, rfl⟩
    rw [← o1.len, List.getElem?_append_right (Nat.le_refl _), Nat.sub_self]
    rfl⟩
end
end DJ
namespace DJ
open PySem PySem.Spec PyProof.Rows L2
/-! ### statements -/
inductive Out where
  | nx (G : List (Option Sl)) (M : List MO) | rt (r : Sl) (M : List MO) | bk (G : List (Option Sl)) (M : List MO) | ct (G : List (Option Sl)) (M : List MO)
def Gd (K : PySem.W.Frag) (F B : Hp) (as : List Addr) (D : Ends) : Out → Prop
  | .nx G M => ∀ B' as' σ' H', Gr F B B' → Px as as' → Ow K F B' as' M H' → Slt K B' as' G σ' → D.nx σ' H'
  | .rt r M => ∀ v B' as' H', Gr F B B' → Px as as' → Ow K F B' as' M H' → SlR K B' as' r v → D.rt v H'
  | .bk G M => ∀ B' as' σ' H', Gr F B B' → Px as as' → Ow K F B' as' M H' → Slt K B' as' G σ' → D.bk σ' H'
  | .ct G M => ∀ B' as' σ' H', Gr F B B' → Px as as' → Ow K F B' as' M H' → Slt K B' as' G σ' → D.ct σ' H'
def EvS (K : PySem.W.Frag) (ts : TS) (G : List (Option Sl)) (M : List MO) (o : Out) : Prop :=
  ∀ F B as σ H, Ow K F B as M H → Slt K B as G σ → ∀ D : Ends, Gd K F B as D o → ts D σ H
section
variable {K : PySem.W.Frag} {F B B1 : Hp} {as as1 : List Addr} {D : Ends} {o : Out} {G G1 G2 G' : List (Option Sl)} {M M1 M2 M' : List MO} {t u : TS} {te ta tb to ti : TE} {s : Sl} {b : Bool} {tt : TT} {x y z : Dt}
theorem Gd.later (g : Gr F B B1) (p : Px as as1) (h : Gd K F B as D o) : Gd K F B1 as1 D o := by
  cases o with
  | nx G M => exact fun B' as' σ' H' g' p' => h B' as' σ' H' (g.trans g') (p.trans p')
  | rt r M => exact fun v B' as' H' g' p' => h v B' as' H' (g.trans g') (p.trans p')
  | bk G M => exact fun B' as' σ' H' g' p' => h B' as' σ' H' (g.trans g') (p.trans p')
  | ct G M => exact fun B' as' σ' H' g' p' => h B' as' σ' H' (g.trans g') (p.trans p')
theorem es_seq (h1 : EvS K t G M (.nx G1 M1)) (h2 : EvS K u G1 M1 o) : EvS K (tSeq t u) G M o := fun F B as σ H ow sl D gd =>
  h1 F B as σ H ow sl { D with nx := u D } fun B' as' σ' H' g p o' s' => h2 F B' as' σ' H' o' s' D (gd.later g p)
theorem es_seqR {r : Sl} (h1 : EvS K t G M (.rt r M1)) : EvS K (tSeq t u) G M (.rt r M1) := fun F B as σ H ow sl D gd => h1 F B as σ H ow sl { D with nx := u D } gd
theorem es_seqB (h1 : EvS K t G M (.bk G1 M1)) : EvS K (tSeq t u) G M (.bk G1 M1) := fun F B as σ H ow sl D gd => h1 F B as σ H ow sl { D with nx := u D } gd
theorem es_seqC (h1 : EvS K t G M (.ct G1 M1)) : EvS K (tSeq t u) G M (.ct G1 M1) := fun F B as σ H ow sl D gd => h1 F B as σ H ow sl { D with nx := u D } gd
theorem es_next : EvS K tNext G M (.nx G M) := fun F B as σ H ow sl D gd => gd B as σ H (Gr.refl F B) (Px.refl as) ow sl
theorem es_brk : EvS K tBreak G M (.bk G M) := fun F B as σ H ow sl D gd => gd B as σ H (Gr.refl F B) (Px.refl as) ow sl
theorem es_cont : EvS K tCont G M (.ct G M) := fun F B as σ H ow sl D gd => gd B as σ H (Gr.refl F B) (Px.refl as) ow sl
theorem es_asg {i : Nat} (h : EvE K te G M s M1) : EvS K (tAsg te (gName i)) G M (.nx (G.set i (some s)) M1) := fun F B as σ H ow sl D gd =>
  h F B as σ H ow sl _ fun v B' as' H' g p o' r => gd B' as' _ H' g p o' ((sl.mono g.1 p).set i r)
theorem es_drop (h : EvE K te G M s M1) : EvS K (tDrop te) G M (.nx G M1) := fun F B as σ H ow sl D gd =>
  h F B as σ H ow sl _ fun v B' as' H' g p o' r => gd B' as' _ H' g p o' (sl.mono g.1 p)
theorem es_ret (h : EvE K te G M s M1) : EvS K (tRet te) G M (.rt s M1) := fun F B as σ H ow sl D gd =>
  h F B as σ H ow sl _ fun v B' as' H' g p o' r => gd v B' as' H' g p o' r
theorem es_retN : EvS K tRetN G M (.rt (.d .non) M) := fun F B as σ H ow sl D gd => gd .non B as H (Gr.refl F B) (Px.refl as) ow rfl
theorem es_if (h : EvT K tt G M b M1) (h1 : b = true → EvS K t G M1 o) (h2 : b = false → EvS K u G M1 o) : EvS K (tIfS tt t u) G M o := fun F B as σ H ow sl D gd =>
  h F B as σ H ow sl _ fun B' as' H' g p o' => by
    cases b with
    | true => exact h1 rfl F B' as' σ H' o' (sl.mono g.1 p) D (gd.later g p)
    | false => exact h2 rfl F B' as' σ H' o' (sl.mono g.1 p) D (gd.later g p)
/-- fewer slots known -/
def Lg (G G' : List (Option Sl)) : Prop := G.length = G'.length ∧ ∀ (i : Nat) (s : Sl), G'[i]? = some (some s) → G[i]? = some (some s)
theorem Lg.refl (G : List (Option Sl)) : Lg G G := ⟨rfl, fun _ _ h => h⟩
theorem Slt.weak {σ : L2.St} (h : Slt K B as G σ) (l : Lg G G') : Slt K B as G' σ := ⟨h.1.trans l.1, fun i s q => h.2 i s (l.2 i s q)⟩
theorem es_pre (l : Lg G G') (h : EvS K t G' M o) : EvS K t G M o := fun F B as σ H ow sl D gd => h F B as σ H ow (sl.weak l) D gd
theorem es_nxw (h : EvS K t G M (.nx G1 M1)) (l : Lg G1 G2) : EvS K t G M (.nx G2 M1) := fun F B as σ H ow sl D gd => h F B as σ H ow sl D fun B' as' σ' H' g p o' s' => gd B' as' σ' H' g p o' (s'.weak l)
theorem lg_cons {a c : Option Sl} (h : Lg G G') (e : c = a ∨ c = none) : Lg (a :: G) (c :: G') := by
  refine ⟨by rw [List.length_cons, List.length_cons, h.1], fun i s q => ?_⟩
  cases i with
  | zero =>
    rcases e with e | e
    · rw [e] at q; exact q
    · rw [e] at q; cases q
  | succ i => exact h.2 i s q
theorem lg_nil : Lg [] [] := Lg.refl _
/-- a changing list becomes data -/
def frz (k : Nat) (xs : List Dt) : Option Sl → Option Sl
  | some (.o j) => if j = k then some (.d (.lst xs)) else some (.o j)
  | s => s
theorem es_freeze {k : Nat} {xs : List Dt} (hm : M[k]? = some (.lst xs)) (h : EvS K t (G.map (frz k xs)) (M.set k .gone) o) : EvS K t G M o := fun F B as σ H ow sl D gd => by
  have hk : k < as.length := by rw [ow.len]; exact (List.getElem?_eq_some_iff.mp hm).1
  obtain ⟨B', g, ow', rp⟩ := ow.freeze (List.getElem?_eq_getElem hk) hm
  refine h F B' as σ H ow' ⟨by rw [List.length_map]; exact sl.1, fun i s q => ?_⟩ D (gd.later g (Px.refl as))
  rw [List.getElem?_map] at q
  cases e : G[i]? with
  | none => rw [e] at q; cases q
  | some c =>
    rw [e] at q
    have q : frz k xs c = some s := Option.some.inj q
    cases c with
    | none => cases q
    | some c =>
      obtain ⟨v, hv, hr⟩ := sl.2 i c e
      refine ⟨v, hv, ?_⟩
      cases c with
      | d x =>
        cases q
        exact Rp.mono g.1 x v hr
      | o j =>
        unfold frz at q
        by_cases hj : j = k
        · simp only [if_pos hj] at q
          cases q
          subst hj
          obtain ⟨a, ha, rfl⟩ := hr
          rw [List.getElem?_eq_getElem hk] at ha
          cases ha
          exact rp
        · simp only [if_neg hj] at q
          cases q
          exact SlR.mono g.1 (Px.refl as) (s := .o j) hr
/-- what is returned is data by then -/
theorem ev_freeze {k : Nat} {xs : List Dt} (h : EvE K te G M (.o k) M1) (hm : M1[k]? = some (.lst xs)) : EvE K te G M (.d (.lst xs)) (M1.set k .gone) := fun F B as σ H ow sl Q q =>
  h F B as σ H ow sl _ fun v B1 as1 H1 g p o1 r => by
    obtain ⟨a, ha, rfl⟩ := r
    obtain ⟨B', g', ow', rp⟩ := o1.freeze ha hm
    exact q _ B' as1 H1 (g.trans g') p ow' rp
/-! ### targets -/
def EvG (K : PySem.W.Frag) (g : TG) (G : List (Option Sl)) (x : Sl) (G' : List (Option Sl)) : Prop :=
  ∀ F B as M σ H v, Ow K F B as M H → Slt K B as G σ → SlR K B as x v → ∀ Q : L2.St → Hp → Prop, (∀ B' as' σ' H', Gr F B B' → Px as as' → Ow K F B' as' M H' → Slt K B' as' G' σ' → Q σ' H') → g v σ H Q
theorem eg_name {i : Nat} : EvG K (gName i) G s (G.set i (some s)) := fun F B as M σ H v ow sl r Q q => q B as _ H (Gr.refl F B) (Px.refl as) ow (sl.set i r)
def EvGs (K : PySem.W.Frag) (g : TGs) (G : List (Option Sl)) (xs : List Dt) (G' : List (Option Sl)) : Prop :=
  ∀ F B as M σ H vs, Ow K F B as M H → Slt K B as G σ → RpL K B xs vs → ∀ Q : L2.St → Hp → Prop, (∀ B' as' σ' H', Gr F B B' → Px as as' → Ow K F B' as' M H' → Slt K B' as' G' σ' → Q σ' H') → g vs σ H Q
theorem egs_nil : EvGs K gNil G [] G := fun F B as M σ H vs ow sl r Q q => ⟨r, q B as _ H (Gr.refl F B) (Px.refl as) ow sl⟩
theorem egs_cons {t : TG} {u : TGs} {xs : List Dt} (h1 : EvG K t G (.d x) G1) (h2 : EvGs K u G1 xs G2) : EvGs K (gCons t u) G (x :: xs) G2 := fun F B as M σ H vs ow sl r Q q => by
  obtain ⟨v, r', e, r1, r2⟩ := r
  exact ⟨v, r', e, h1 F B as M σ H v ow sl r1 _ fun B1 as1 σ1 H1 g1 p1 o1 s1 => h2 F B1 as1 M σ1 H1 r' o1 s1 (RpL.mono g1.1 _ _ r2) _ fun B2 as2 σ2 H2 g2 p2 o2 s2 => q B2 as2 σ2 H2 (g1.trans g2) (p1.trans p2) o2 s2⟩
theorem eg_tup {t : TGs} {xs : List Dt} {n : Nat} (h : EvGs K t G xs G1) (hn : xs.length = n) : EvG K (gTup K n t) G (.d (.tup xs)) G1 := fun F B as M σ H v ow sl r Q q => by
  obtain ⟨a, vs, e, h1, h2⟩ := r
  exact ⟨a, vs, e, same_t ow.bb h1, h2.len.trans hn, h F B as M σ H vs ow sl h2 Q q⟩
theorem es_asgG {g : TG} (h : EvE K te G M s M1) (hg : EvG K g G s G1) : EvS K (tAsg te g) G M (.nx G1 M1) := fun F B as σ H ow sl D gd =>
  h F B as σ H ow sl _ fun v B' as' H' g p o' r => hg F B' as' M1 σ H' v o' (sl.mono g.1 p) r _ fun B2 as2 σ2 H2 g2 p2 o2 s2 => gd B2 as2 σ2 H2 (g.trans g2) (p.trans p2) o2 s2
theorem es_par {i j : Nat} {t : TA} {x y : Sl} (h : EvA K t G M [x, y] M1) : EvS K (tPar i j t) G M (.nx ((G.set i (some x)).set j (some y)) M1) := fun F B as σ H ow sl D gd =>
  h F B as σ H ow sl _ fun vs B' as' H' g p o' r => by
    obtain ⟨v, r1, e1, h1, w, r2, e2, h2, e3⟩ := r
    have e3 : r2 = [] := e3
    subst e3; subst e2; subst e1
    exact ⟨v, w, rfl, gd B' as' _ H' g p o' (((sl.mono g.1 p).set i h1).set j h2)⟩
/-! ### what is walked -/
def Yl (K : PySem.W.Frag) (B0 : Hp) (J : It) (xs : List Dt) : Prop :=
  ∀ F B as M H (i : Nat), Same B0 B → Ow K F B as M H → (∀ x, xs[i]? = some x → J.go i H ∧ ∀ v H', J.yld i H v H' → ∃ B', Gr F B B' ∧ Ow K F B' as M H' ∧ Rp K B' x v) ∧ (xs.length ≤ i → J.stop i H)
def EvI (K : PySem.W.Frag) (wi : TI) (G : List (Option Sl)) (M : List MO) (xs : List Dt) (M' : List MO) : Prop :=
  ∀ F B as σ H, Ow K F B as M H → Slt K B as G σ → ∀ R : It → Hp → Prop, (∀ J B' as' H', Gr F B B' → Px as as' → Ow K F B' as' M' H' → Yl K B' J xs → R J H') → wi σ H R
theorem yl_list {a : Addr} {vs : List V} {xs : List Dt} (h : SqL K B a vs) (r : RpL K B xs vs) : Yl K B (Itl K a) xs := fun F B' as M H i e ow => by
  have h1 : SqL K H a vs := ow.bb.seq (e.seq h)
  refine ⟨fun x hx => ?_, fun hi => ⟨vs, h1, by rw [r.len]; exact hi⟩⟩
  obtain ⟨v, hv, hr⟩ := r.get hx
  refine ⟨⟨vs, v, h1, hv⟩, fun w H' y => ?_⟩
  obtain ⟨rfl, y⟩ := y
  have e2 : v = w := Option.some.inj (hv.symm.trans (y vs h1))
  exact ⟨B', Gr.refl F B', ow, e2 ▸ Rp.mono e _ _ hr⟩
theorem yl_tup {a : Addr} {vs : List V} {xs : List Dt} (h : SqT K B a vs) (r : RpL K B xs vs) : Yl K B (Itt K a) xs := fun F B' as M H i e ow => by
  have h1 : SqT K H a vs := same_t ow.bb (same_t e h)
  refine ⟨fun x hx => ?_, fun hi => ⟨vs, h1, by rw [r.len]; exact hi⟩⟩
  obtain ⟨v, hv, hr⟩ := r.get hx
  refine ⟨⟨vs, v, h1, hv⟩, fun w H' y => ?_⟩
  obtain ⟨rfl, y⟩ := y
  have e2 : v = w := Option.some.inj (hv.symm.trans (y vs h1))
  exact ⟨B', Gr.refl F B', ow, e2 ▸ Rp.mono e _ _ hr⟩
theorem yl_str {l : List Nat} : Yl K B (Its (tx l)) (l.map fun c => .str [c]) := fun F B' as M H i e ow => by
  refine ⟨fun x hx => ?_, fun hi => ?_⟩
  · rw [List.getElem?_map] at hx
    cases hc : l[i]? with
    | none => rw [hc] at hx; cases hx
    | some c =>
      rw [hc] at hx
      have hx : Dt.str [c] = x := Option.some.inj hx
      subst hx
      refine ⟨?_, fun v H' y => ?_⟩
      · show i < l.toArray.size
        rw [List.size_toArray]
        exact (List.getElem?_eq_some_iff.mp hc).1
      · obtain ⟨rfl, c', h1, rfl⟩ := y
        refine ⟨B', Gr.refl F B', ow, ?_⟩
        have h2 : l[i]? = some c' := by
          rw [show (tx l).cps = l.toArray from rfl, List.getElem?_toArray] at h1
          exact h1
        rw [hc] at h2
        cases h2
        rfl
  · show l.toArray.size ≤ i
    rw [List.size_toArray]
    rw [List.length_map] at hi
    exact hi
theorem yl_rng {lo : Int} {n : Nat} : Yl K B (Itr lo n) ((List.range n).map fun (i : Nat) => .int (lo + i)) := fun F B' as M H i e ow => by
  refine ⟨fun x hx => ?_, fun hi => ?_⟩
  · rw [List.getElem?_map] at hx
    by_cases hi : i < n
    · rw [List.getElem?_range hi] at hx
      have hx : Dt.int (lo + i) = x := Option.some.inj hx
      subst hx
      refine ⟨hi, fun v H' y => ?_⟩
      obtain ⟨rfl, rfl⟩ := y
      exact ⟨B', Gr.refl F B', ow, rfl⟩
    · rw [List.getElem?_eq_none (by rw [List.length_range]; omega)] at hx
      cases hx
  · rw [List.length_map, List.length_range] at hi
    exact hi
/-- the pairs of a walk with numbers -/
def enumD (n : Nat) : List Dt → List Dt
  | [] => []
  | x :: xs => .tup [.int (n : Nat), x] :: enumD (n + 1) xs
theorem enumD_get : ∀ (xs : List Dt) (n i : Nat), (enumD n xs)[i]? = (xs[i]?).map fun x => .tup [.int ((n + i : Nat) : Nat), x]
  | [], n, i => by simp [enumD]
  | x :: xs, n, 0 => by simp [enumD]
  | x :: xs, n, i + 1 => by
    rw [enumD, List.getElem?_cons_succ, List.getElem?_cons_succ, enumD_get xs (n + 1) i, Nat.add_right_comm]
    rfl
theorem enumD_len : ∀ (xs : List Dt) (n : Nat), (enumD n xs).length = xs.length
  | [], _ => rfl
  | x :: xs, n => by rw [enumD, List.length_cons, List.length_cons, enumD_len]
theorem yl_enum {a : Addr} {vs : List V} {xs : List Dt} (h : SqL K B a vs) (r : RpL K B xs vs) : Yl K B (Ite K a) (enumD 0 xs) := fun F B' as M H i e ow => by
  have h1 : SqL K H a vs := ow.bb.seq (e.seq h)
  refine ⟨fun x hx => ?_, fun hi => ⟨vs, h1, by rw [r.len]; rw [enumD_len] at hi; exact hi⟩⟩
  rw [enumD_get] at hx
  cases hy : xs[i]? with
  | none => rw [hy] at hx; cases hx
  | some y =>
    rw [hy] at hx
    have hx : Dt.tup [.int ((0 + i : Nat) : Nat), y] = x := Option.some.inj hx
    subst hx
    obtain ⟨v, hv, hr⟩ := r.get hy
    refine ⟨⟨vs, v, h1, hv⟩, fun w H' yl => ?_⟩
    obtain ⟨T, u, rfl, hT, rfl, hu⟩ := yl
    have e2 : v = u := Option.some.inj (hv.symm.trans (hu vs h1))
    subst e2
    have hg := ow.gr hT (.tup [.int (i : Nat), v])
    refine ⟨_, hg, ow.new hT _, T, _, rfl, .inl (.inl upd_same), _, _, rfl, ?_, _, _, rfl, Rp.mono (e.trans hg.1) _ _ hr, rfl⟩
    rw [Nat.zero_add]
    rfl
theorem ei_list {xs : List Dt} (h : EvE K te G M (.d (.lst xs)) M1) : EvI K (iList K te) G M xs M1 := fun F B as σ H ow sl R q =>
  h F B as σ H ow sl _ fun v B' as' H' g p o' r => by
    obtain ⟨a, vs, e, h1, h2⟩ := r
    exact ⟨a, e, ⟨vs, o'.bb.seq h1⟩, q _ B' as' H' g p o' (yl_list h1 h2)⟩
theorem ei_tup {xs : List Dt} (h : EvE K te G M (.d (.tup xs)) M1) : EvI K (iTup K te) G M xs M1 := fun F B as σ H ow sl R q =>
  h F B as σ H ow sl _ fun v B' as' H' g p o' r => by
    obtain ⟨a, vs, e, h1, h2⟩ := r
    exact ⟨a, e, ⟨vs, same_t o'.bb h1⟩, q _ B' as' H' g p o' (yl_tup h1 h2)⟩
theorem ei_str {l : List Nat} (h : EvE K te G M (.d (.str l)) M1) : EvI K (iStr te) G M (l.map fun c => .str [c]) M1 := fun F B as σ H ow sl R q =>
  h F B as σ H ow sl _ fun v B' as' H' g p o' r => ⟨tx l, r, q _ B' as' H' g p o' yl_str⟩
theorem ei_rng1 {ta : TA} {n : Int} (h : EvA K ta G M [.d (.int n)] M1) (hn : -(2 ^ 62) ≤ n ∧ n < 2 ^ 62) : EvI K (iRng1 ta) G M ((List.range n.toNat).map fun (i : Nat) => .int (0 + i)) M1 := fun F B as σ H ow sl R q =>
  h F B as σ H ow sl _ fun vs B' as' H' g p o' r => by
    obtain ⟨v, r1, e1, h1, e2⟩ := r
    have e2 : r1 = [] := e2
    subst e2; subst e1
    have h1 : v = V.int n := h1
    subst h1
    exact ⟨n, rfl, hn.1, hn.2, q _ B' as' H' g p o' yl_rng⟩
theorem ei_rng2 {ta : TA} {m n : Int} (h : EvA K ta G M [.d (.int m), .d (.int n)] M1) (hn : (-(2 ^ 62) ≤ m ∧ m < 2 ^ 62) ∧ -(2 ^ 62) ≤ n ∧ n < 2 ^ 62) : EvI K (iRng2 ta) G M ((List.range (n - m).toNat).map fun (i : Nat) => .int (m + i)) M1 := fun F B as σ H ow sl R q =>
  h F B as σ H ow sl _ fun vs B' as' H' g p o' r => by
    obtain ⟨v, r1, e1, h1, w, r2, e2, h2, e3⟩ := r
    have e3 : r2 = [] := e3
    subst e3; subst e2; subst e1
    have h1 : v = V.int m := h1
    have h2 : w = V.int n := h2
    subst h1; subst h2
    exact ⟨m, n, rfl, ⟨hn.1.1, hn.1.2, hn.2.1, hn.2.2⟩, q _ B' as' H' g p o' yl_rng⟩
theorem ei_enum {ta : TA} {xs : List Dt} (h : EvA K ta G M [.d (.lst xs)] M1) : EvI K (iEnum K ta) G M (enumD 0 xs) M1 := fun F B as σ H ow sl R q =>
  h F B as σ H ow sl _ fun vs B' as' H' g p o' r => by
    obtain ⟨v, r1, e1, h1, e2⟩ := r
    have e2 : r1 = [] := e2
    subst e2; subst e1
    obtain ⟨a, us, e, q1, q2⟩ := h1
    subst e
    exact ⟨a, us, rfl, o'.bb.seq q1, q _ B' as' H' g p o' (yl_enum q1 q2)⟩
/-! ### for -/
def loopF {α β : Type} (step : α → β → α ⊕ Out) : List β → α → α ⊕ Out
  | [], a => .inl a
  | x :: xs, a => match step a x with
    | .inl a' => loopF step xs a'
    | .inr o => .inr o
theorem loopF_take {α β : Type} (step : α → β → α ⊕ Out) : ∀ (xs : List β) (i : Nat) (a0 a : α) (x : β), xs[i]? = some x → loopF step (xs.take i) a0 = .inl a →
    loopF step (xs.take (i + 1)) a0 = step a x ∧ (∀ o, step a x = .inr o → loopF step xs a0 = .inr o)
  | [], i, a0, a, x, h, _ => by simp at h
  | y :: ys, 0, a0, a, x, h, h2 => by
    have e1 : y = x := by simpa using h
    have e2 : a0 = a := by simpa [loopF] using h2
    subst e1; subst e2
    refine ⟨?_, fun o ho => ?_⟩
    · simp only [List.take_succ_cons, List.take_zero, loopF]
      cases step a0 y <;> rfl
    · simp only [loopF, ho]
  | y :: ys, i + 1, a0, a, x, h, h2 => by
    simp only [List.take_succ_cons, loopF] at h2 ⊢
    cases e : step a0 y with
    | inr o => rw [e] at h2; cases h2
    | inl a1 =>
      rw [e] at h2
      exact loopF_take step ys i a1 a x (by simpa using h) h2
def outF {α : Type} (enc : α → List (Option Sl)) (encM : α → List MO) : α ⊕ Out → Out
  | .inl a => .nx (enc a) (encM a)
  | .inr o => o
/-- a turn's end: on, or out -/
def Turns (K : PySem.W.Frag) {α : Type} (enc : α → List (Option Sl)) (encM : α → List MO) (tb : TS) (G : List (Option Sl)) (M : List MO) : α ⊕ Out → Prop
  | .inl a => EvS K tb G M (.nx (enc a) (encM a)) ∨ EvS K tb G M (.ct (enc a) (encM a))
  | .inr (.nx G' M') => EvS K tb G M (.bk G' M')
  | .inr (.rt r M') => EvS K tb G M (.rt r M')
  | .inr (.bk _ _) => False
  | .inr (.ct _ _) => False
theorem es_for {α β : Type} {wi : TI} {g : TG} {tb : TS} (xs : List β) (en : β → Dt) (enc : α → List (Option Sl)) (encM : α → List MO) (step : α → β → α ⊕ Out) (a0 : α)
    (hI : EvI K wi G M (xs.map en) (encM a0)) (h0 : Lg G (enc a0)) (turn : ∀ a x, x ∈ xs → ∃ G1, EvG K g (enc a) (.d (en x)) G1 ∧ Turns K enc encM tb G1 (encM a) (step a x)) :
    EvS K (tFor wi g tb) G M (outF enc encM (loopF step xs a0)) := fun F B as σ H ow sl D gd => by
  refine hI F B as σ H ow sl _ fun J B1 as1 H1 g1 p1 o1 yl => ?_
  refine ⟨fun i m σ' H' => ∃ B' as' a, m = xs.length - i ∧ i ≤ xs.length ∧ loopF step (xs.take i) a0 = .inl a ∧ Gr F B1 B' ∧ Px as1 as' ∧ Ow K F B' as' (encM a) H' ∧ Slt K B' as' (enc a) σ', ⟨xs.length, B1, as1, a0, by simp, Nat.zero_le _, by simp [loopF], Gr.refl F B1, Px.refl as1, o1, (sl.mono g1.1 p1).weak h0⟩, fun i m σ' H' w => ?_⟩
  obtain ⟨B', as', a, rfl, hi, hl, g', p', o', s'⟩ := w
  obtain ⟨y1, y2⟩ := yl F B' as' (encM a) H' i g'.1 o'
  by_cases hlt : i < xs.length
  · have hx : xs[i]? = some xs[i] := List.getElem?_eq_getElem hlt
    obtain ⟨go, yld⟩ := y1 (en xs[i]) (by rw [List.getElem?_map, hx] <;> rfl)
    obtain ⟨l1, l2⟩ := loopF_take step xs i a0 a _ hx hl
    refine .inr ⟨go, fun σ2 H2 => ∃ B' as' a, i + 1 ≤ xs.length ∧ loopF step (xs.take (i + 1)) a0 = .inl a ∧ Gr F B1 B' ∧ Px as1 as' ∧ Ow K F B' as' (encM a) H2 ∧ Slt K B' as' (enc a) σ2, fun σ2 H2 n2 => ?_, fun v H2 yv => ?_⟩
    · obtain ⟨B2, as2, a2, q1, q2, q3, q4, q5, q6⟩ := n2
      exact ⟨xs.length - (i + 1), by omega, B2, as2, a2, rfl, q1, q2, q3, q4, q5, q6⟩
    · obtain ⟨B2, g2, o2, r2⟩ := yld v H2 yv
      obtain ⟨G1, hg, ht⟩ := turn a xs[i] (List.getElem_mem hlt)
      refine hg F B2 as' (encM a) σ' H2 v o2 (s'.mono g2.1 (Px.refl as')) r2 _ fun B3 as3 σ3 H3 g3 p3 o3 s3 => ?_
      have gg : Gr F B1 B3 := g'.trans (g2.trans g3)
      have pp : Px as1 as3 := p'.trans p3
      cases e : step a xs[i] with
      | inl a' =>
        rw [e] at ht l1
        rcases ht with ht | ht
        · exact ht F B3 as3 σ3 H3 o3 s3 _ fun B4 as4 σ4 H4 g4 p4 o4 s4 => ⟨B4, as4, a', hlt, l1, gg.trans g4, pp.trans p4, o4, s4⟩
        · exact ht F B3 as3 σ3 H3 o3 s3 _ fun B4 as4 σ4 H4 g4 p4 o4 s4 => ⟨B4, as4, a', hlt, l1, gg.trans g4, pp.trans p4, o4, s4⟩
      | inr o =>
        rw [e] at ht
        rw [l2 o e] at gd
        cases o with
        | nx G' M' => exact ht F B3 as3 σ3 H3 o3 s3 _ fun B4 as4 σ4 H4 g4 p4 o4 s4 => gd B4 as4 σ4 H4 (g1.trans (gg.trans g4)) (p1.trans (pp.trans p4)) o4 s4
        | rt r M' => exact ht F B3 as3 σ3 H3 o3 s3 _ fun v B4 as4 H4 g4 p4 o4 s4 => gd v B4 as4 H4 (g1.trans (gg.trans g4)) (p1.trans (pp.trans p4)) o4 s4
        | bk _ _ => exact ht.elim
        | ct _ _ => exact ht.elim
  · have e : i = xs.length := by omega
    subst e
    rw [List.take_length] at hl
    rw [hl] at gd
    exact .inl ⟨y2 (by rw [List.length_map]; exact Nat.le_refl _), gd B' as' σ' H' (g1.trans g') (p1.trans p') o' s'⟩
/-! ### while -/
theorem es_while {α : Type} {tb : TS} (enc : α → List (Option Sl)) (encM : α → List MO) (P : α → Prop) (c : α → Bool) (f : α → α ⊕ Out) (μ : α → Nat) (w : α → α ⊕ Out) (a0 : α) (hp : P a0)
    (hw : ∀ a, P a → w a = if c a = true then (match f a with | .inl a' => w a' | .inr o => .inr o) else .inl a)
    (h0 : Lg G (enc a0)) (hM : M = encM a0) (test : ∀ a, P a → EvT K tt (enc a) (encM a) (c a) (encM a))
    (turn : ∀ a, P a → c a = true → Turns K enc encM tb (enc a) (encM a) (f a) ∧ ∀ a', f a = .inl a' → P a' ∧ μ a' < μ a) :
    EvS K (tWhile tt tb) G M (outF enc encM (w a0)) := fun F B as σ H ow sl D gd => by
  subst hM
  refine ⟨fun m σ' H' => ∃ B' as' a, m = μ a ∧ P a ∧ w a = w a0 ∧ Gr F B B' ∧ Px as as' ∧ Ow K F B' as' (encM a) H' ∧ Slt K B' as' (enc a) σ', ⟨μ a0, B, as, a0, rfl, hp, rfl, Gr.refl F B, Px.refl as, ow, sl.weak h0⟩, fun m σ' H' q => ?_⟩
  obtain ⟨B1, as1, a, rfl, pa, wa, g1, p1, o1, s1⟩ := q
  refine test a pa F B1 as1 σ' H' o1 s1 _ fun B2 as2 H2 g2 p2 o2 => ?_
  have hwa := hw a pa
  cases ec : c a with
  | false =>
    rw [ec] at hwa
    rw [if_neg Bool.false_ne_true] at hwa ⊢
    rw [← wa, hwa] at gd
    exact gd B2 as2 σ' H2 (g1.trans g2) (p1.trans p2) o2 (s1.mono g2.1 p2)
  | true =>
    rw [ec] at hwa
    rw [if_pos rfl] at hwa ⊢
    obtain ⟨ht, hd⟩ := turn a pa ec
    refine ⟨fun σ3 H3 => ∃ B' as' a', f a = .inl a' ∧ Gr F B B' ∧ Px as as' ∧ Ow K F B' as' (encM a') H3 ∧ Slt K B' as' (enc a') σ3, fun σ3 H3 n3 => ?_, ?_⟩
    · obtain ⟨B3, as3, a', e, q1, q2, q3, q4⟩ := n3
      obtain ⟨pa', lt⟩ := hd a' e
      rw [e] at hwa
      exact ⟨μ a', lt, B3, as3, a', rfl, pa', hwa.symm.trans wa, q1, q2, q3, q4⟩
    · have gg := g1.trans g2
      have pp := p1.trans p2
      cases e : f a with
      | inl a' =>
        rw [e] at ht
        rcases ht with ht | ht
        · exact ht F B2 as2 σ' H2 o2 (s1.mono g2.1 p2) _ fun B4 as4 σ4 H4 g4 p4 o4 s4 => ⟨B4, as4, a', rfl, gg.trans g4, pp.trans p4, o4, s4⟩
        · exact ht F B2 as2 σ' H2 o2 (s1.mono g2.1 p2) _ fun B4 as4 σ4 H4 g4 p4 o4 s4 => ⟨B4, as4, a', rfl, gg.trans g4, pp.trans p4, o4, s4⟩
      | inr o =>
        rw [e] at ht hwa
        rw [← wa, hwa] at gd
        cases o with
        | nx G' M' => exact ht F B2 as2 σ' H2 o2 (s1.mono g2.1 p2) _ fun B4 as4 σ4 H4 g4 p4 o4 s4 => gd B4 as4 σ4 H4 (gg.trans g4) (pp.trans p4) o4 s4
        | rt r M' => exact ht F B2 as2 σ' H2 o2 (s1.mono g2.1 p2) _ fun v B4 as4 H4 g4 p4 o4 s4 => gd v B4 as4 H4 (gg.trans g4) (pp.trans p4) o4 s4
        | bk _ _ => exact ht.elim
        | ct _ _ => exact ht.elim
end
end DJ
namespace DJ
open PySem PySem.Spec PyProof.Rows L2
/-! ### comprehensions -/
def wipeG (G : List (Option Sl)) : List Nat → List (Option Sl)
  | [] => G
  | v :: vs => (wipeG G vs).set v none
theorem slt_none {K : PySem.W.Frag} {B : Hp} {as : List Addr} {G : List (Option Sl)} {σ : L2.St} (h : Slt K B as G σ) (i : Nat) (o : Option V) : Slt K B as (G.set i none) (σ.set i o) := by
  refine ⟨by rw [List.length_set, List.length_set]; exact h.1, fun j s' q => ?_⟩
  by_cases e : i = j
  · subst e
    rw [List.getElem?_set] at q
    simp at q
  · rw [List.getElem?_set_ne e] at q
    obtain ⟨v', e1, h1⟩ := h.2 j s' q
    exact ⟨v', by rw [List.getElem?_set_ne e]; exact e1, h1⟩
theorem slt_wipe {K : PySem.W.Frag} {B : Hp} {as : List Addr} {G : List (Option Sl)} {σ : L2.St} (h : Slt K B as G σ) : ∀ vs : List Nat, Slt K B as (wipeG G vs) (wipe σ vs)
  | [] => h
  | v :: vs => slt_none (slt_wipe h vs) v none
/-- the targets' slots are wiped again -/
def GW (g : TG) (vs : List Nat) : Prop := ∀ v σ H Q, g v σ H (fun σ2 H2 => (wipe σ2 vs = wipe σ vs → Q σ2 H2)) → g v σ H Q
theorem wipe_len (σ : L2.St) (vs : List Nat) : (wipe σ vs).length = σ.length := wipe_length σ vs
theorem wipe_get (σ : L2.St) : ∀ (vs : List Nat) (i : Nat), (wipe σ vs)[i]? = if i ∈ vs then (if i < σ.length then some none else none) else σ[i]?
  | [], i => by simp [wipe]
  | v :: vs, i => by
    unfold wipe
    rw [List.getElem?_set, wipe_len, wipe_get σ vs i]
    by_cases e : v = i
    · subst e; simp
    · have : ¬ i = v := fun z => e z.symm
      simp [e, this]
theorem wipe_set {σ : L2.St} {vs : List Nat} {j : Nat} {x : Option V} (hj : j ∈ vs) : wipe (σ.set j x) vs = wipe σ vs := by
  refine List.ext_getElem? fun i => ?_
  rw [wipe_get, wipe_get, List.length_set]
  by_cases e : i ∈ vs
  · simp [e]
  · have : j ≠ i := fun z => e (z ▸ hj)
    simp only [e, if_false]
    rw [List.getElem?_set_ne this]
theorem wipe_wipe (σ : L2.St) (vs : List Nat) : wipe (wipe σ vs) vs = wipe σ vs := by
  refine List.ext_getElem? fun i => ?_
  rw [wipe_get, wipe_get, wipe_len]
  by_cases e : i ∈ vs
  · simp [e]
  · simp only [e, if_false, wipe_get]
/-- what is made, one after another, with what is owned between -/
def mapS {μ β : Type} (p : μ → β → Option (Dt × μ)) (q : μ → β → μ) : List β → μ → List Dt × μ
  | [], m => ([], m)
  | x :: xs, m => match p m x with
    | some (y, m') => (y :: (mapS p q xs m').1, (mapS p q xs m').2)
    | none => mapS p q xs (q m x)
theorem mapS_take {μ β : Type} (p : μ → β → Option (Dt × μ)) (q : μ → β → μ) : ∀ (xs : List β) (i : Nat) (m : μ) (x : β), xs[i]? = some x →
    mapS p q (xs.take (i + 1)) m = (match p (mapS p q (xs.take i) m).2 x with
      | some (y, m') => ((mapS p q (xs.take i) m).1 ++ [y], m')
      | none => ((mapS p q (xs.take i) m).1, q (mapS p q (xs.take i) m).2 x))
  | [], i, m, x, h => by simp at h
  | y :: ys, 0, m, x, h => by
    have e1 : y = x := by simpa using h
    subst e1
    simp only [List.take_succ_cons, List.take_zero, mapS]
    cases p m y <;> rfl
  | y :: ys, i + 1, m, x, h => by
    have h : ys[i]? = some x := by simpa using h
    simp only [List.take_succ_cons, mapS]
    cases e : p m y with
    | none => exact mapS_take p q ys i _ x h
    | some r =>
      simp only [mapS_take p q ys i r.2 x h]
      cases p (mapS p q (ys.take i) r.2).2 x <;> rfl
theorem mapS_len {μ β : Type} (p : μ → β → Option (Dt × μ)) (q : μ → β → μ) : ∀ (xs : List β) (m : μ), (mapS p q xs m).1.length ≤ xs.length
  | [], m => Nat.le_refl _
  | x :: xs, m => by
    simp only [mapS]
    cases p m x with
    | none => exact Nat.le_succ_of_le (mapS_len p q xs _)
    | some r => exact Nat.succ_le_succ (mapS_len p q xs _)
section
variable {K : PySem.W.Frag} {F B B1 H : Hp} {as as1 : List Addr} {G G1 G2 G' : List (Option Sl)} {M M1 M2 M' : List MO} {te ta tb to ti : TE} {s : Sl} {b : Bool} {tt : TT} {x y z : Dt}
/-- a thing at the side: neither owned nor data -/
theorem Ow.aside {D : Addr} {o o' : HO} (h : Ow K (upd F D o) B as M H) (fD : F D = none) (bD : B D = none) : Ow K F B as M (upd H D o') := by
  refine ⟨fun a u e => ?_, fun a u e => ?_, h.len, h.nd, fun a ha => ?_, fun a ha => ?_, fun k a m e1 e2 hm => ?_⟩
  · have ne := ne_of_none e fD
    rw [upd_ne ne]
    exact h.fb a u (by rw [upd_ne ne]; exact e)
  · rw [upd_ne (ne_of_none e bD)]
    exact h.bb a u e
  · by_cases e : a = D
    · rw [e, upd_same]; exact fun z => nomatch z
    · rw [upd_ne e]; exact h.al a ha
  · have q1 := h.fa a ha
    rw [upd_ne (fun e => by rw [e, upd_same] at q1; cases q1)] at q1
    exact q1
  · obtain ⟨q1, q2, q3⟩ := h.own k a m e1 e2 hm
    have ne : a ≠ D := fun e => by rw [e, upd_same] at q1; cases q1
    rw [upd_ne ne] at q1
    exact ⟨q1, q2, MoR.mono (Same.refl B) (upd_ne ne) q3⟩
theorem Ow.out {D : Addr} {o : HO} (h : Ow K (upd F D o) B as M H) : D ∉ as := fun m => by
  have q1 := h.fa D m
  rw [upd_same] at q1
  cases q1
theorem Ow.side {D : Addr} {o : HO} (h : Ow K F B as M H) (hD : H D = some o) (fD : F D = none) (ns : D ∉ as) : Ow K (upd F D o) B as M H := by
  refine ⟨fun a u e => ?_, h.bb, h.len, h.nd, h.al, fun a ha => by rw [upd_ne (fun e : a = D => ns (e ▸ ha))]; exact h.fa a ha, fun k a m e1 e2 hm => ?_⟩
  · by_cases z : a = D
    · rw [z, upd_same] at e; rw [z, ← e]; exact hD
    · rw [upd_ne z] at e; exact h.fb a u e
  · obtain ⟨q1, q2, q3⟩ := h.own k a m e1 e2 hm
    have ne : a ≠ D := fun e : a = D => ns (e ▸ List.mem_of_getElem? e1)
    exact ⟨by rw [upd_ne ne]; exact q1, q2, q3⟩
theorem Gr.of_side {D : Addr} {us : List V} (h : Gr (upd F D (.lst us)) B B1) : Gr F B B1 := ⟨h.1, fun a f n => h.2 a (by
  by_cases e : a = D
  · rw [e, upd_same]; exact kp_lst
  · rw [upd_ne e]; exact f) n⟩
/-- the core: D holds what was made -/
theorem ev_lcAny {μ β : Type} {wi : TI} {g : TG} {tt : TT} {vs : List Nat} (xs : List β) (en : β → Dt) (encM : μ → List MO) (p : μ → β → Option (Dt × μ)) (q : μ → β → μ) (m0 : μ)
    (hI : EvI K wi G M (xs.map en) (encM m0)) (hx : xs.length ≤ 100000) (hw : ∀ v σ H Q, g v (wipe σ vs) H (fun σ2 H2 => wipe σ2 vs = wipe σ vs → Q σ2 H2) → g v (wipe σ vs) H Q)
    (turn : ∀ m x, x ∈ xs → ∃ G1, EvG K g (wipeG G vs) (.d (en x)) G1 ∧ (match p m x with
      | some (y, m') => ∃ M1, EvT K tt G1 (encM m) true M1 ∧ EvE K te G1 M1 (.d y) (encM m')
      | none => EvT K tt G1 (encM m) false (encM (q m x))))
    : ∀ F B as σ H, Ow K F B as M H → Slt K B as G σ → ∀ Q : VK,
      (∀ D us B' as' H', Gr F B B' → Px as as' → F D = none → B' D = none → Ow K (upd F D (.lst us)) B' as' (encM (mapS p q xs m0).2) H' → H' D = some (.lst us) → RpL K B' (mapS p q xs m0).1 us → Q (.ref D) H') → tLc wi g tt te vs σ H Q := fun F B as σ H ow sl Q k => by
  refine hI F B as σ H ow sl _ fun J B1 as1 H1 g1 p1 o1 yl => fun D hD => ?_
  obtain ⟨fD, bD, aD⟩ := o1.fresh hD
  have ow0 : Ow K (upd F D (.lst [])) B1 as1 (encM m0) (upd H1 D (.lst [])) := by
    refine ⟨fun a u e => ?_, fun a u e => ?_, o1.len, o1.nd, fun a ha => ?_, fun a ha => by rw [upd_ne (fun e : a = D => aD (e ▸ ha))]; exact o1.fa a ha, fun k a m e1 e2 hm => ?_⟩
    · by_cases z : a = D
      · rw [z, upd_same] at e ⊢; exact e
      · rw [upd_ne z] at e ⊢; exact o1.fb a u e
    · rw [upd_ne (ne_of_none e bD)]; exact o1.bb a u e
    · rw [upd_ne (fun e : a = D => aD (e ▸ ha))]; exact o1.al a ha
    · have ne : a ≠ D := fun e : a = D => aD (e ▸ List.mem_of_getElem? e1)
      obtain ⟨q1, q2, q3⟩ := o1.own k a m e1 e2 hm
      exact ⟨by rw [upd_ne ne]; exact q1, q2, MoR.mono (Same.refl B1) (upd_ne ne) q3⟩
  refine ⟨fun i n H' => ∃ B' as' us, n = xs.length - i ∧ i ≤ xs.length ∧ Gr F B1 B' ∧ B' D = none ∧ Px as1 as' ∧ Ow K (upd F D (.lst us)) B' as' (encM (mapS p q (xs.take i) m0).2) H' ∧ H' D = some (.lst us) ∧ RpL K B' (mapS p q (xs.take i) m0).1 us,
    ⟨xs.length, B1, as1, [], by simp, Nat.zero_le _, Gr.refl F B1, bD, Px.refl as1, ow0, upd_same, rfl⟩, fun i n H' w => ?_⟩
  obtain ⟨B', as', us, rfl, hi, g', bD', p', o', hD', r'⟩ := w
  obtain ⟨y1, y2⟩ := yl _ B' as' _ H' i g'.1 o'
  by_cases hlt : i < xs.length
  · have hxi : xs[i]? = some xs[i] := List.getElem?_eq_getElem hlt
    obtain ⟨go, yld⟩ := y1 (en xs[i]) (by rw [List.getElem?_map, hxi] <;> rfl)
    have mt := mapS_take p q xs i m0 _ hxi
    refine .inr ⟨go, fun H2 => ∃ B' as' us, i + 1 ≤ xs.length ∧ Gr F B1 B' ∧ B' D = none ∧ Px as1 as' ∧ Ow K (upd F D (.lst us)) B' as' (encM (mapS p q (xs.take (i + 1)) m0).2) H2 ∧ H2 D = some (.lst us) ∧ RpL K B' (mapS p q (xs.take (i + 1)) m0).1 us, fun H2 n2 => ?_, fun v H2 yv => ?_⟩
    · obtain ⟨B2, as2, us2, q1, q2, q3, q4, q5, q6, q7⟩ := n2
      exact ⟨xs.length - (i + 1), by omega, B2, as2, us2, rfl, q1, q2, q3, q4, q5, q6, q7⟩
    · obtain ⟨B2, g2, o2, r2⟩ := yld v H2 yv
      generalize hm : (mapS p q (xs.take i) m0).2 = m at *
      obtain ⟨G1, hg, ht⟩ := turn m xs[i] (List.getElem_mem hlt)
      have bD2 : B2 D = none := g2.2 D (by rw [upd_same]; exact kp_lst) bD'
      refine hw v σ H2 _ ?_
      refine hg _ B2 as' (encM m) (wipe σ vs) H2 v o2 ((slt_wipe (sl.mono ((g1.1.trans g'.1).trans g2.1) (p1.trans p')) vs)) r2 _ fun B3 as3 σ3 H3 g3 p3 o3 s3 => fun hwp => ⟨hwp, ?_⟩
      have bD3 : B3 D = none := g3.2 D (by rw [upd_same]; exact kp_lst) bD2
      cases e : p m xs[i] with
      | none =>
        rw [e] at ht mt
        refine ht _ B3 as3 σ3 H3 o3 s3 _ fun B4 as4 H4 g4 p4 o4 => ?_
        rw [if_neg Bool.false_ne_true]
        have sm := (g2.1.trans g3.1).trans g4.1
        refine ⟨B4, as4, us, hlt, g'.trans ((g2.trans (g3.trans g4)).of_side), g4.2 D (by rw [upd_same]; exact kp_lst) bD3, p'.trans (p3.trans p4), ?_, o4.fb D _ upd_same, ?_⟩
        · rw [mt]; exact o4
        · rw [mt]; exact RpL.mono sm _ _ r'
      | some r =>
        obtain ⟨yd, m'⟩ := r
        rw [e] at ht mt
        obtain ⟨M1, h1, h2⟩ := ht
        refine h1 _ B3 as3 σ3 H3 o3 s3 _ fun B4 as4 H4 g4 p4 o4 => ?_
        rw [if_pos rfl]
        refine h2 _ B4 as4 σ3 H4 o4 (s3.mono g4.1 p4) _ fun w B5 as5 H5 g5 p5 o5 r5 => ?_
        have bD4 : B4 D = none := g4.2 D (by rw [upd_same]; exact kp_lst) bD3
        have bD5 : B5 D = none := g5.2 D (by rw [upd_same]; exact kp_lst) bD4
        have hl : us.length < sizeLine := by
          rw [r'.len]
          have e1 := mapS_len p q (xs.take i) m0
          rw [List.length_take] at e1
          exact Nat.lt_of_le_of_lt (show _ ≤ 100000 by omega) (by decide)
        have sm := ((g2.1.trans g3.1).trans g4.1).trans g5.1
        have on : Ow K F B5 as5 (encM m') (upd H5 D (.lst (us ++ [w]))) := o5.aside fD bD5
        have on2 : Ow K (upd F D (.lst (us ++ [w]))) B5 as5 (encM m') (upd H5 D (.lst (us ++ [w]))) := on.side upd_same fD o5.out
        refine ⟨us, o5.fb D _ upd_same, hl, B5, as5, us ++ [w], hlt, g'.trans ((g2.trans (g3.trans (g4.trans g5))).of_side), bD5, p'.trans (p3.trans (p4.trans p5)), ?_, upd_same, ?_⟩
        · rw [mt]; exact on2
        · rw [mt]; exact RpL.append (RpL.mono sm _ _ r') (RpL.one r5)
  · have e : i = xs.length := by omega
    subst e
    rw [List.take_length] at o' r'
    exact .inl ⟨y2 (by rw [List.length_map]; exact Nat.le_refl _), k D us B' as' H' (g1.trans g') (p1.trans p') fD bD' o' hD' r'⟩
theorem hw_name {j : Nat} {vs : List Nat} (hj : j ∈ vs) : ∀ v σ H Q, gName j v (wipe σ vs) H (fun σ2 H2 => wipe σ2 vs = wipe σ vs → Q σ2 H2) → gName j v (wipe σ vs) H Q := fun v σ H Q h =>
  h (by rw [wipe_set hj, wipe_wipe])
theorem hw_tup2 {i j : Nat} {vs : List Nat} (hi : i ∈ vs) (hj : j ∈ vs) {n : Nat} : ∀ v σ H Q, gTup K n (gCons (gName i) (gCons (gName j) gNil)) v (wipe σ vs) H (fun σ2 H2 => wipe σ2 vs = wipe σ vs → Q σ2 H2) → gTup K n (gCons (gName i) (gCons (gName j) gNil)) v (wipe σ vs) H Q := fun v σ H Q h => by
  obtain ⟨a, xs, e, h1, h2, u, r, e1, w, r2, e2, e3, h3⟩ := h
  exact ⟨a, xs, e, h1, h2, u, r, e1, w, r2, e2, e3, h3 (by rw [wipe_set hj, wipe_set hi, wipe_wipe])⟩
/-- the new list is data -/
theorem ev_lc {μ β : Type} {wi : TI} {g : TG} {tt : TT} {vs : List Nat} (xs : List β) (en : β → Dt) (encM : μ → List MO) (p : μ → β → Option (Dt × μ)) (q : μ → β → μ) (m0 : μ)
    (hI : EvI K wi G M (xs.map en) (encM m0)) (hx : xs.length ≤ 100000) (hw : ∀ v σ H Q, g v (wipe σ vs) H (fun σ2 H2 => wipe σ2 vs = wipe σ vs → Q σ2 H2) → g v (wipe σ vs) H Q)
    (turn : ∀ m x, x ∈ xs → ∃ G1, EvG K g (wipeG G vs) (.d (en x)) G1 ∧ (match p m x with
      | some (y, m') => ∃ M1, EvT K tt G1 (encM m) true M1 ∧ EvE K te G1 M1 (.d y) (encM m')
      | none => EvT K tt G1 (encM m) false (encM (q m x)))) :
    EvE K (tLc wi g tt te vs) G M (.d (.lst (mapS p q xs m0).1)) (encM (mapS p q xs m0).2) := fun F B as σ H ow sl Q k =>
  ev_lcAny xs en encM p q m0 hI hx hw turn F B as σ H ow sl Q fun D us B' as' H' g' p' fD bD o' hD r' => by
    have sm : Same B' (upd B' D (.lst us)) := fun c u e => by rw [upd_ne (ne_of_none e bD)]; exact e
    refine k _ (upd B' D (.lst us)) as' H' ⟨g'.1.trans sm, fun c z n => ?_⟩ p' ⟨?_, ?_, o'.len, o'.nd, o'.al, ?_, ?_⟩ ⟨D, us, rfl, .inl (.inl upd_same), RpL.mono sm _ _ r'⟩
    · rw [upd_ne (fun e : c = D => z.1 (by rw [e]; exact fD))]; exact g'.2 c z n
    · exact fun c u e => o'.fb c u (by rw [upd_ne (ne_of_none e fD)]; exact e)
    · intro c u e
      by_cases z : c = D
      · rw [z, upd_same] at e; rw [z, ← e]; exact hD
      · rw [upd_ne z] at e; exact o'.bb c u e
    · intro c hc
      have q1 := o'.fa c hc
      rw [upd_ne (fun e : c = D => o'.out (e ▸ hc))] at q1
      exact q1
    · intro k a m e1 e2 hm
      obtain ⟨q1, q2, q3⟩ := o'.own k a m e1 e2 hm
      have ne : a ≠ D := fun e => by rw [e, upd_same] at q1; cases q1
      rw [upd_ne ne] at q1
      exact ⟨q1, by rw [upd_ne ne]; exact q2, MoR.mono sm rfl q3⟩
/-- the new list will change -/
theorem ev_lcO {μ β : Type} {wi : TI} {g : TG} {tt : TT} {vs : List Nat} (xs : List β) (en : β → Dt) (encM : μ → List MO) (p : μ → β → Option (Dt × μ)) (q : μ → β → μ) (m0 : μ)
    (hI : EvI K wi G M (xs.map en) (encM m0)) (hx : xs.length ≤ 100000) (hw : ∀ v σ H Q, g v (wipe σ vs) H (fun σ2 H2 => wipe σ2 vs = wipe σ vs → Q σ2 H2) → g v (wipe σ vs) H Q)
    (turn : ∀ m x, x ∈ xs → ∃ G1, EvG K g (wipeG G vs) (.d (en x)) G1 ∧ (match p m x with
      | some (y, m') => ∃ M1, EvT K tt G1 (encM m) true M1 ∧ EvE K te G1 M1 (.d y) (encM m')
      | none => EvT K tt G1 (encM m) false (encM (q m x)))) :
    EvE K (tLc wi g tt te vs) G M (.o (encM (mapS p q xs m0).2).length) (encM (mapS p q xs m0).2 ++ [.lst (mapS p q xs m0).1]) := fun F B as σ H ow sl Q k =>
  ev_lcAny xs en encM p q m0 hI hx hw turn F B as σ H ow sl Q fun D us B' as' H' g' p' fD bD o' hD r' => by
    have nD := o'.out
    have hs : Ow K F B' as' (encM (mapS p q xs m0).2) H' := by
      have := o'.aside (o' := .lst us) fD bD
      rw [show upd H' D (.lst us) = H' from funext fun b => by
        by_cases e : b = D
        · rw [e, upd_same, hD]
        · rw [upd_ne e]] at this
      exact this
    refine k _ B' (as' ++ [D]) H' g' (p'.trans ⟨[D], rfl⟩) ⟨hs.fb, hs.bb, by rw [List.length_append, List.length_append, hs.len]; rfl, List.nodup_append.mpr ⟨hs.nd, by simp, fun a ha b hb => ?_⟩, fun a ha => ?_, fun a ha => ?_, fun k a m' e1 e2 hm' => ?_⟩ ⟨D, ?_, rfl⟩
    · obtain rfl : b = D := by simpa using hb
      exact fun e : a = b => nD (e ▸ ha)
    · rcases List.mem_append.mp ha with ha | ha
      · exact hs.al a ha
      · obtain rfl : a = D := by simpa using ha
        rw [hD]; exact fun z => nomatch z
    · rcases List.mem_append.mp ha with ha | ha
      · exact hs.fa a ha
      · obtain rfl : a = D := by simpa using ha
        exact fD
    · by_cases hk : k < as'.length
      · rw [List.getElem?_append_left hk] at e1
        rw [List.getElem?_append_left (by rw [← hs.len]; exact hk)] at e2
        exact hs.own k a m' e1 e2 hm'
      · have hl : k = as'.length := by
          have := (List.getElem?_eq_some_iff.mp e1).1
          rw [List.length_append, List.length_singleton] at this
          omega
        subst hl
        rw [List.getElem?_append_right (Nat.le_refl _), Nat.sub_self] at e1
        rw [hs.len, List.getElem?_append_right (Nat.le_refl _), Nat.sub_self] at e2
        obtain rfl : D = a := Option.some.inj e1
        obtain rfl : MO.lst (mapS p q xs m0).1 = m' := Option.some.inj e2
        exact ⟨fD, bD, us, hD, r'⟩
    · rw [← hs.len, List.getElem?_append_right (Nat.le_refl _), Nat.sub_self]
      rfl
end
/-! ### calls -/
def SpR (K : PySem.W.Frag) (n : Nat) (R : List Sl → List MO → Sl → List MO → Prop) : Sp := fun vs H Q _ =>
  ∃ F B as ss M r M', R ss M r M' ∧ Ow K F B as M H ∧ SlL K B as ss vs ∧ vs.length = n ∧ ∀ v B' as' H', Gr F B B' → Px as as' → Ow K F B' as' M' H' → SlR K B' as' r v → Q v H'
def start (n : Nat) (ss : List Sl) : List (Option Sl) := ss.map some ++ List.replicate (n - ss.length) none
section
variable {K : PySem.W.Frag} {F B B1 H : Hp} {as as1 : List Addr} {G G1 G2 G' : List (Option Sl)} {M M1 M2 M' X : List MO} {te : TE} {ta tk : TA} {s r : Sl} {t : TS} {E : XK}
theorem slt_args {n : Nat} : ∀ {ss : List Sl} {vs : List V}, SlL K B as ss vs → Slt K B as (ss.map some ++ List.replicate n none) (vs.map some ++ List.replicate n none)
  | [], vs, h => by
    rw [show vs = [] from h]
    refine ⟨by simp, fun i s q => ?_⟩
    simp only [List.map_nil, List.nil_append, List.getElem?_replicate] at q
    split at q <;> simp at q
  | s :: ss, vs, ⟨v, u, e, h1, h2⟩ => by
    subst e
    have ih := slt_args (n := n) h2
    refine ⟨by have := ih.1; simp at this ⊢; omega, fun i s' q => ?_⟩
    cases i with
    | zero => simp at q; subst q; exact ⟨v, by simp, h1⟩
    | succ i => exact ih.2 i s' (by simpa using q)
/-- a def's body keeps its promise -/
theorem run_body {N : List Str} {ss : List Sl} {vs : List V} {Q : VK} (h : EvS K t (start N.length ss) M (.rt r (M' ++ X))) (hm : M.length ≤ M'.length) (hr : ∀ k, r = .o k → k < M'.length) (ow : Ow K F B as M H) (sl : SlL K B as ss vs)
    (q : ∀ v B' as' H', Gr F B B' → Px as as' → Ow K F B' as' M' H' → SlR K B' as' r v → Q v H') : t { nx := fun _ H' => Q .non H', rt := Q } (L2.start N vs) H := by
  have sl' : Slt K B as (start N.length ss) (L2.start N vs) := by
    have e := sl.len
    unfold start L2.start
    rw [e]
    exact slt_args sl
  refine h F B as _ H ow sl' _ fun v B' as' H' g p o' r' => q v B' (as'.take M'.length) H' g ?_ o'.drop ?_
  · obtain ⟨tl, rfl⟩ := p
    refine ⟨tl.take (M'.length - as.length), ?_⟩
    rw [List.take_append, List.take_of_length_le (by rw [ow.len]; exact hm)]
  · cases r with
    | d x => exact r'
    | o k =>
      obtain ⟨a, ha, e⟩ := r'
      exact ⟨a, by rw [List.getElem?_take_of_lt (hr k rfl)]; exact ha, e⟩
/-- .. that comes to its end -/
theorem run_bodyN {N : List Str} {ss : List Sl} {vs : List V} {Q : VK} (h : EvS K t (start N.length ss) M (.nx G1 (M' ++ X))) (hm : M.length ≤ M'.length) (ow : Ow K F B as M H) (sl : SlL K B as ss vs)
    (q : ∀ v B' as' H', Gr F B B' → Px as as' → Ow K F B' as' M' H' → SlR K B' as' (.d .non) v → Q v H') : t { nx := fun _ H' => Q .non H', rt := Q } (L2.start N vs) H := by
  have sl' : Slt K B as (start N.length ss) (L2.start N vs) := by
    have e := sl.len
    unfold start L2.start
    rw [e]
    exact slt_args sl
  refine h F B as _ H ow sl' _ fun B' as' σ' H' g p o' r' => q .non B' (as'.take M'.length) H' g ?_ o'.drop rfl
  obtain ⟨tl, rfl⟩ := p
  refine ⟨tl.take (M'.length - as.length), ?_⟩
  rw [List.take_append, List.take_of_length_le (by rw [ow.len]; exact hm)]
/-- what a call of data asks: R of them, nothing owned -/
theorem call_core {n : Nat} {R : List Sl → List MO → Sl → List MO → Prop} {ds : List Dt} {z : Sl} {N : List MO} {vs : List V} {Q : VK} (hR : R (ds.map Sl.d) [] z N) (hn : ds.length = n) (o : Ow K F B as M H) (r : RpL K B ds vs)
    (q : ∀ v B' as' H', Gr H B B' → Ow K H B' as' N H' → SlR K B' as' z v → Q v H') : SpR K n R vs H Q E :=
  ⟨H, B, [], ds.map Sl.d, [], z, N, hR, ⟨Same.refl H, o.bb, rfl, List.nodup_nil, fun _ h => (nomatch h), fun _ h => (nomatch h), fun k a m e => by simp at e⟩, SlL.of_data r, by rw [r.len]; exact hn, fun v B' as' H' g _ o' r' => q v B' as' H' g o' r'⟩
theorem back0 {B' : Hp} {as' : List Addr} {N : List MO} {H' : Hp} (o : Ow K F B as M H) (g : Gr H B B') (o' : Ow K H B' as' N H') : Gr F B B' ∧ Ow K F B' as M H' := by
  refine ⟨⟨g.1, fun a f n => g.2 a (Kp.same f o.fb) n⟩, fun a u e => o'.fb a u (o.fb a u e), o'.bb, o.len, o.nd, fun a ha => ?_, o.fa, fun k a m e1 e2 hm => ?_⟩
  · cases e : H a with
    | none => exact absurd e (o.al a ha)
    | some u => rw [o'.fb a u e]; exact fun z => nomatch z
  · obtain ⟨q1, q2, q3⟩ := o.own k a m e1 e2 hm
    have ha := o.al a (List.mem_of_getElem? e1)
    cases e : H a with
    | none => exact absurd e ha
    | some u => exact ⟨q1, g.2 a (kp_mor hm q3) q2, MoR.mono g.1 ((o'.fb a u e).trans e.symm) q3⟩
theorem ev_call0 {n : Nat} {R : List Sl → List MO → Sl → List MO → Prop} {ds : List Dt} {z : Dt} {dvs : List V} {es : List Dt} (h : EvA K ta G M (ds.map Sl.d) M1) (hR : R ((ds ++ es).map Sl.d) [] (.d z) []) (hn : (ds ++ es).length = n) (hd : ∀ B, RpL K B es dvs) :
    EvE K (tCall (SpR K n R) dvs E ta) G M (.d z) M1 := fun F B as σ H ow sl Q q =>
  h F B as σ H ow sl _ fun vs B1 as1 H1 g1 p1 o1 r1 => call_core hR hn o1 (RpL.append (SlL.data r1) (hd B1)) fun v B' as' H' g o' r' => by
    obtain ⟨g2, o2⟩ := back0 o1 g o'
    exact q v B' as1 H' (g1.trans g2) p1 o2 r'
/-- .. that hands back a new list which will change -/
theorem ev_call0n {n : Nat} {R : List Sl → List MO → Sl → List MO → Prop} {ds : List Dt} {m : MO} {dvs : List V} {es : List Dt} (h : EvA K ta G M (ds.map Sl.d) M1) (hR : R ((ds ++ es).map Sl.d) [] (.o 0) [m]) (hg : m ≠ .gone) (hn : (ds ++ es).length = n) (hd : ∀ B, RpL K B es dvs) :
    EvE K (tCall (SpR K n R) dvs E ta) G M (.o M1.length) (M1 ++ [m]) := fun F B as σ H ow sl Q q =>
  h F B as σ H ow sl _ fun vs B1 as1 H1 g1 p1 o1 r1 => call_core hR hn o1 (RpL.append (SlL.data r1) (hd B1)) fun v B' as' H' g o' r' => by
    obtain ⟨g2, o2⟩ := back0 o1 g o'
    obtain ⟨a, ha, rfl⟩ := r'
    have q0 := o'.own 0 a m ha rfl hg
    have fa := q0.1
    have nin : a ∉ as1 := fun hm => o1.al a hm fa
    have hal := o'.al a (List.mem_of_getElem? ha)
    refine q _ B' (as1 ++ [a]) H' (g1.trans g2) (p1.trans ⟨[a], rfl⟩) ⟨o2.fb, o2.bb, by rw [List.length_append, List.length_append, o2.len]; rfl, List.nodup_append.mpr ⟨o2.nd, by simp, fun c hc b hb => ?_⟩, fun c hc => ?_, fun c hc => ?_, fun k c m' e1 e2 hm' => ?_⟩ ⟨a, ?_, rfl⟩
    · obtain rfl : b = a := by simpa using hb
      exact fun e : c = b => nin (e ▸ hc)
    · rcases List.mem_append.mp hc with hc | hc
      · exact o2.al c hc
      · obtain rfl : c = a := by simpa using hc
        exact hal
    · rcases List.mem_append.mp hc with hc | hc
      · exact o2.fa c hc
      · obtain rfl : c = a := by simpa using hc
        exact o1.fb.free fa
    · by_cases hk : k < as1.length
      · rw [List.getElem?_append_left hk] at e1
        rw [List.getElem?_append_left (by rw [← o2.len]; exact hk)] at e2
        exact o2.own k c m' e1 e2 hm'
      · have hl : k = as1.length := by
          have := (List.getElem?_eq_some_iff.mp e1).1
          rw [List.length_append, List.length_singleton] at this
          omega
        subst hl
        rw [List.getElem?_append_right (Nat.le_refl _), Nat.sub_self] at e1
        rw [o2.len, List.getElem?_append_right (Nat.le_refl _), Nat.sub_self] at e2
        obtain rfl : a = c := Option.some.inj e1
        obtain rfl : m = m' := Option.some.inj e2
        exact ⟨o1.fb.free fa, q0.2.1, q0.2.2⟩
    · rw [← o2.len, List.getElem?_append_right (Nat.le_refl _), Nat.sub_self]
      rfl
/-- one owned thing is handed on: the callee's number 0 -/
def to0 (k : Nat) : Sl → Sl
  | .d x => .d x
  | .o j => if j = k then .o 0 else .o j
theorem slL_to0 {a : Addr} {k : Nat} (ha : as[k]? = some a) : ∀ {ss : List Sl} {vs : List V}, (∀ s ∈ ss, ∀ j, s = .o j → j = k) → SlL K B as ss vs → SlL K B [a] (ss.map (to0 k)) vs
  | [], _, _, h => h
  | s :: ss, _, hs, ⟨v, u, e, h1, h2⟩ => by
    refine ⟨v, u, e, ?_, slL_to0 ha (fun s' hs' => hs s' (List.mem_cons_of_mem _ hs')) h2⟩
    cases s with
    | d x => exact h1
    | o j =>
      have e2 := hs _ List.mem_cons_self j rfl
      subst e2
      obtain ⟨c, hc, e3⟩ := h1
      rw [ha] at hc
      cases hc
      show SlR K B [a] (if j = j then .o 0 else .o j) v
      rw [if_pos rfl]
      exact ⟨a, rfl, e3⟩
theorem ev_call1 {n k : Nat} {R : List Sl → List MO → Sl → List MO → Prop} {ss : List Sl} {m m' : MO} {z : Dt} {dvs : List V} {es : List Dt} (h : EvA K ta G M ss M1) (hm : M1[k]? = some m) (hg : m ≠ .gone) (hs : ∀ s ∈ ss, ∀ j, s = .o j → j = k)
    (hR : R (ss.map (to0 k) ++ es.map Sl.d) [m] (.d z) [m']) (hg' : m' ≠ .gone) (hn : ss.length + es.length = n) (hd : ∀ B, RpL K B es dvs) :
    EvE K (tCall (SpR K n R) dvs E ta) G M (.d z) (M1.set k m') := fun F B as σ H ow sl Q q =>
  h F B as σ H ow sl _ fun vs B1 as1 H1 g1 p1 o1 r1 => by
    have hk : k < as1.length := by rw [o1.len]; exact (List.getElem?_eq_some_iff.mp hm).1
    obtain ⟨a, ha⟩ : ∃ a, as1[k]? = some a := ⟨_, List.getElem?_eq_getElem hk⟩
    obtain ⟨f0, b0, mr⟩ := o1.own k a m ha hm hg
    have hal := o1.al a (List.mem_of_getElem? ha)
    have oc : Ow K (fun b => if b = a then none else H1 b) B1 [a] [m] H1 := by
      refine ⟨fun b u e => ?_, o1.bb, rfl, by simp, fun b hb => ?_, fun b hb => ?_, fun j b m2 e1 e2 hm2 => ?_⟩
      · by_cases z : b = a
        · simp only [if_pos z] at e; cases e
        · simp only [if_neg z] at e; exact e
      · obtain rfl : b = a := by simpa using hb
        exact hal
      · obtain rfl : b = a := by simpa using hb
        simp
      · cases j with
        | zero =>
          obtain rfl : a = b := Option.some.inj e1
          obtain rfl : m = m2 := Option.some.inj e2
          exact ⟨by simp, b0, mr⟩
        | succ j => simp at e1
    have sl2 : SlL K B1 [a] (ss.map (to0 k) ++ es.map Sl.d) (vs ++ dvs) := by
      have h1 := slL_to0 ha hs r1
      have h2 := SlL.of_data (as := [a]) (hd B1)
      revert h1 h2
      generalize ss.map (to0 k) = ps
      generalize es.map Sl.d = qs
      intro h1 h2
      clear r1
      induction ps generalizing vs with
      | nil => rw [show vs = [] from h1]; exact h2
      | cons c ps ih =>
        obtain ⟨v, u, e, h3, h4⟩ := h1
        subst e
        exact ⟨v, _, rfl, h3, ih u h4⟩
    refine ⟨_, B1, [a], _, [m], .d z, [m'], hR, oc, sl2, ?_, fun v B' as' H' g p o' r' => ?_⟩
    · rw [List.length_append, r1.len, (hd B1).len]; exact hn
    · obtain ⟨tl, rfl⟩ := p
      have tl0 : tl = [] := by
        have := o'.len
        simp at this
        exact this
      subst tl0
      have F1 : Same F (fun b => if b = a then none else H1 b) := fun b u e => by
        have ne := ne_of_none e f0
        simp only [if_neg ne]
        exact o1.fb b u e
      have hh : ∀ b, b ≠ a → ∀ u, H1 b = some u → H' b = some u := fun b ne u e => o'.fb b u (by simp only [if_neg ne]; exact e)
      obtain ⟨_, bn, mr'⟩ := o'.own 0 a m' rfl rfl hg'
      have gF : Gr F B1 B' := ⟨g.1, fun b f n => g.2 b (Kp.same f F1) n⟩
      refine q v B' as1 H' (g1.trans gF) p1 ⟨fun b u e => o'.fb b u (F1 b u e), o'.bb, by rw [List.length_set]; exact o1.len, o1.nd, fun b hb => ?_, o1.fa, fun j b m2 e1 e2 hm2 => ?_⟩ r'
      · by_cases z : b = a
        · rw [z]; exact o'.al a (by simp)
        · cases e : H1 b with
          | none => exact absurd e (o1.al b hb)
          | some u => rw [hh b z u e]; exact fun z => nomatch z
      · by_cases z : k = j
        · subst z
          rw [ha] at e1
          obtain rfl : a = b := Option.some.inj e1
          rw [List.getElem?_set_self (List.getElem?_eq_some_iff.mp hm).1] at e2
          obtain rfl : m' = m2 := Option.some.inj e2
          exact ⟨f0, bn, mr'⟩
        · rw [List.getElem?_set_ne z] at e2
          have ne : b ≠ a := fun e => by
            subst e
            obtain ⟨l1, g1⟩ := List.getElem?_eq_some_iff.mp ha
            obtain ⟨l2, g2⟩ := List.getElem?_eq_some_iff.mp e1
            exact z (nodup_ix2 o1.nd l1 l2 (g1.trans g2.symm))
          obtain ⟨r1', r2', r3'⟩ := o1.own j b m2 e1 e2 hm2
          have hb := o1.al b (List.mem_of_getElem? e1)
          cases e : H1 b with
          | none => exact absurd e hb
          | some u => exact ⟨r1', g.2 b (by simp only [if_neg ne]; exact kp_mor hm2 r3') r2', MoR.mono g.1 ((hh b ne u e).trans e.symm) r3'⟩
end
end DJ
namespace DJ
open PySem PySem.Spec PyProof.Rows L2
/-! ### texts as lists of signs -/
theorem tx_len (a : List Nat) : (tx a).length = a.length := SX.S_len a
theorem tx_cat (a b : List Nat) : tx a ++ tx b = tx (a ++ b) := SX.S_cat a b
theorem tx_inj {a b : List Nat} (h : tx a = tx b) : a = b := SX.S_inj h
theorem tx_dec (a b : List Nat) : decide (V.str (tx a) = V.str (tx b)) = decide (a = b) := by
  by_cases e : a = b
  · subst e; simp
  · rw [decide_eq_false e, decide_eq_false (fun h => e (tx_inj (V.str.inj h)))]
/-- S stands at the head of l -/
abbrev pre (S l : List Nat) : Bool := TL.pre S l
theorem sub_tl (a b : List Nat) (i : Nat) : Builtin.Str.subAt (tx a) (tx b) i = ((a.drop i).take b.length == b) := by
  have h := StrLaws.subAt_eq (tx a) (tx b) i
  rw [tx_len] at h
  exact h
theorem starts_tx (a b : List Nat) : Txt.startswith (tx a) (tx b) = pre b a := by
  unfold Txt.startswith
  rw [sub_tl, tx_len, tx_len, Nat.zero_add, List.drop_zero]
  show (decide (b.length ≤ a.length) && (a.take b.length == b)) = (a.take b.length == b)
  by_cases h : b.length ≤ a.length
  · rw [decide_eq_true h, Bool.true_and]
  · rw [decide_eq_false h, Bool.false_and]
    refine (beq_eq_false_iff_ne.mpr fun e => h ?_).symm
    have := congrArg List.length e
    rw [List.length_take] at this
    omega
/-- b stands somewhere in a -/
def sub : List Nat → List Nat → Bool
  | b, [] => b == []
  | b, c :: r => pre b (c :: r) || sub b r
theorem sub_iff (b : List Nat) : ∀ a : List Nat, sub b a = true ↔ ∃ i, i + b.length ≤ a.length ∧ (a.drop i).take b.length = b
  | [] => by
    unfold sub
    constructor
    · intro h
      have e : b = [] := eq_of_beq h
      subst e
      exact ⟨0, Nat.le_refl _, rfl⟩
    · rintro ⟨i, h1, h2⟩
      have : b.length = 0 := by
        have h1 : i + b.length ≤ 0 := h1
        omega
      rw [List.length_eq_zero_iff.mp this] <;> rfl
  | c :: r => by
    unfold sub
    rw [Bool.or_eq_true, sub_iff b r]
    constructor
    · rintro (h | ⟨i, h1, h2⟩)
      · have e : (c :: r).take b.length = b := eq_of_beq h
        refine ⟨0, ?_, e⟩
        have := congrArg List.length e
        rw [List.length_take] at this
        omega
      · exact ⟨i + 1, by simp; omega, h2⟩
    · rintro ⟨i, h1, h2⟩
      cases i with
      | zero => exact .inl (by rw [List.drop_zero] at h2; show (List.take b.length (c :: r) == b) = true; rw [h2]; exact beq_self_eq_true b)
      | succ i => exact .inr ⟨i, by simp at h1; omega, h2⟩
theorem found_tx (a b : List Nat) : (!(Builtin.Str.occurrences (tx a) (tx b) 0 (tx a).length 1).isEmpty) = sub b a := by
  refine Bool.eq_iff_iff.mpr ?_
  rw [StrLaws.found_iff, sub_iff]
  constructor
  · rintro ⟨i, h1, h2⟩
    rw [tx_len, tx_len] at h1
    rw [sub_tl, beq_iff_eq] at h2
    exact ⟨i, h1, h2⟩
  · rintro ⟨i, h1, h2⟩
    exact ⟨i, by rw [tx_len, tx_len]; exact h1, by rw [sub_tl, beq_iff_eq]; exact h2⟩
/-- a slice -/
def cutL {α : Type} (l : List α) (lo hi : Option Int) : List α := (l.drop (HT.sIx l.length 0 lo)).take (HT.sIx l.length l.length hi - HT.sIx l.length 0 lo)
theorem cutS_tx (l : List Nat) (lo hi : Option Int) : cutS (tx l) lo hi = tx (cutL l lo hi) := by
  unfold cutS cutL
  rw [tx_len]
theorem cutL_len {α : Type} (l : List α) (lo hi : Option Int) : (cutL l lo hi).length ≤ l.length := by
  unfold cutL
  rw [List.length_take, List.length_drop]
  omega
theorem cutL_from {α : Type} (l : List α) (n : Nat) : cutL l (some (n : Int)) none = l.drop n := by
  unfold cutL
  have e : HT.sIx l.length 0 (some (n : Int)) = min n l.length := HT.sIx_nat _ _ n
  have e2 : HT.sIx l.length l.length none = l.length := rfl
  rw [e, e2]
  by_cases h : n ≤ l.length
  · rw [Nat.min_eq_left h]
    exact List.take_of_length_le (by rw [List.length_drop]; exact Nat.le_refl _)
  · rw [Nat.min_eq_right (by omega), List.drop_length, List.drop_eq_nil_of_le (by omega)]
    simp
theorem cutL_to {α : Type} (l : List α) (n : Nat) : cutL l none (some (n : Int)) = l.take n := by
  unfold cutL
  have e : HT.sIx l.length l.length (some (n : Int)) = min n l.length := HT.sIx_nat _ _ n
  have e2 : HT.sIx l.length 0 none = 0 := rfl
  rw [e, e2, List.drop_zero, Nat.sub_zero]
  by_cases h : n ≤ l.length
  · rw [Nat.min_eq_left h]
  · rw [Nat.min_eq_right (by omega), List.take_of_length_le (Nat.le_refl l.length), List.take_of_length_le (show l.length ≤ n by omega)]
theorem cutL_nat {α : Type} (l : List α) (a b : Nat) : cutL l (some (a : Int)) (some (b : Int)) = (l.drop a).take (b - a) := by
  unfold cutL
  have e : HT.sIx l.length 0 (some (a : Int)) = min a l.length := HT.sIx_nat _ _ a
  have e2 : HT.sIx l.length l.length (some (b : Int)) = min b l.length := HT.sIx_nat _ _ b
  rw [e, e2]
  by_cases h : a ≤ l.length
  · rw [Nat.min_eq_left h]
    refine List.ext_getElem? fun i => ?_
    rw [List.getElem?_take, List.getElem?_take, List.getElem?_drop]
    by_cases h1 : i < b - a
    · rw [if_pos h1]
      by_cases h2 : i < min b l.length - a
      · rw [if_pos h2]
      · rw [if_neg h2, List.getElem?_eq_none (by omega)]
    · rw [if_neg h1, if_neg (by omega)]
  · rw [Nat.min_eq_right (show l.length ≤ a by omega), List.drop_length, List.drop_eq_nil_of_le (show l.length ≤ a by omega)]
    simp
/-- strip -/
theorem strip_l (g : Nat → Bool) (l : List Nat) : Txt.stripBy g true false (tx l) = tx (l.dropWhile g) := by
  rw [PyProof.Rows.stripBy_eq]
  have e2 : stripHi g false (tx l) (stripLo g true (tx l)) = (tx l).length := by simp [stripHi]
  have e1 : stripLo g true (tx l) = (l.takeWhile g).length := by simp [stripLo]
  rw [e2, e1]
  refine TL.ext_tl ?_
  rw [TL.tl_strSub_end]
  show l.drop (l.takeWhile g).length = l.dropWhile g
  have e3 : l = l.takeWhile g ++ l.dropWhile g := (List.takeWhile_append_dropWhile).symm
  exact (by
    have : (l.takeWhile g ++ l.dropWhile g).drop (l.takeWhile g).length = l.dropWhile g := List.drop_left
    rw [← e3] at this
    exact this)
theorem drop_take_while (g : Nat → Bool) (l : List Nat) : l.drop (l.takeWhile g).length = l.dropWhile g := by
  have this : (l.takeWhile g ++ l.dropWhile g).drop (l.takeWhile g).length = l.dropWhile g := List.drop_left
  rw [List.takeWhile_append_dropWhile] at this
  exact this
theorem take_rev_while (g : Nat → Bool) (l : List Nat) : l.take (l.length - (l.reverse.takeWhile g).length) = (l.reverse.dropWhile g).reverse := by
  rw [← drop_take_while g l.reverse, List.drop_reverse, List.reverse_reverse]
theorem strip_r (g : Nat → Bool) (l : List Nat) : Txt.stripBy g false true (tx l) = tx (l.reverse.dropWhile g).reverse := by
  rw [PyProof.Rows.stripBy_eq]
  have e1 : stripLo g false (tx l) = 0 := by simp [stripLo]
  have e2 : stripHi g true (tx l) 0 = l.length - (l.reverse.takeWhile g).length := by simp [stripHi, Str.length]
  rw [e1, e2]
  refine TL.ext_tl ?_
  rw [TL.tl_strSub, List.drop_zero, Nat.sub_zero]
  exact take_rev_while g l
theorem strip_b (g : Nat → Bool) (l : List Nat) : Txt.stripBy g true true (tx l) = tx (((l.dropWhile g).reverse.dropWhile g).reverse) := by
  rw [PyProof.Rows.stripBy_eq]
  have e1 : stripLo g true (tx l) = (l.takeWhile g).length := by simp [stripLo]
  have e2 : stripHi g true (tx l) (l.takeWhile g).length = l.length - ((l.drop (l.takeWhile g).length).reverse.takeWhile g).length := by simp [stripHi, Str.length]
  rw [e1, e2, drop_take_while]
  refine TL.ext_tl ?_
  rw [TL.tl_strSub]
  show (l.drop _).take _ = _
  rw [drop_take_while]
  have h := take_rev_while g (l.dropWhile g)
  have hl : (l.dropWhile g).length = l.length - (l.takeWhile g).length := by rw [← drop_take_while, List.length_drop]
  rw [hl] at h
  rw [show l.length - ((l.dropWhile g).reverse.takeWhile g).length - (l.takeWhile g).length = l.length - (l.takeWhile g).length - ((l.dropWhile g).reverse.takeWhile g).length by omega]
  exact h
def inL (b : List Nat) (c : Nat) : Bool := decide (c ∈ b)
theorem cont_tx (b : List Nat) : (tx b).cps.contains = inL b := by
  funext c
  show b.toArray.contains c = decide (c ∈ b)
  rw [Bool.eq_iff_iff]
  simp
def lstripL (b l : List Nat) : List Nat := l.dropWhile (inL b)
def rstripL (b l : List Nat) : List Nat := (l.reverse.dropWhile (inL b)).reverse
def stripL (b l : List Nat) : List Nat := rstripL b (lstripL b l)
theorem lstrip_tx (a b : List Nat) : Txt.lstripChars (tx a) (tx b) = tx (lstripL b a) := by
  unfold Txt.lstripChars lstripL
  rw [cont_tx, strip_l]
theorem rstrip_tx (a b : List Nat) : Txt.rstripChars (tx a) (tx b) = tx (rstripL b a) := by
  unfold Txt.rstripChars rstripL
  rw [cont_tx, strip_r]
theorem strip_tx (a b : List Nat) : Txt.stripChars (tx a) (tx b) = tx (stripL b a) := by
  unfold Txt.stripChars stripL rstripL lstripL
  rw [cont_tx, strip_b]
/-- partition -/
def partL (b a : List Nat) : List Nat × List Nat × List Nat := match TL.par b [] a with
  | some (p, q) => (p, b, q)
  | none => (a, [], [])
theorem part_tx (a b : List Nat) (h : b ≠ []) : Txt.partition (tx a) (tx b) = (tx (partL b a).1, tx (partL b a).2.1, tx (partL b a).2.2) := by
  unfold partL
  cases e : TL.par b [] a with
  | none => exact SX.partition_none h e
  | some r =>
    obtain ⟨p, q⟩ := r
    exact SX.partition_some h e
/-- x.replace(c, d), one sign each -/
theorem repl_tx (a y z : List Nat) (hy : 1 ≤ y.length) : Txt.replace (tx a) (tx y) (tx z) = tx (StrLaws.replL y z a) := by
  refine TL.ext_tl ?_
  exact StrLaws.replace_list (by rw [tx_len]; exact hy)
/-! ### operations -/
section
variable {K : PySem.W.Frag} {G : List (Option Sl)} {M M1 M2 M3 : List MO} {s : Sl} {ta tb te : TE} {tr : TA} {t u : TT} {x y z : Dt} {r : R2} {b : Bool} {i j : Int} {l m : List Nat}
theorem ro_of {g : V} (h : ∀ (H : Hp) (v u : V) (K' : PySem.W.Frag) (B : Hp) (Q : VK), Rp K' B x v → Rp K' B y u → Q g H → r v u H Q) (hz : ∀ K' B, Rp K' B z g) : RO K r x y z := fun F B as M H v u Q ow r1 r2 q =>
  h H v u K B Q r1 r2 (q g B H (Gr.refl F B) ow (hz K B))
theorem ro_I0 {g : Int → Int → V} {z : Dt} (hz : ∀ K' B, Rp K' B z (g i j)) : RO K (rI0 g) (.int i) (.int j) z := ro_of (fun H v u _ _ Q h1 h2 q => ⟨i, j, h1, h2, q⟩) hz
theorem ro_I {C : Int → Int → Prop} {g : Int → Int → V} {z : Dt} (hc : C i j) (hz : ∀ K' B, Rp K' B z (g i j)) : RO K (rI C g) (.int i) (.int j) z := ro_of (fun H v u _ _ Q h1 h2 q => ⟨i, j, h1, h2, hc, q⟩) hz
theorem ro_add : RO K (rI0 fun i j => .int (i + j)) (.int i) (.int j) (.int (i + j)) := ro_I0 fun _ _ => rfl
theorem ro_sub : RO K (rI0 fun i j => .int (i - j)) (.int i) (.int j) (.int (i - j)) := ro_I0 fun _ _ => rfl
theorem ro_mul (h : CMul i j) : RO K (rI CMul fun i j => .int (i * j)) (.int i) (.int j) (.int (i * j)) := ro_I h fun _ _ => rfl
theorem ro_mulX (h : CMulX i j) : RO K (rI CMulX fun i j => .int (i * j)) (.int i) (.int j) (.int (i * j)) := ro_I h fun _ _ => rfl
theorem ro_mod (h : 0 < j) : RO K (rI (fun _ j => 0 < j) fun i j => .int (i % j)) (.int i) (.int j) (.int (i % j)) := ro_I h fun _ _ => rfl
theorem ro_fdivN (h : CDivN i j) : RO K (rI CDivN fun i j => .int (i.fdiv j)) (.int i) (.int j) (.int (i.fdiv j)) := ro_I h fun _ _ => rfl
theorem ro_pow (h : CPow i j) : RO K (rI CPow fun i j => .int (i ^ j.toNat)) (.int i) (.int j) (.int (i ^ j.toNat)) := ro_I h fun _ _ => rfl
theorem ro_lt : RO K (rI0 fun i j => .bl (decide (i < j))) (.int i) (.int j) (.bl (decide (i < j))) := ro_I0 fun _ _ => rfl
theorem ro_le : RO K (rI0 fun i j => .bl (decide (i ≤ j))) (.int i) (.int j) (.bl (decide (i ≤ j))) := ro_I0 fun _ _ => rfl
theorem ro_gt : RO K (rI0 fun i j => .bl (decide (j < i))) (.int i) (.int j) (.bl (decide (j < i))) := ro_I0 fun _ _ => rfl
theorem ro_ge : RO K (rI0 fun i j => .bl (decide (j ≤ i))) (.int i) (.int j) (.bl (decide (j ≤ i))) := ro_I0 fun _ _ => rfl
theorem ru_neg : RU K (rU fun i => .int (-i)) (.int i) (.int (-i)) := fun F B as M H v Q ow r q => ⟨i, r, q _ B H (Gr.refl F B) ow rfl⟩
/-- == of scalars -/
def scD : Dt → Dt → Option Bool
  | .int i, .int j => some (decide (i = j))
  | .str a, .str b => some (decide (a = b))
  | .bl a, .bl b => some (decide (a = b))
  | .non, .non => some true
  | .non, .str _ => some false
  | .str _, .non => some false
  | _, _ => none
theorem ro_eqS : RO K rEq (.str l) (.str m) (.bl (decide (l = m))) := fun F B as M H v u Q ow r1 r2 q => by
  subst r1; subst r2
  exact ⟨rfl, q _ B H (Gr.refl F B) ow (by rw [tx_dec] <;> rfl)⟩
theorem ro_neS : RO K rNe (.str l) (.str m) (.bl (!decide (l = m))) := fun F B as M H v u Q ow r1 r2 q => by
  subst r1; subst r2
  exact ⟨rfl, q _ B H (Gr.refl F B) ow (by rw [tx_dec] <;> rfl)⟩
theorem ro_eqI : RO K rEq (.int i) (.int j) (.bl (decide (i = j))) := fun F B as M H v u Q ow r1 r2 q => by
  subst r1; subst r2
  exact ⟨rfl, q _ B H (Gr.refl F B) ow (by
    by_cases e : i = j
    · subst e; simp [Rp]
    · rw [decide_eq_false (fun h => e (V.int.inj h)), decide_eq_false e] <;> rfl)⟩
theorem ro_neI : RO K rNe (.int i) (.int j) (.bl (!decide (i = j))) := fun F B as M H v u Q ow r1 r2 q => by
  subst r1; subst r2
  exact ⟨rfl, q _ B H (Gr.refl F B) ow (by
    by_cases e : i = j
    · subst e; simp [Rp]
    · rw [decide_eq_false (fun h => e (V.int.inj h)), decide_eq_false e] <;> rfl)⟩
/-- an optional text -/
def oS : Option (List Nat) → Dt
  | some l => .str l
  | none => .non
theorem ro_eqO {p q : Option (List Nat)} : RO K rEq (oS p) (oS q) (.bl (decide (p = q))) := fun F B as M H v u Q ow r1 r2 k => by
  cases p with
  | none =>
    cases q with
    | none =>
      have r1 : v = .non := r1
      have r2 : u = .non := r2
      subst r1; subst r2
      exact ⟨rfl, k _ B H (Gr.refl F B) ow (by simp [Rp])⟩
    | some m =>
      have r1 : v = .non := r1
      have r2 : u = .str (tx m) := r2
      subst r1; subst r2
      exact ⟨rfl, k _ B H (Gr.refl F B) ow (by simp [Rp])⟩
  | some l =>
    cases q with
    | none =>
      have r1 : v = .str (tx l) := r1
      have r2 : u = .non := r2
      subst r1; subst r2
      exact ⟨rfl, k _ B H (Gr.refl F B) ow (by simp [Rp])⟩
    | some m =>
      have r1 : v = .str (tx l) := r1
      have r2 : u = .str (tx m) := r2
      subst r1; subst r2
      refine ⟨rfl, k _ B H (Gr.refl F B) ow ?_⟩
      show V.bl _ = V.bl _
      rw [tx_dec]
      congr 1
      by_cases e : l = m
      · subst e; simp
      · simp [e]
theorem ro_neO {p q : Option (List Nat)} : RO K rNe (oS p) (oS q) (.bl (!decide (p = q))) := fun F B as M H v u Q ow r1 r2 k => by
  obtain ⟨h1, w, h2⟩ : scal v u = true ∧ True ∧ decide (v = u) = decide (p = q) := by
    have e := ro_eqO (K := K) (p := p) (q := q) F B as M H v u (fun w _ => w = .bl (decide (p = q))) ow r1 r2 (fun w B' H' g o' r' => r')
    exact ⟨e.1, trivial, V.bl.inj e.2⟩
  refine ⟨h1, k _ B H (Gr.refl F B) ow ?_⟩
  rw [h2] <;> rfl
theorem ro_isN {p : Option (List Nat)} : RO K (fun x y H Q => y = .non ∧ Q (.bl (decide (x = .non))) H) (oS p) .non (.bl (decide (p = none))) := fun F B as M H v u Q ow r1 r2 k => by
  cases p with
  | none =>
    have r1 : v = .non := r1
    subst r1
    exact ⟨r2, k _ B H (Gr.refl F B) ow (by simp [Rp])⟩
  | some l =>
    have r1 : v = .str (tx l) := r1
    subst r1
    exact ⟨r2, k _ B H (Gr.refl F B) ow (by simp [Rp])⟩
theorem ro_notN {p : Option (List Nat)} : RO K (fun x y H Q => y = .non ∧ Q (.bl (!decide (x = .non))) H) (oS p) .non (.bl (!decide (p = none))) := fun F B as M H v u Q ow r1 r2 k => by
  cases p with
  | none =>
    have r1 : v = .non := r1
    subst r1
    exact ⟨r2, k _ B H (Gr.refl F B) ow (by simp [Rp])⟩
  | some l =>
    have r1 : v = .str (tx l) := r1
    subst r1
    exact ⟨r2, k _ B H (Gr.refl F B) ow (by simp [Rp])⟩
/-- texts -/
theorem ro_addS (h : l.length + m.length ≤ 1000000) : RO K (fun x y H Q => ∃ i j, x = .str i ∧ y = .str j ∧ i.length + j.length ≤ sizeLine ∧ Q (.str (i ++ j)) H) (.str l) (.str m) (.str (l ++ m)) := fun F B as M H v u Q ow r1 r2 q =>
  ⟨tx l, tx m, r1, r2, by rw [tx_len, tx_len]; exact Nat.le_trans h (by decide), q _ B H (Gr.refl F B) ow (by rw [tx_cat] <;> rfl)⟩
theorem ro_inS : RO K (fun x y H Q => ∃ i j, x = .str i ∧ y = .str j ∧ Q (.bl (!(Builtin.Str.occurrences j i 0 j.length 1).isEmpty)) H) (.str l) (.str m) (.bl (sub l m)) := fun F B as M H v u Q ow r1 r2 q =>
  ⟨tx l, tx m, r1, r2, q _ B H (Gr.refl F B) ow (by rw [found_tx] <;> rfl)⟩
theorem ro_ninS : RO K (fun x y H Q => ∃ i j, x = .str i ∧ y = .str j ∧ Q (.bl (!(!(Builtin.Str.occurrences j i 0 j.length 1).isEmpty))) H) (.str l) (.str m) (.bl (!sub l m)) := fun F B as M H v u Q ow r1 r2 q =>
  ⟨tx l, tx m, r1, r2, q _ B H (Gr.refl F B) ow (by rw [found_tx] <;> rfl)⟩
theorem ro_leS : RO K (fun x y H Q => ∃ i j, x = .str i ∧ y = .str j ∧ Q (.bl (!decide (j.cps.toList < i.cps.toList))) H) (.str l) (.str m) (.bl (!decide (m < l))) := fun F B as M H v u Q ow r1 r2 q =>
  ⟨tx l, tx m, r1, r2, q _ B H (Gr.refl F B) ow rfl⟩
/-- x in a tuple of texts -/
theorem flat_strs : ∀ xs : List (List Nat), ((xs.map tx).map V.str).all flatV = true
  | [] => rfl
  | x :: xs => by rw [List.map_cons, List.map_cons, List.all_cons, flat_strs xs] <;> rfl
theorem inV_strs (l : List Nat) : ∀ xs : List (List Nat), inV (.str (tx l)) ((xs.map tx).map V.str) = decide (l ∈ xs)
  | [] => rfl
  | x :: xs => by
    show (eqV (.str (tx x)) (.str (tx l)) || inV (.str (tx l)) ((xs.map tx).map V.str)) = _
    rw [inV_strs l xs]
    show ((tx x == tx l) || _) = _
    by_cases e : l = x
    · subst e; simp
    · have : (tx x == tx l) = false := beq_eq_false_iff_ne.mpr fun h => e (tx_inj h).symm
      rw [this, Bool.false_or]
      simp [e]
theorem inV_non : ∀ xs : List (List Nat), inV .non ((xs.map tx).map V.str) = false
  | [] => rfl
  | x :: xs => inV_non xs
theorem ro_inT {xs : List (List Nat)} : RO K (rIn K false) (.str l) (.tup (xs.map Dt.str)) (.bl (decide (l ∈ xs))) := fun F B as M H v u Q ow r1 r2 q => by
  obtain ⟨a, vs, e, h1, h2⟩ := r2
  have e2 := h2.strs
  subst e2; subst e
  have r1 : v = .str (tx l) := r1
  subst r1
  refine ⟨a, _, rfl, .inr (same_t ow.bb h1), rfl, flat_strs xs, q _ B H (Gr.refl F B) ow ?_⟩
  show V.bl (inV _ _) = _
  rw [inV_strs]
theorem ro_ninT {xs : List (List Nat)} : RO K (rIn K true) (.str l) (.tup (xs.map Dt.str)) (.bl (!decide (l ∈ xs))) := fun F B as M H v u Q ow r1 r2 q => by
  obtain ⟨a, vs, e, h1, h2⟩ := r2
  have e2 := h2.strs
  subst e2; subst e
  have r1 : v = .str (tx l) := r1
  subst r1
  refine ⟨a, _, rfl, .inr (same_t ow.bb h1), rfl, flat_strs xs, q _ B H (Gr.refl F B) ow ?_⟩
  show V.bl (!inV _ _) = _
  rw [inV_strs]
theorem ro_inOT {p : Option (List Nat)} {xs : List (List Nat)} : RO K (rIn K false) (oS p) (.tup (xs.map Dt.str)) (.bl (decide (p ∈ xs.map some))) := by
  cases p with
  | some l =>
    have h : decide (some l ∈ xs.map some) = decide (l ∈ xs) := by simp
    rw [h]
    exact ro_inT
  | none =>
    exact fun F B as M H v u Q ow r1 r2 q => by
      obtain ⟨a, vs, e, h1, h2⟩ := r2
      have e2 := h2.strs
      subst e2; subst e
      have r1 : v = .non := r1
      subst r1
      refine ⟨a, _, rfl, .inr (same_t ow.bb h1), rfl, flat_strs xs, q _ B H (Gr.refl F B) ow ?_⟩
      show V.bl (inV _ _) = _
      rw [inV_non]
      simp
/-- slices of texts -/
theorem eo_none : EvO K tNoPart G M none M := fun F B as σ H ow sl Q q => q B as H (Gr.refl F B) (Px.refl as) ow
theorem eo_some (h : EvE K te G M (.d (.int i)) M1) : EvO K (tPart te) G M (some i) M1 := fun F B as σ H ow sl Q q =>
  h F B as σ H ow sl _ fun v B1 as1 H1 g p o r => ⟨i, r, q B1 as1 H1 g p o⟩
theorem ev_slS {tl th : TO} {lo hi : Option Int} (h : EvE K te G M (.d (.str l)) M1) (h1 : EvO K tl G M1 lo M2) (h2 : EvO K th G M2 hi M3) (hz : l.length ≤ 1000000) : EvE K (tSl rSlS te tl th) G M (.d (.str (cutL l lo hi))) M3 := fun F B as σ H ow sl Q q =>
  h F B as σ H ow sl _ fun v B1 as1 H1 g1 p1 o1 r1 => h1 F B1 as1 σ H1 o1 (sl.mono g1.1 p1) _ fun B2 as2 H2 g2 p2 o2 => h2 F B2 as2 σ H2 o2 ((sl.mono g1.1 p1).mono g2.1 p2) _ fun B3 as3 H3 g3 p3 o3 =>
    ⟨tx l, r1, by rw [tx_len]; exact Nat.le_trans hz (by decide), q _ B3 as3 H3 (g1.trans (g2.trans g3)) (p1.trans (p2.trans p3)) o3 (by rw [cutS_tx] <;> rfl)⟩
/-- methods of texts -/
theorem ev_m0 {rm : V → List V → Hp → VK → Prop} (ha : EvE K ta G M (.d (.str l)) M1) (hr : RM K rm (.str l) [] z) : EvE K (tM0 rm ta) G M (.d z) M1 := fun F B as σ H ow sl Q q =>
  ha F B as σ H ow sl _ fun v B1 as1 H1 g1 p1 o1 r1 => ⟨⟨tx l, r1⟩, hr F B1 as1 M1 H1 v [] Q o1 r1 rfl fun w B2 H2 g2 o2 r2 => q w B2 as1 H2 (g1.trans g2) p1 o2 r2⟩
theorem ev_m1 {rm : V → List V → Hp → VK → Prop} (ha : EvE K ta G M (.d (.str l)) M1) (hb : EvE K tb G M1 (.d y) M2) (hr : RM K rm (.str l) [y] z) : EvE K (tM1 rm ta tb) G M (.d z) M2 := fun F B as σ H ow sl Q q =>
  ha F B as σ H ow sl _ fun v B1 as1 H1 g1 p1 o1 r1 => ⟨⟨tx l, r1⟩, hb F B1 as1 σ H1 o1 (sl.mono g1.1 p1) _ fun u B2 as2 H2 g2 p2 o2 r2 =>
    hr F B2 as2 M2 H2 v [u] Q o2 (Rp.mono g2.1 _ _ r1) (RpL.one r2) fun w B3 H3 g3 o3 r3 => q w B3 as2 H3 (g1.trans (g2.trans g3)) (p1.trans p2) o3 r3⟩
theorem two_str {K : PySem.W.Frag} {B : Hp} {m : List Nat} {vs : List V} (h : RpL K B [.str m] vs) : vs = [.str (tx m)] := by
  obtain ⟨v, r, e, h1, h2⟩ := h
  rw [e, show v = _ from h1, show r = [] from h2]
theorem rm_starts : RM K (fun x xs H Q => ∃ a b, x = .str a ∧ xs = [.str b] ∧ Q (.bl (Txt.startswith a b)) H) (.str l) [.str m] (.bl (pre m l)) := fun F B as M H v vs Q ow r1 r2 q =>
  ⟨tx l, tx m, r1, two_str r2, q _ B H (Gr.refl F B) ow (by rw [starts_tx] <;> rfl)⟩
theorem rm_lstrip (h : l.length ≤ 1000000) : RM K (fun x xs H Q => ∃ a b, x = .str a ∧ xs = [.str b] ∧ a.length ≤ sizeLine ∧ Q (.str (Txt.lstripChars a b)) H) (.str l) [.str m] (.str (lstripL m l)) := fun F B as M H v vs Q ow r1 r2 q =>
  ⟨tx l, tx m, r1, two_str r2, by rw [tx_len]; exact Nat.le_trans h (by decide), q _ B H (Gr.refl F B) ow (by rw [lstrip_tx] <;> rfl)⟩
theorem rm_rstrip (h : l.length ≤ 1000000) : RM K (fun x xs H Q => ∃ a b, x = .str a ∧ xs = [.str b] ∧ a.length ≤ sizeLine ∧ Q (.str (Txt.rstripChars a b)) H) (.str l) [.str m] (.str (rstripL m l)) := fun F B as M H v vs Q ow r1 r2 q =>
  ⟨tx l, tx m, r1, two_str r2, by rw [tx_len]; exact Nat.le_trans h (by decide), q _ B H (Gr.refl F B) ow (by rw [rstrip_tx] <;> rfl)⟩
theorem rm_strip (h : l.length ≤ 1000000) : RM K (fun x xs H Q => ∃ a b, x = .str a ∧ xs = [.str b] ∧ a.length ≤ sizeLine ∧ Q (.str (Txt.stripChars a b)) H) (.str l) [.str m] (.str (stripL m l)) := fun F B as M H v vs Q ow r1 r2 q =>
  ⟨tx l, tx m, r1, two_str r2, by rw [tx_len]; exact Nat.le_trans h (by decide), q _ B H (Gr.refl F B) ow (by rw [strip_tx] <;> rfl)⟩
theorem rm_upper (h : l.length ≤ 1000000) (ha : l.all (· < 128) = true) : RM K (fun x xs H Q => ∃ a, x = .str a ∧ xs = [] ∧ a.length ≤ 5592405 ∧ Q (.str (Txt.upper a)) H) (.str l) [] (.str (l.map PyProof.Rows.up1)) := fun F B as M H v vs Q ow r1 r2 q =>
  ⟨tx l, r1, r2, by rw [tx_len]; exact Nat.le_trans h (by decide), q _ B H (Gr.refl F B) ow (by show V.str _ = V.str _; congr 1; exact SX.upper_S ha)⟩
theorem rm_part (h : l.length ≤ 1000000) (hm : m ≠ []) : RM K (fun x xs H Q => ∃ a b, x = .str a ∧ xs = [.str b] ∧ (b.length == 0) = false ∧ a.length ≤ sizeLine ∧
    ∀ p, H p = none → Q (.ref p) (upd H p (.tup [.str (Txt.partition a b).1, .str (Txt.partition a b).2.1, .str (Txt.partition a b).2.2]))) (.str l) [.str m] (.tup [.str (partL m l).1, .str (partL m l).2.1, .str (partL m l).2.2]) := fun F B as M H v vs Q ow r1 r2 q =>
  ⟨tx l, tx m, r1, two_str r2, by rw [tx_len]; exact beq_eq_false_iff_ne.mpr (fun e => hm (List.length_eq_zero_iff.mp e)), by rw [tx_len]; exact Nat.le_trans h (by decide), fun p hp => by
    rw [part_tx l m hm]
    exact q _ _ _ (ow.gr hp _) (ow.new hp _) ⟨p, _, rfl, .inl (.inl upd_same), _, _, rfl, rfl, _, _, rfl, rfl, _, _, rfl, rfl, rfl⟩⟩
theorem sum_lens (xs : List (List Nat)) : ((xs.map tx).map (·.length)).sum = (xs.map (·.length)).sum := by
  rw [List.map_map]
  congr 1
theorem rm_join {xs : List (List Nat)} (h : (xs.map (·.length)).sum + xs.length * l.length ≤ 1000000) : RM K (fun x xs H Q => ∃ a p, ∃ ys : List Str, x = .str a ∧ xs = [.ref p] ∧ (SqL K H p (ys.map V.str) ∨ SqT K H p (ys.map V.str)) ∧
    (ys.map (·.length)).sum + ys.length * a.length ≤ 16777216 ∧ Q (.str (Txt.join a ys)) H) (.str l) [.lst (xs.map Dt.str)] (.str (TL.joinL l xs)) := fun F B as M H v vs Q ow r1 r2 q => by
  obtain ⟨v1, rr, e, h1, h2⟩ := r2
  obtain ⟨a, us, e1, h3, h4⟩ := h1
  have e2 := h4.strs
  subst e2; subst e1
  have h2 : rr = [] := h2
  subst h2
  refine ⟨tx l, a, xs.map tx, r1, e, .inl (ow.bb.seq h3), ?_, q _ B H (Gr.refl F B) ow ?_⟩
  · rw [sum_lens, List.length_map, tx_len]
    exact Nat.le_trans h (by decide)
  · show V.str _ = V.str _
    congr 1
    exact SX.join_S l xs
/-- calls of built-ins -/
theorem rc_lenS (h : l.length ≤ 1000000) : RC K (fun xs H Q => ∃ z, xs = [.str z] ∧ z.length ≤ sizeLine ∧ Q (.int z.length) H) [.str l] (.int (l.length : Nat)) := fun F B as M H vs Q ow r q =>
  ⟨tx l, two_str r, by rw [tx_len]; exact Nat.le_trans h (by decide), q _ B H (Gr.refl F B) ow (by rw [tx_len] <;> rfl)⟩
theorem rc_lenL {xs : List Dt} : RC K (fun xs H Q => ∃ p ys, xs = [.ref p] ∧ (SqL K H p ys ∨ SqT K H p ys) ∧ Q (.int ys.length) H) [.lst xs] (.int (xs.length : Nat)) := fun F B as M H vs Q ow r q => by
  obtain ⟨v1, rr, e, h1, h2⟩ := r
  obtain ⟨a, us, e1, h3, h4⟩ := h1
  have h2 : rr = [] := h2
  subst h2; subst e1
  exact ⟨a, us, e, .inl (ow.bb.seq h3), q _ B H (Gr.refl F B) ow (by rw [h4.len] <;> rfl)⟩
theorem rc_lenT {xs : List Dt} : RC K (fun xs H Q => ∃ p ys, xs = [.ref p] ∧ (SqL K H p ys ∨ SqT K H p ys) ∧ Q (.int ys.length) H) [.tup xs] (.int (xs.length : Nat)) := fun F B as M H vs Q ow r q => by
  obtain ⟨v1, rr, e, h1, h2⟩ := r
  obtain ⟨a, us, e1, h3, h4⟩ := h1
  have h2 : rr = [] := h2
  subst h2; subst e1
  exact ⟨a, us, e, .inr (same_t ow.bb h3), q _ B H (Gr.refl F B) ow (by rw [h4.len] <;> rfl)⟩
theorem one_int {K : PySem.W.Frag} {B : Hp} {i : Int} {vs : List V} (h : RpL K B [.int i] vs) : vs = [.int i] := by
  obtain ⟨v, r, e, h1, h2⟩ := h
  rw [e, show v = _ from h1, show r = [] from h2]
theorem two_int {K : PySem.W.Frag} {B : Hp} {i j : Int} {vs : List V} (h : RpL K B [.int i, .int j] vs) : vs = [.int i, .int j] := by
  obtain ⟨v, r, e, h1, w, r2, e2, h2, h3⟩ := h
  rw [e, e2, show v = _ from h1, show w = _ from h2, show r2 = [] from h3]
theorem rc_int1 : RC K (fun xs H Q => (∃ i, xs = [.int i] ∧ Q (.int i) H) ∨ ∃ k, xs = [.bl k] ∧ Q (.int (if k then 1 else 0)) H) [.int i] (.int i) := fun F B as M H vs Q ow r q =>
  .inl ⟨i, one_int r, q _ B H (Gr.refl F B) ow rfl⟩
theorem rc_intB : RC K (fun xs H Q => (∃ i, xs = [.int i] ∧ Q (.int i) H) ∨ ∃ k, xs = [.bl k] ∧ Q (.int (if k then 1 else 0)) H) [.bl b] (.int (if b then 1 else 0)) := fun F B as M H vs Q ow r q =>
  .inr ⟨b, by
    obtain ⟨v, r, e, h1, h2⟩ := r
    rw [e, show v = _ from h1, show r = [] from h2], q _ B H (Gr.refl F B) ow rfl⟩
theorem rc_abs : RC K (fun xs H Q => ∃ i, xs = [.int i] ∧ Q (.int (if i < 0 then -i else i)) H) [.int i] (.int (if i < 0 then -i else i)) := fun F B as M H vs Q ow r q => ⟨i, one_int r, q _ B H (Gr.refl F B) ow rfl⟩
theorem rc_max2 : RC K (fun xs H Q => ∃ i j, xs = [.int i, .int j] ∧ Q (.int (if j > i then j else i)) H) [.int i, .int j] (.int (if j > i then j else i)) := fun F B as M H vs Q ow r q => ⟨i, j, two_int r, q _ B H (Gr.refl F B) ow rfl⟩
theorem rc_min2 : RC K (fun xs H Q => ∃ i j, xs = [.int i, .int j] ∧ Q (.int (if j < i then j else i)) H) [.int i, .int j] (.int (if j < i then j else i)) := fun F B as M H vs Q ow r q => ⟨i, j, two_int r, q _ B H (Gr.refl F B) ow rfl⟩
theorem rc_all {bs : List Bool} : RC K (rAll K) [.lst (bs.map Dt.bl)] (.bl (bs.all id)) := fun F B as M H vs Q ow r q => by
  obtain ⟨v1, rr, e, h1, h2⟩ := r
  obtain ⟨a, us, e1, h3, h4⟩ := h1
  have e2 := h4.bls
  have h2 : rr = [] := h2
  subst h2; subst e2; subst e1
  exact ⟨a, bs, e, ow.bb.seq h3, q _ B H (Gr.refl F B) ow rfl⟩
theorem rc_any {bs : List Bool} : RC K (rAny K) [.lst (bs.map Dt.bl)] (.bl (bs.any id)) := fun F B as M H vs Q ow r q => by
  obtain ⟨v1, rr, e, h1, h2⟩ := r
  obtain ⟨a, us, e1, h3, h4⟩ := h1
  have e2 := h4.bls
  have h2 : rr = [] := h2
  subst h2; subst e2; subst e1
  exact ⟨a, bs, e, ow.bb.seq h3, q _ B H (Gr.refl F B) ow rfl⟩
/-- items -/
theorem at_rp {K : PySem.W.Frag} {B : Hp} {xs : List Dt} {vs : List V} {i : Int} (r : RpL K B xs vs) (h : atI xs i = some x) : ∃ v, atI vs i = some v ∧ Rp K B x v := by
  unfold atI at h ⊢
  rw [r.len]
  cases e : ixN xs.length i with
  | none => rw [e] at h; cases h
  | some j =>
    rw [e] at h
    exact r.get h
theorem ro_ixL {xs : List Dt} (h : atI xs i = some x) : RO K (rIxL K) (.lst xs) (.int i) x := fun F B as M H v u Q ow r1 r2 q => by
  obtain ⟨a, us, e1, h3, h4⟩ := r1
  obtain ⟨w, hw, hr⟩ := at_rp h4 h
  exact ⟨a, us, i, w, e1, r2, ow.bb.seq h3, hw, q w B H (Gr.refl F B) ow hr⟩
theorem ro_ixT {xs : List Dt} (h : atI xs i = some x) : RO K (rIxT K) (.tup xs) (.int i) x := fun F B as M H v u Q ow r1 r2 q => by
  obtain ⟨a, us, e1, h3, h4⟩ := r1
  obtain ⟨w, hw, hr⟩ := at_rp h4 h
  exact ⟨a, us, i, w, e1, r2, same_t ow.bb h3, hw, q w B H (Gr.refl F B) ow hr⟩
theorem ro_ixS {c : Nat} (hl : l.length ≤ 1000000) (h : atI l i = some c) : RO K rIxS (.str l) (.int i) (.str [c]) := fun F B as M H v u Q ow r1 r2 q =>
  ⟨tx l, i, c, r1, r2, by rw [tx_len]; exact Nat.le_trans hl (by decide), h, q _ B H (Gr.refl F B) ow rfl⟩
/-- of what is owned -/
theorem ev_ixO {k : Nat} {xs : List Dt} (ha : EvE K ta G M (.o k) M1) (hb : EvE K tb G M1 (.d (.int i)) M2) (hm : M2[k]? = some (.lst xs)) (h : atI xs i = some x) : EvE K (tOp (rIxL K) ta tb) G M (.d x) M2 := fun F B as σ H ow sl Q q =>
  ha F B as σ H ow sl _ fun v B1 as1 H1 g1 p1 o1 r1 => hb F B1 as1 σ H1 o1 (sl.mono g1.1 p1) _ fun u B2 as2 H2 g2 p2 o2 r2 => by
    obtain ⟨a, ha, rfl⟩ := r1
    obtain ⟨_, _, vs, hv, hr⟩ := o2.own k a _ (p2.get ha) hm (fun z => nomatch z)
    obtain ⟨w, hw, hx⟩ := at_rp hr h
    exact ⟨a, vs, i, w, rfl, r2, .inl (.inl hv), hw, q w B2 as2 H2 (g1.trans g2) (p1.trans p2) o2 hx⟩
theorem ev_lenO {k : Nat} {xs : List Dt} (ha : EvE K ta G M (.o k) M1) (hm : M1[k]? = some (.lst xs)) : EvE K (tCB (fun xs H Q => ∃ p ys, xs = [.ref p] ∧ (SqL K H p ys ∨ SqT K H p ys) ∧ Q (.int ys.length) H) (tCons ta tNil)) G M (.d (.int (xs.length : Nat))) M1 := fun F B as σ H ow sl Q q =>
  ha F B as σ H ow sl _ fun v B1 as1 H1 g1 p1 o1 r1 => by
    obtain ⟨a, ha, rfl⟩ := r1
    obtain ⟨_, _, vs, hv, hr⟩ := o1.own k a _ ha hm (fun z => nomatch z)
    exact ⟨a, vs, rfl, .inl (.inl (.inl hv)), q _ B1 as1 H1 g1 p1 o1 (by rw [hr.len] <;> rfl)⟩
theorem es_setO {to ti : TE} {k j : Nat} {xs : List Dt} (h : EvE K te G M (.d x) M1) (ho : EvE K to G M1 (.o k) M2) (hi : EvE K ti G M2 (.d (.int i)) M3) (hm : M3[k]? = some (.lst xs)) (hj : ixN xs.length i = some j) :
    EvS K (tAsg te (gSub to ti rSetL)) G M (.nx G (M3.set k (.lst (xs.set j x)))) := fun F B as σ H ow sl D gd =>
  h F B as σ H ow sl _ fun v B1 as1 H1 g1 p1 o1 r1 => ho F B1 as1 σ H1 o1 (sl.mono g1.1 p1) _ fun w B2 as2 H2 g2 p2 o2 r2 => hi F B2 as2 σ H2 o2 ((sl.mono g1.1 p1).mono g2.1 p2) _ fun u B3 as3 H3 g3 p3 o3 r3 => by
    obtain ⟨a, ha, rfl⟩ := r2
    have ha := p3.get ha
    obtain ⟨_, _, vs, hv, hr⟩ := o3.own k a _ ha hm (fun z => nomatch z)
    refine ⟨a, vs, i, j, rfl, r3, hv, by rw [hr.len]; exact hj, gd B3 as3 σ _ (g1.trans (g2.trans g3)) (p1.trans (p2.trans p3)) (o3.put ha hm (fun z => nomatch z) ⟨_, upd_same, RpL.set (Rp.mono (g2.1.trans g3.1) _ _ r1) j hr⟩) (((sl.mono g1.1 p1).mono g2.1 p2).mono g3.1 p3)⟩
theorem es_appO {to : TE} {k : Nat} {xs : List Dt} (ho : EvE K to G M (.o k) M1) (h : EvE K te G M1 (.d x) M2) (hk : ∃ ys, M1[k]? = some (.lst ys)) (hm : M2[k]? = some (.lst xs)) (hz : xs.length < 1000000) :
    EvS K (tDrop (tBM K "list" rAppend to (tCons te tNil))) G M (.nx G (M2.set k (.lst (xs ++ [x])))) := fun F B as σ H ow sl D gd =>
  ho F B as σ H ow sl _ fun w B1 as1 H1 g1 p1 o1 r1 => by
    obtain ⟨a, ha, rfl⟩ := r1
    obtain ⟨ys, hy⟩ := hk
    obtain ⟨_, _, vs1, hv1, _⟩ := o1.own k a _ ha hy (fun z => nomatch z)
    refine ⟨.inl ⟨rfl, vs1, .inl (.inl hv1)⟩, h F B1 as1 σ H1 o1 (sl.mono g1.1 p1) _ fun v B2 as2 H2 g2 p2 o2 r2 => ?_⟩
    have ha := p2.get ha
    obtain ⟨_, _, vs, hv, hr⟩ := o2.own k a _ ha hm (fun z => nomatch z)
    refine ⟨a, vs, v, rfl, rfl, hv, by rw [hr.len]; exact Nat.lt_trans hz (by decide), gd B2 as2 σ _ (g1.trans g2) (p1.trans p2) (o2.put ha hm (fun z => nomatch z) ⟨_, upd_same, RpL.append hr (RpL.one r2)⟩) ((sl.mono g1.1 p1).mono g2.1 p2)⟩
end
end DJ
namespace DJ
open PySem PySem.Spec PyProof.Rows L2
/-! ### defs of the text, what they promise -/
structure Df (K : PySem.W.Frag) (mg : Str → Option Value) (x : Str) (st : Stmt) (ps : List Str) : Prop where
  ex : ∃ (f : Addr) (fd : FuncData), L2.Fun K x x st f fd ∧ mg x = some (.ref f) ∧ Binds K fd ps []
structure Cal (P : Program) (w : World) (K : PySem.W.Frag) (mg : Str → Option Value) (base : Heap) (k : Nat) (x : Str) (sp : Sp) (dvs : List V) : Prop where
  ex : ∃ (f : Addr) (fd : FuncData) (ps : List Str) (ds : List Value), FnOk P w K mg base CX0 k f fd ps sp ∧ mg x = some (.ref f) ∧ PySem.W.keepIn K (.ref f) = true ∧ Binds K fd ps ds ∧ Vals dvs ds
/-- a module's constant -/
structure Gc (K : PySem.W.Frag) (mg : Str → Option Value) (x : Str) (d : Dt) : Prop where
  ex : ∃ (v : V) (u : Value), mg x = some u ∧ RelV v u ∧ ∀ B, Rp K B d v
section
variable {P : Program} {w : World} {K : PySem.W.Frag} {mg : Str → Option Value} {base : Heap}
theorem cal_mk {x : Str} {st : Stmt} {N ps : List Str} {k n : Nat} {R : List Sl → List MO → Sl → List MO → Prop} (D : Df K mg x st ps) (S : FnScope N ps (defScope st)) (hn : ps.length = n)
    (hb : ∀ (f : Addr) (cdv : Value) (A : Around) (outer : List Env) (s : Shared) (H : Hp) (E : XK), Room k (A.deeper (envOfC x (defScope st) s.heap.objs.size f cdv)) → ∀ ss M r M', R ss M r M' →
      ∃ t X, PSs (cxOf CX0 P w K mg base N x (defScope st) f cdv A outer s H E).nox (defBody st) t ∧ EvS K t (start N.length ss) M (.rt r (M' ++ X)) ∧ M.length ≤ M'.length ∧ ∀ j, r = .o j → j < M'.length) :
    Cal P w K mg base (k + 1) x (SpR K n R) [] := by
  obtain ⟨f, fd, F, hm, b⟩ := D.ex
  refine ⟨f, fd, ps, [], F.ok S (fun vs H Q E h => ?_) (fun cdv A outer s H vs Q E hr h => ?_), hm, F.kp, b, .nil⟩
  · obtain ⟨_, _, _, _, _, _, _, _, _, _, e, _⟩ := h
    rw [e, hn]
  · obtain ⟨F', B, as, ss, M, r, M', hR, ow, sl, _, q⟩ := h
    obtain ⟨t, X, ht, he, hl, hr'⟩ := hb f cdv A outer s H E hr ss M r M' hR
    exact ⟨t, ht, run_body (X := X) he hl hr' ow sl q⟩
/-- .. of a body that comes to its end, or where a token must be out -/
theorem cal_mkN {x : Str} {st : Stmt} {N ps : List Str} {k n : Nat} {R : List Sl → List MO → Sl → List MO → Prop} (D : Df K mg x st ps) (S : FnScope N ps (defScope st)) (hn : ps.length = n)
    (hb : ∀ (f : Addr) (cdv : Value) (A : Around) (outer : List Env) (s : Shared) (H : Hp) (E : XK), Room k (A.deeper (envOfC x (defScope st) s.heap.objs.size f cdv)) → ∀ ss M r M', R ss M r M' →
      ∃ t X G1, PSs (cxOf CX0 P w K mg base N x (defScope st) f cdv A outer s H E).nox (defBody st) t ∧ EvS K t (start N.length ss) M (.nx G1 (M' ++ X)) ∧ M.length ≤ M'.length ∧ r = .d .non) :
    Cal P w K mg base (k + 1) x (SpR K n R) [] := by
  obtain ⟨f, fd, F, hm, b⟩ := D.ex
  refine ⟨f, fd, ps, [], F.ok S (fun vs H Q E h => ?_) (fun cdv A outer s H vs Q E hr h => ?_), hm, F.kp, b, .nil⟩
  · obtain ⟨_, _, _, _, _, _, _, _, _, _, e, _⟩ := h
    rw [e, hn]
  · obtain ⟨F', B, as, ss, M, r, M', hR, ow, sl, _, q⟩ := h
    obtain ⟨t, X, G1, ht, he, hl, hr'⟩ := hb f cdv A outer s H E hr ss M r M' hR
    subst hr'
    exact ⟨t, ht, run_bodyN (X := X) he hl ow sl q⟩
theorem cal_mkT {x : Str} {st : Stmt} {N ps : List Str} {k n : Nat} {R : List Sl → List MO → Sl → List MO → Prop} (D : Df K mg x st ps) (S : FnScope N ps (defScope st)) (hn : ps.length = n) (hnc : ∀ y ∈ (defScope st).names, y.2 ≠ .cell) (h1 : 1 ≤ ps.length)
    (hb : ∀ (f : Addr) (cdv : Value) (A : Around) (outer : List Env) (s : Shared) (H : Hp) (E : XK), Room k (A.deeper (envOfC x (defScope st) s.heap.objs.size f cdv)) → ∀ ss M r M', R ss M r M' →
      ∃ t X, PSsT (cxOf CX0 P w K mg base N x (defScope st) f cdv A outer s H E) (defBody st) t ∧ EvS K t (start N.length ss) M (.rt r (M' ++ X)) ∧ M.length ≤ M'.length ∧ ∀ j, r = .o j → j < M'.length) :
    Cal P w K mg base (k + 1) x (SpR K n R) [] := by
  obtain ⟨f, fd, F, hm, b⟩ := D.ex
  obtain ⟨oc, od, kV, doc, pm, an, cdv, ct, osl, rfl, lk, hcd⟩ := F.ex
  refine ⟨f, _, ps, [], fn_ofT lk hcd S hnc h1 (fun vs H Q E h => ?_) (fun A outer s H vs Q E hr h => ?_), hm, F.kp, b, .nil⟩
  · obtain ⟨_, _, _, _, _, _, _, _, _, _, e, _⟩ := h
    rw [e, hn]
  · obtain ⟨F', B, as, ss, M, r, M', hR, ow, sl, _, q⟩ := h
    obtain ⟨t, X, ht, he, hl, hr'⟩ := hb f cdv A outer s H E hr ss M r M' hR
    exact ⟨t, ht, run_body (X := X) he hl hr' ow sl q⟩
end
section
variable {X : Cx} {k j : Nat} {x : Str} {sp : Sp} {dvs : List V} {p pos apos : Pos} {e o : Expr} {es : List Expr} {ta te to : TE} {t : TA}
theorem pe_c (c : Cal X.prog X.w X.K X.mg X.base k x sp dvs) (hr : Room j X.A) (hk : k ≤ j) (hg : Gl X x) (ha : PA X (e :: es) t)
    (hdb : (x == ("__debug__" : Str)) = false := by decide) (he : starEach (e :: es) X.env = (false, eval e X.env) :: starEach es X.env := by rfl) (hpl : (backTo pos (starEach es X.env)).any (·.1) = false := by rfl) :
    PE X (.Call (.Name x p) (e :: es) [] pos) (tCall sp dvs L2.E0 t) := by
  obtain ⟨f, fd, ps, ds, F, hm, kp, b, d⟩ := c.ex
  exact pe_call F (hr.mono hk) hg hm kp b d L2.pass0 ha hdb he hpl
theorem pe_c0 (c : Cal X.prog X.w X.K X.mg X.base k x sp dvs) (hr : Room j X.A) (hk : k ≤ j) (hg : Gl X x) (hdb : (x == ("__debug__" : Str)) = false := by decide) : PE X (.Call (.Name x p) [] [] pos) (tCall sp dvs L2.E0 tNil) := by
  obtain ⟨f, fd, ps, ds, F, hm, kp, b, d⟩ := c.ex
  exact pe_call0 F (hr.mono hk) hg hm kp b d L2.pass0 hdb
/-- a token is out: e.replace(y, z), and what stands around it -/
theorem pet_m1 {id : String} {name : Str} {r : V → List V → Hp → VK → Prop} (slot : Slot "str" name id) (ty : typeOf (.builtin id) = pure (.type "method_descriptor")) (rule : MtR X id r) (ho : PET X o to) (he : PE X e te)
    (hs : starEach [e] X.env = [(false, eval e X.env)] := by rfl) (hbase : attributeBase o name X.env (eval o X.env) = eval o X.env := by rfl) (hline : (apos.endLine == pos.line) = true := by rfl) :
    PET X (.Call (.Attribute o name apos) [e] [] pos) (tM1 r to te) := by
  intro pins s σ H Q h0 I h
  refine PySem.Call_method1 hbase hs hline (thn (ho pins s σ H _ h0 I h) fun v s1 ⟨x, H1, I1, r1, q1⟩ => ?_)
  obtain ⟨⟨a, rfl⟩, q1⟩ := q1
  obtain ⟨t, rfl⟩ := _root_.id r1
  refine ⟨"str", _, F.plainAttrs_str, slot, ty, typeIs_str _ _ _, (fun _ e => nomatch e), Calls.callWith_builtin rfl (Calls.evalArgs_plain (Calls.spliced_cons ?_))⟩
  exact thn (he.run pins s1 σ H1 _ I1 q1) fun u s2 ⟨y, H2, I2, r2, q2⟩ => Calls.spliced_nil (rule pins s2 σ H2 _ [y] _ [u] Q I2 r1 (.cons r2 .nil) q2)
theorem pst_asg {target : Expr} {g : TG} (he : PET X e te) (hg : PG X target g) (hs : swapsWithSole [target] e pos.line X.env = pure false := by rfl) (hw : swappedStores [target] e X.env = pure none := by rfl)
    (h1 : (assignEach [target] X.env).map (·.2) = [assign target X.env] := by rfl) : PST X (.Assign [target] e pos) (tAsg te g) := fun pins s σ H D h0 I h =>
  wpAny_Assign_stores (thn (he pins s σ H _ h0 I h) fun v s1 ⟨x, H1, I1, r1, q1⟩ => by
    rw [h1]
    exact thn (hg.run pins s1 σ H1 x v _ I1 r1 q1) fun _ s2 q => q) hs hw
end
/-! ### comprehensions of typed things -/
theorem mapS_map {β : Type} (f : β → Dt) : ∀ (xs : List β) (m : Unit), (mapS (fun (_ : Unit) x => some (f x, ())) (fun m _ => m) xs m).1 = xs.map f
  | [], _ => rfl
  | x :: xs, m => by
    simp only [mapS, List.map_cons]
    rw [mapS_map f xs]
theorem mapS_filter {β : Type} (p : β → Bool) (f : β → Dt) : ∀ (xs : List β) (m : Unit), (mapS (fun (_ : Unit) x => if p x = true then some (f x, ()) else none) (fun m _ => m) xs m).1 = (xs.filter p).map f
  | [], _ => rfl
  | x :: xs, m => by
    simp only [mapS]
    cases h : p x with
    | true => simp [h, mapS_filter p f xs]
    | false => simp [h, mapS_filter p f xs]
/-- a mapping that hands a state on -/
def mapA {μ β γ : Type} (f : μ → β → γ × μ) : List β → μ → List γ × μ
  | [], m => ([], m)
  | x :: xs, m => ((f m x).1 :: (mapA f xs (f m x).2).1, (mapA f xs (f m x).2).2)
theorem mapS_acc {μ β γ : Type} (en : γ → Dt) (f : μ → β → γ × μ) : ∀ (xs : List β) (m : μ), mapS (fun m x => some (en (f m x).1, (f m x).2)) (fun m _ => m) xs m = ((mapA f xs m).1.map en, (mapA f xs m).2)
  | [], _ => rfl
  | x :: xs, m => by
    simp only [mapS, mapA, List.map_cons]
    rw [mapS_acc en f xs]
section
variable {K : PySem.W.Frag} {G G1 : List (Option Sl)} {M : List MO} {te : TE}
theorem et_yes : EvT K tYes G M true M := fun F B as σ H ow sl Q q => q B as H (Gr.refl F B) (Px.refl as) ow
theorem ev_lcM {β : Type} {wi : TI} {g : TG} {vs : List Nat} (xs : List β) (en f : β → Dt) (hI : EvI K wi G M (xs.map en) M) (hx : xs.length ≤ 100000)
    (hw : ∀ v σ H Q, g v (wipe σ vs) H (fun σ2 H2 => wipe σ2 vs = wipe σ vs → Q σ2 H2) → g v (wipe σ vs) H Q) (turn : ∀ x, x ∈ xs → ∃ G1, EvG K g (wipeG G vs) (.d (en x)) G1 ∧ EvE K te G1 M (.d (f x)) M) :
    EvE K (tLc wi g tYes te vs) G M (.d (.lst (xs.map f))) M := by
  rw [← mapS_map f xs ()]
  exact ev_lc xs en (fun _ => M) (fun (_ : Unit) x => some (f x, ())) (fun m _ => m) () hI hx hw fun m x hm => by
    obtain ⟨G1, h1, h2⟩ := turn x hm
    exact ⟨G1, h1, M, et_yes, h2⟩
theorem ev_lcF {β : Type} {wi : TI} {g : TG} {tt : TT} {vs : List Nat} (xs : List β) (en f : β → Dt) (p : β → Bool) (hI : EvI K wi G M (xs.map en) M) (hx : xs.length ≤ 100000)
    (hw : ∀ v σ H Q, g v (wipe σ vs) H (fun σ2 H2 => wipe σ2 vs = wipe σ vs → Q σ2 H2) → g v (wipe σ vs) H Q) (turn : ∀ x, x ∈ xs → ∃ G1, EvG K g (wipeG G vs) (.d (en x)) G1 ∧ EvT K tt G1 M (p x) M ∧ (p x = true → EvE K te G1 M (.d (f x)) M)) :
    EvE K (tLc wi g tt te vs) G M (.d (.lst ((xs.filter p).map f))) M := by
  rw [← mapS_filter p f xs ()]
  exact ev_lc xs en (fun _ => M) (fun (_ : Unit) x => if p x = true then some (f x, ()) else none) (fun m _ => m) () hI hx hw fun m x hm => by
    obtain ⟨G1, h1, h2, h3⟩ := turn x hm
    refine ⟨G1, h1, ?_⟩
    cases e : p x with
    | true => rw [e] at h2; exact ⟨M, h2, h3 e⟩
    | false => rw [e] at h2; exact h2
theorem ev_lcA {μ β γ : Type} {wi : TI} {g : TG} {vs : List Nat} (xs : List β) (en : β → Dt) (ec : γ → Dt) (encM : μ → List MO) (f : μ → β → γ × μ) (m0 : μ) (hI : EvI K wi G M (xs.map en) (encM m0)) (hx : xs.length ≤ 100000)
    (hw : ∀ v σ H Q, g v (wipe σ vs) H (fun σ2 H2 => wipe σ2 vs = wipe σ vs → Q σ2 H2) → g v (wipe σ vs) H Q) (turn : ∀ m x, x ∈ xs → ∃ G1, EvG K g (wipeG G vs) (.d (en x)) G1 ∧ EvE K te G1 (encM m) (.d (ec (f m x).1)) (encM (f m x).2)) :
    EvE K (tLc wi g tYes te vs) G M (.d (.lst ((mapA f xs m0).1.map ec))) (encM (mapA f xs m0).2) := by
  have h := ev_lc (te := te) xs en encM (fun m x => some (ec (f m x).1, (f m x).2)) (fun m _ => m) m0 hI hx hw fun m x hm => by
    obtain ⟨G1, h1, h2⟩ := turn m x hm
    exact ⟨G1, h1, encM m, et_yes, h2⟩
  rw [mapS_acc] at h
  exact h
end
/-! ### walks by a step, truth of numbers -/
section
variable {K : PySem.W.Frag} {B : Hp} {G G1 : List (Option Sl)} {M M1 M2 : List MO} {te ta tb : TE} {i j : Int} {l m : List Nat} {b : Bool} {x z : Dt}
theorem yl_step {lo c : Int} {n : Nat} : Yl K B (Itc lo c n) ((List.range n).map fun (i : Nat) => .int (lo + (i : Nat) * c)) := fun F B' as M H i e ow => by
  refine ⟨fun x hx => ?_, fun hi => ?_⟩
  · rw [List.getElem?_map] at hx
    by_cases hi : i < n
    · rw [List.getElem?_range hi] at hx
      have hx : Dt.int (lo + (i : Nat) * c) = x := Option.some.inj hx
      subst hx
      refine ⟨hi, fun v H' y => ?_⟩
      obtain ⟨rfl, rfl⟩ := y
      exact ⟨B', Gr.refl F B', ow, rfl⟩
    · rw [List.getElem?_eq_none (by rw [List.length_range]; omega)] at hx
      cases hx
  · rw [List.length_map, List.length_range] at hi
    exact hi
theorem ei_rng3 {t : TA} {c : Int} {n : Nat} (h : EvA K t G M [.d (.int i), .d (.int j), .d (.int c)] M1) (hn : RgC i j c n) : EvI K (iRng3 t) G M ((List.range n).map fun (k : Nat) => .int (i + (k : Nat) * c)) M1 := fun F B as σ H ow sl R q =>
  h F B as σ H ow sl _ fun vs B' as' H' g p o' r => by
    obtain ⟨v, r1, e1, h1, w, r2, e2, h2, u, r3, e3, h3, e4⟩ := r
    have e4 : r3 = [] := e4
    have h1 : v = V.int i := h1
    have h2 : w = V.int j := h2
    have h3 : u = V.int c := h3
    subst e4; subst e3; subst e2; subst e1; subst h1; subst h2; subst h3
    exact ⟨i, j, c, n, rfl, hn, q _ B' as' H' g p o' yl_step⟩
theorem et_int (h : EvE K te G M (.d (.int i)) M1) : EvT K (fun σ H Q => te σ H fun x H' => ∃ k, TruV K x H' k ∧ Q k H') G M (i != 0) M1 := fun F B as σ H ow sl Q q =>
  h F B as σ H ow sl _ fun v B1 as1 H1 g p o r => by
    have r : v = .int i := r
    subst r
    exact ⟨_, rfl, q B1 as1 H1 g p o⟩
/-- numbers and texts -/
theorem rc_str (h : i.natAbs.log2 < 1920) (h0 : 0 ≤ i) : RC K (fun xs H Q => ∃ i, xs = [.int i] ∧ i.natAbs.log2 < 1920 ∧ Q (.str (toString i)) H) [.int i] (.str (TL.numL i.toNat)) := fun F B as M H vs Q ow r q =>
  ⟨i, one_int r, h, q _ B H (Gr.refl F B) ow (by
    obtain ⟨n, rfl⟩ := Int.eq_ofNat_of_zero_le h0
    show V.str _ = V.str _
    congr 1
    exact SX.num_S n)⟩
/-- noughts ahead -/
def zfillL (n : Nat) (l : List Nat) : List Nat := List.replicate (n - l.length) 48 ++ l
theorem rm_zfill {n : Nat} (hn : n ≤ 1000000) (h0 : l[0]? ≠ some 43) (h1 : l[0]? ≠ some 45) : RM K (fun x xs H Q => ∃ (a : Str) (i : Int), x = .str a ∧ xs = [.int i] ∧ PadOk i = true ∧ Q (.str (Txt.zfill a i)) H) (.str l) [.int (n : Int)] (.str (zfillL n l)) := fun F B as M H v vs Q ow r1 r2 q => by
  refine ⟨tx l, n, r1, one_int r2, ?_, q _ B H (Gr.refl F B) ow ?_⟩
  · unfold PadOk Builtin.Str.tooLong
    have e1 : PySem.fitsSsize (n : Int) = true := by
      unfold PySem.fitsSsize
      rw [Bool.not_eq_true']
      refine Bool.or_eq_false_iff.mpr ⟨decide_eq_false (by omega), decide_eq_false (by omega)⟩
    rw [e1, Bool.true_and, Bool.not_eq_true']
    refine decide_eq_false ?_
    show ¬ (n : Int).toNat > 2 ^ 24
    rw [Int.toNat_natCast]
    omega
  · show V.str _ = V.str _
    congr 1
    unfold Txt.zfill zfillL
    rw [tx_len]
    by_cases h : (n : Int) ≤ l.length
    · rw [if_pos h, show n - l.length = 0 by omega]
      rfl
    · rw [if_neg h]
      have e : (tx l).cps[0]? = l[0]? := by rw [show (tx l).cps = l.toArray from rfl, List.getElem?_toArray]
      have e2 : zfilled (tx l) ((n : Int).toNat - l.length) = Builtin.Str.padded (tx l) ((n : Int).toNat - l.length) 0 48 := by
        unfold zfilled
        rw [e]
        split
        · rename_i c; exact absurd c h0
        · rename_i c; exact absurd c h1
        · rfl
      rw [e2, Int.toNat_natCast]
      refine TL.ext_tl ?_
      show (Array.replicate (n - l.length) 48 ++ l.toArray ++ Array.replicate 0 48).toList = _
      simp
theorem rc_divmod (h0 : 0 < j) (h1 : j.natAbs.log2 < 9000) : RC K (fun xs H Q => ∃ i j, xs = [.int i, .int j] ∧ CDivP i j ∧ ∀ p, H p = none → Q (.ref p) (upd H p (.tup [.int (i / j), .int (i % j)]))) [.int i, .int j] (.tup [.int (i / j), .int (i % j)]) := fun F B as M H vs Q ow r q =>
  ⟨i, j, two_int r, ⟨h0, by
    unfold Builtin.divisionGoesByPylong
    have e : ((if (j == 0) = true then 0 else j.natAbs.log2 / 30 + 1) > 300) = False := by
      rw [if_neg (by simpa using (show j ≠ 0 by omega))]
      exact eq_false (by omega)
    simp only [e, decide_false, Bool.false_and]⟩, fun p hp => q _ _ _ (ow.gr hp _) (ow.new hp _) ⟨p, _, rfl, .inl (.inl upd_same), _, _, rfl, rfl, _, _, rfl, rfl, rfl⟩⟩
theorem rc_intS (h : l.all (fun c => decide (48 ≤ c) && decide (c ≤ 57)) = true) (hne : l ≠ []) (hl : l.length ≤ 640) : RC K (fun xs H Q => ∃ a n, xs = [.str a] ∧ PySem.intText? a = some n ∧ a.length ≤ 640 ∧ Q (.int n) H) [.str l] (.int ((NumText.digitsVal l : Nat) : Int)) := fun F B as M H vs Q ow r q =>
  ⟨tx l, _, two_str r, SX.int_S h hne (by omega), by rw [tx_len]; exact hl, q _ B H (Gr.refl F B) ow rfl⟩
theorem ev_revO {k : Nat} {xs : List Dt} (h : EvE K te G M (.o k) M1) (hm : M1[k]? = some (.lst xs)) : EvE K (tRevL K te) G M (.d (.lst xs.reverse)) M1 := fun F B as σ H ow sl Q q =>
  h F B as σ H ow sl _ fun v B1 as1 H1 g1 p1 o1 r1 => by
    obtain ⟨a, ha, rfl⟩ := r1
    obtain ⟨_, _, vs, hv, hr⟩ := o1.own k a _ ha hm (fun z => nomatch z)
    refine ⟨a, vs, rfl, .inl (.inl hv), fun p hp => ?_⟩
    have g2 := o1.gr hp (.lst vs.reverse)
    exact q _ _ as1 _ (g1.trans g2) p1 (o1.new hp _) ⟨p, vs.reverse, rfl, .inl (.inl upd_same), RpL.mono g2.1 _ _ hr.reverse⟩
theorem ev_repl {y z : List Nat} {ys zs : Str} (h : EvE K te G M (.d (.str l)) M1) (hy : ys = tx y) (hz : zs = tx z) (h1 : 1 ≤ y.length) (hl : l.length + (l.length + 1) * z.length ≤ 1000000) : EvE K (CwR.tReplC te ys zs) G M (.d (.str (StrLaws.replL y z l))) M1 := fun F B as σ H ow sl Q q =>
  h F B as σ H ow sl _ fun v B1 as1 H1 g1 p1 o1 r1 => ⟨tx l, r1, by rw [hz, tx_len, tx_len]; exact Nat.le_trans hl (by decide), q _ B1 as1 H1 g1 p1 o1 (by rw [hy, hz, repl_tx l y z h1] <;> rfl)⟩
end
end DJ
namespace DJ
open PySem PySem.Spec PyProof.Rows L2
section
variable {K : PySem.W.Frag} {G G1 G2 : List (Option Sl)} {M M1 M2 M3 : List MO} {s r : Sl} {ta tb te : TE} {tt : TT} {t u w : TS} {x y z : Dt} {b : Bool} {i j : Int} {l m : List Nat} {o : Out}
theorem es_retD (h : EvE K te G M (.d x) M1) (e : x = y) : EvS K (tRet te) G M (.rt (.d y) M1) := es_ret (ev_isD h e)
/-- an if that hands back, then the rest -/
theorem es_guard (h : EvT K tt G M b M1) (h1 : b = true → EvS K t G M1 (.rt r M2)) (h2 : b = false → EvS K u G M1 (.rt r M2)) : EvS K (tSeq (tIfS tt t tNext) u) G M (.rt r M2) := fun F B as σ H ow sl D gd =>
  h F B as σ H ow sl _ fun B' as' H' g p o' => by
    cases b with
    | true => exact h1 rfl F B' as' σ H' o' (sl.mono g.1 p) { D with nx := u D } (gd.later g p)
    | false => exact h2 rfl F B' as' σ H' o' (sl.mono g.1 p) D (gd.later g p)
/-- .. where both ends are any -/
theorem es_split (h : EvT K tt G M b M1) (h1 : b = true → EvS K (tSeq t u) G M1 o) (h2 : b = false → EvS K (tSeq w u) G M1 o) : EvS K (tSeq (tIfS tt t w) u) G M o := fun F B as σ H ow sl D gd =>
  h F B as σ H ow sl _ fun B' as' H' g p o' => by
    cases b with
    | true => exact h1 rfl F B' as' σ H' o' (sl.mono g.1 p) D (gd.later g p)
    | false => exact h2 rfl F B' as' σ H' o' (sl.mono g.1 p) D (gd.later g p)
theorem es_nextR (h : EvS K u G M o) : EvS K (tSeq tNext u) G M o := h
/-- an if that can't be taken -/
theorem es_pass (h : EvT K tt G M false M1) (h2 : EvS K u G M1 o) : EvS K (tSeq (tIfS tt t tNext) u) G M o := fun F B as σ H ow sl D gd =>
  h F B as σ H ow sl _ fun B' as' H' g p o' => h2 F B' as' σ H' o' (sl.mono g.1 p) D (gd.later g p)
theorem es_nG {G' : List (Option Sl)} (e : G = G') (h : EvS K t G' M o) : EvS K t G M o := e ▸ h
theorem es_never (h : False) : EvS K t G M o := h.elim
theorem ev_iteS (h : EvT K tt G M b M1) (h1 : b = true → EvE K ta G M1 (.d (.str l)) M2) (h2 : b = false → EvE K tb G M1 (.d (.str m)) M2) : EvE K (tIf tt ta tb) G M (.d (.str (if b = true then l else m))) M2 :=
  ev_if h (fun e => by rw [if_pos e]; exact h1 e) (fun e => by rw [if_neg (by rw [e]; exact Bool.false_ne_true)]; exact h2 e)
theorem ev_iteI (h : EvT K tt G M b M1) (h1 : b = true → EvE K ta G M1 (.d (.int i)) M2) (h2 : b = false → EvE K tb G M1 (.d (.int j)) M2) : EvE K (tIf tt ta tb) G M (.d (.int (if b = true then i else j))) M2 :=
  ev_if h (fun e => by rw [if_pos e]; exact h1 e) (fun e => by rw [if_neg (by rw [e]; exact Bool.false_ne_true)]; exact h2 e)
/-- if c: x = e -/
theorem es_ifI {n : Nat} (h : EvT K tt G M b M1) (h1 : b = true → EvE K te G M1 (.d (.int i)) M1) (hj : G[n]? = some (some (.d (.int j)))) : EvS K (tIfS tt (tAsg te (gName n)) tNext) G M (.nx (G.set n (some (.d (.int (if b = true then i else j))))) M1) :=
  es_if h (fun e => by rw [if_pos e]; exact es_asg (h1 e)) (fun e => by
    rw [if_neg (by rw [e]; exact Bool.false_ne_true)]
    refine es_nxw es_next ⟨by rw [List.length_set], fun k s q => ?_⟩
    by_cases hk : n = k
    · subst hk
      rw [List.getElem?_set_self (List.getElem?_eq_some_iff.mp hj).1] at q
      cases q
      exact hj
    · rw [List.getElem?_set_ne hk] at q
      exact q)
/-- a for that is not left, its state told by the number of turns -/
theorem es_forN {β : Type} {wi : TI} {g : TG} {tb : TS} (xs : List β) (en : β → Dt) (Gn : Nat → List (Option Sl)) (Mn : Nat → List MO) (hI : EvI K wi G M (xs.map en) (Mn 0)) (h0 : Lg G (Gn 0))
    (turn : ∀ (i : Nat) (x : β), xs[i]? = some x → ∃ G1, EvG K g (Gn i) (.d (en x)) G1 ∧ (EvS K tb G1 (Mn i) (.nx (Gn (i + 1)) (Mn (i + 1))) ∨ EvS K tb G1 (Mn i) (.ct (Gn (i + 1)) (Mn (i + 1))))) :
    EvS K (tFor wi g tb) G M (.nx (Gn xs.length) (Mn xs.length)) := fun F B as σ H ow sl D gd => by
  refine hI F B as σ H ow sl _ fun J B1 as1 H1 g1 p1 o1 yl => ?_
  refine ⟨fun i m σ' H' => ∃ B' as', m = xs.length - i ∧ i ≤ xs.length ∧ Gr F B1 B' ∧ Px as1 as' ∧ Ow K F B' as' (Mn i) H' ∧ Slt K B' as' (Gn i) σ', ⟨xs.length, B1, as1, by simp, Nat.zero_le _, Gr.refl F B1, Px.refl as1, o1, (sl.mono g1.1 p1).weak h0⟩, fun i m σ' H' w => ?_⟩
  obtain ⟨B', as', rfl, hi, g', p', o', s'⟩ := w
  obtain ⟨y1, y2⟩ := yl F B' as' (Mn i) H' i g'.1 o'
  by_cases hlt : i < xs.length
  · have hx : xs[i]? = some xs[i] := List.getElem?_eq_getElem hlt
    obtain ⟨go, yld⟩ := y1 (en xs[i]) (by rw [List.getElem?_map, hx] <;> rfl)
    refine .inr ⟨go, fun σ2 H2 => ∃ B' as', i + 1 ≤ xs.length ∧ Gr F B1 B' ∧ Px as1 as' ∧ Ow K F B' as' (Mn (i + 1)) H2 ∧ Slt K B' as' (Gn (i + 1)) σ2, fun σ2 H2 n2 => ?_, fun v H2 yv => ?_⟩
    · obtain ⟨B2, as2, q1, q3, q4, q5, q6⟩ := n2
      exact ⟨xs.length - (i + 1), by omega, B2, as2, rfl, q1, q3, q4, q5, q6⟩
    · obtain ⟨B2, g2, o2, r2⟩ := yld v H2 yv
      obtain ⟨G1, hg, ht⟩ := turn i xs[i] hx
      refine hg F B2 as' (Mn i) σ' H2 v o2 (s'.mono g2.1 (Px.refl as')) r2 _ fun B3 as3 σ3 H3 g3 p3 o3 s3 => ?_
      have gg : Gr F B1 B3 := g'.trans (g2.trans g3)
      have pp : Px as1 as3 := p'.trans p3
      rcases ht with ht | ht
      · exact ht F B3 as3 σ3 H3 o3 s3 _ fun B4 as4 σ4 H4 g4 p4 o4 s4 => ⟨B4, as4, hlt, gg.trans g4, pp.trans p4, o4, s4⟩
      · exact ht F B3 as3 σ3 H3 o3 s3 _ fun B4 as4 σ4 H4 g4 p4 o4 s4 => ⟨B4, as4, hlt, gg.trans g4, pp.trans p4, o4, s4⟩
  · have e : i = xs.length := by omega
    subst e
    exact .inl ⟨y2 (by rw [List.length_map]; exact Nat.le_refl _), gd B' as' σ' H' (g1.trans g') (p1.trans p') o' s'⟩
theorem ro_fdiv (h : CDiv i j) : RO K (rI CDiv fun i j => .int (i / j)) (.int i) (.int j) (.int (i / j)) := ro_I h fun _ _ => rfl
/-- an item of a list or a text, and its length -/
theorem ro_ixL' {xs : List Dt} (h : atI xs i = some x) : RO K (rIx K) (.lst xs) (.int i) x := fun F B as M H v u Q ow r1 r2 q => .inl (ro_ixL h F B as M H v u Q ow r1 r2 q)
theorem ro_ixS' {c : Nat} (hl : l.length ≤ 1000000) (h : atI l i = some c) : RO K (rIx K) (.str l) (.int i) (.str [c]) := fun F B as M H v u Q ow r1 r2 q => .inr (.inr (ro_ixS hl h F B as M H v u Q ow r1 r2 q))
theorem rc_lenL' {xs : List Dt} : RC K (fun xs H Q => ∃ x n, xs = [x] ∧ LenV K x H n ∧ Q (.int n) H) [.lst xs] (.int (xs.length : Nat)) := fun F B as M H vs Q ow r q => by
  obtain ⟨v1, rr, e, h1, h2⟩ := r
  obtain ⟨a, us, e1, h3, h4⟩ := h1
  have h2 : rr = [] := h2
  subst h2; subst e1
  exact ⟨.ref a, us.length, e, .inl ⟨us, ow.bb.seq h3, rfl⟩, q _ B H (Gr.refl F B) ow (by rw [h4.len] <;> rfl)⟩
theorem rc_lenS' (h : l.length ≤ 1000000) : RC K (fun xs H Q => ∃ x n, xs = [x] ∧ LenV K x H n ∧ Q (.int n) H) [.str l] (.int (l.length : Nat)) := fun F B as M H vs Q ow r q =>
  ⟨.str (tx l), (tx l).length, two_str r, ⟨by rw [tx_len]; exact Nat.le_trans h (by decide), rfl⟩, q _ B H (Gr.refl F B) ow (by rw [tx_len] <;> rfl)⟩
theorem sub_one (c : Nat) : ∀ l : List Nat, sub [c] l = decide (c ∈ l)
  | [] => rfl
  | d :: r => by
    unfold sub
    rw [sub_one c r]
    by_cases e : c = d
    · subst e
      have : pre [c] (c :: r) = true := beq_self_eq_true [c]
      rw [this]
      simp
    · have : pre [c] (d :: r) = false := TL.pre_of_head [] r (fun h => e h.symm)
      rw [this, Bool.false_or]
      simp [e]
end
end DJ
namespace DJ
open PySem PySem.Spec PyProof.Rows L2
open PySem.NumText PySem.Calls
/-! ### int(t, 8) -/
def Oct (c : Nat) : Prop := 48 ≤ c ∧ c ≤ 55
def octNum (l : List Nat) : Nat := l.foldl (fun a c => a * 8 + Hx.hv c) 0
theorem Oct.hex {c : Nat} (h : Oct c) : Hx.IsHex c := .inl ⟨h.1, by unfold Oct at h; omega⟩
theorem Oct.lt {c : Nat} (h : Oct c) : Hx.hv c < 8 := by
  unfold Oct at h
  unfold Hx.hv
  rw [if_pos (by omega)]
  omega
theorem step_oct {ds : Array Nat} {b : Bool} {c : Nat} (h : Oct c) : NumText.step 8 (ds, b) c = some (ds.push (Hx.hv c), true) := by
  have hr := (Hx.hex_rng h.hex).2.2
  unfold NumText.step
  rw [if_neg (by rw [beq_iff_eq]; exact hr)]
  rw [Hx.digit_hex h.hex]
  exact if_pos h.lt
theorem fold_oct : ∀ (cs : List Nat) (ds : Array Nat), (∀ c ∈ cs, Oct c) → cs.foldlM (NumText.step 8) (ds, true) = some (cs.foldl (fun acc c => acc.push (Hx.hv c)) ds, true)
  | [], _, _ => rfl
  | c :: cs, ds, h => by
    rw [List.foldlM_cons, step_oct (h c List.mem_cons_self)]
    exact fold_oct cs (ds.push (Hx.hv c)) fun d hd => h d (List.mem_cons_of_mem _ hd)
theorem digits_oct : ∀ {cs : List Nat}, (∀ c ∈ cs, Oct c) → cs ≠ [] → digits? 8 cs = some (cs.foldl (fun acc c => acc.push (Hx.hv c)) #[])
  | [], _, hne => absurd rfl hne
  | c :: cs, h, _ => by
    unfold digits?
    rw [List.foldlM_cons, step_oct (h c List.mem_cons_self)]
    show (cs.foldlM (NumText.step 8) ((#[] : Array Nat).push (Hx.hv c), true)).bind _ = _
    rw [fold_oct cs _ fun d hd => h d (List.mem_cons_of_mem _ hd)] <;> rfl
theorem push_oct : ∀ (cs : List Nat) (ds : Array Nat), (cs.foldl (fun acc c => acc.push (Hx.hv c)) ds).foldl (fun acc d => acc * 8 + d) 0 = cs.foldl (fun a c => a * 8 + Hx.hv c) (ds.foldl (fun acc d => acc * 8 + d) 0)
  | [], _ => rfl
  | c :: cs, ds => by
    rw [List.foldl_cons, push_oct cs (ds.push (Hx.hv c)), List.foldl_cons, Array.foldl_push]
theorem oct_cases {c : Nat} (h : Oct c) : c = 48 ∨ c = 49 ∨ c = 50 ∨ c = 51 ∨ c = 52 ∨ c = 53 ∨ c = 54 ∨ c = 55 := by
  unfold Oct at h
  omega
theorem based_oct : ∀ {cs : List Nat}, (∀ c ∈ cs, Oct c) → based 8 cs = (8, false, cs)
  | [], _ => rfl
  | [a], h => by
    rcases oct_cases (h a List.mem_cons_self) with e | e | e | e | e | e | e | e <;> subst e <;> rfl
  | a :: c :: r, h => by
    have hc := oct_cases (h c (List.mem_cons_of_mem _ List.mem_cons_self))
    rcases oct_cases (h a List.mem_cons_self) with e | e | e | e | e | e | e | e <;> subst e <;> first
      | rfl
      | (rcases hc with e | e | e | e | e | e | e | e <;> subst e <;> rfl)
theorem read_oct {cs : List Nat} (h : ∀ c ∈ cs, Oct c) (hne : cs ≠ []) : (int_private% "readNumeral") 0 8 cs = (int_private% "Numeral.value") ((octNum cs : Nat) : Int) := by
  have hr : ∀ c ∈ cs.reverse, Hx.IsHex c := fun c hc => (h c (List.mem_reverse.mp hc)).hex
  have hb : based 8 cs = (8, false, cs) := based_oct h
  refine (readNumeral_eq 0 8 cs).trans ?_
  rw [Hx.dropB fun c hc => (h c hc).hex, Hx.signH fun c hc => (h c hc).hex]
  show judge 0 false (based 8 cs).1 (based 8 cs).2.1 (digits? (based 8 cs).1 (((based 8 cs).2.2.reverse.dropWhile blank).reverse)) = _
  rw [hb]
  show judge 0 false 8 false (digits? 8 ((cs.reverse.dropWhile blank).reverse)) = _
  rw [Hx.dropB hr, List.reverse_reverse, digits_oct h hne]
  show (int_private% "Numeral.value") (((cs.foldl (fun acc c => acc.push (Hx.hv c)) (#[] : Array Nat)).foldl (fun acc d => acc * 8 + d) 0 : Nat) : Int) = _
  rw [push_oct]
  rfl
theorem gives_oct {x : PySem.Str} {u t : Tok} (hl : x.length ≤ 640) (h : ∀ c ∈ x.cps.toList, Oct c) (hne : x.cps.toList ≠ []) :
    Gives (Builtin.«int.__new__» ⟨[.type "int", .str x u, .int 8 t], []⟩) (.int ((octNum x.cps.toList : Nat) : Int)) :=
  .of_wp fun M A E s Q hQ => by
    obtain ⟨hp, g, d, tk, os⟩ := s
    have g1 := F.conv_sub_int
    have g2 := F.madeHere_int
    have g6 : typeOf (.str x u) = pure (.type "str") := rfl
    have e12 := Hx.seen_hex (x := x) fun c hc => (h c hc).hex
    have hs : (numSeenOf x).length ≤ 640 := by
      rw [e12.2, Array.length_toList]
      exact hl
    have hr : (int_private% "readNumeral") 0 8 (numSeenOf x) = (int_private% "Numeral.value") ((octNum x.cps.toList : Nat) : Int) := by
      rw [e12.2]
      exact read_oct h hne
    have ha : ((numSeenOf x).length == (numTextOf x).length) = true := by
      rw [e12.1, e12.2]
      exact beq_self_eq_true _
    have hk := Hx.Hid.mk (And.intro hs (And.intro hr ha))
    clear hs hr ha e12 hl hne h
    repeat (any_goals (first
      | assumption
      | ((with_reducible show wpAny _ _ ((int_private% "intFromText") _ _ _) _ _ _); refine Hx.wp_textB hk.out.1 hk.out.2.1 hk.out.2.2 ?_)
      | wp_step))
    all_goals first | exact ⟨_, rfl, hQ⟩ | skip
def rIntOct : List V → Hp → VK → Prop := fun xs H Q => ∃ l : List Nat, xs = [.str (SX.S l), .int 8] ∧ l ≠ [] ∧ l.length ≤ 640 ∧ (∀ c ∈ l, Oct c) ∧ Q (.int ((octNum l : Nat) : Int)) H
theorem call_int_oct {X : Cx} : CallR X (.type "int") rIntOct := by
  intro pins s σ H xs us Q I r h
  obtain ⟨l, rfl, hne, hl, hx, q⟩ := h
  obtain ⟨u, w', rfl, r1, r2⟩ := vals2 r
  obtain ⟨t1, rfl⟩ := r1
  obtain ⟨t2, rfl⟩ := r2
  exact callType_new F.called_int F.newNe_int (Hx.typeCall_int_2 _ _) (Hx.newCall_int_2 _ _) (fun obj => F.initArgs_range_2 obj _ _) F.entry_int_new (gives_oct (x := SX.S l) (by rw [SX.S_len]; exact hl) hx hne).meets
    (show (PySem.Made.int ((octNum l : Nat) : Int)).post _ s from ⟨rfl, ⟨.int ((octNum l : Nat) : Int), H, I.tok _, ⟨_, rfl⟩, q⟩⟩)
section
variable {K : PySem.W.Frag} {B : Hp} {l : List Nat}
theorem rc_intOct (hne : l ≠ []) (hl : l.length ≤ 640) (h : ∀ c ∈ l, Oct c) : RC K rIntOct [.str l, .int 8] (.int ((octNum l : Nat) : Int)) := fun F B as M H vs Q ow r q => by
  obtain ⟨v, r1, e1, h1, w, r2, e2, h2, e3⟩ := r
  have h1 : v = V.str (tx l) := h1
  have h2 : w = V.int 8 := h2
  have e3 : r2 = [] := e3
  subst e3; subst e2; subst e1; subst h1; subst h2
  exact ⟨l, rfl, hne, hl, h, q _ B H (Gr.refl F B) ow rfl⟩
theorem rc_intHex (hne : l ≠ []) (hl : l.length ≤ 640) (h : ∀ c ∈ l, Hx.IsHex c) : RC K rIntHex [.str l, .int 16] (.int ((Hx.hexNum l : Nat) : Int)) := fun F B as M H vs Q ow r q => by
  obtain ⟨v, r1, e1, h1, w, r2, e2, h2, e3⟩ := r
  have h1 : v = V.str (tx l) := h1
  have h2 : w = V.int 16 := h2
  have e3 : r2 = [] := e3
  subst e3; subst e2; subst e1; subst h1; subst h2
  exact ⟨l, rfl, hne, hl, h, q _ B H (Gr.refl F B) ow rfl⟩
end
/-- what they are worth has few figures -/
theorem hexNum_lt : ∀ (l : List Nat), (∀ c ∈ l, Hx.IsHex c) → Hx.hexNum l < 16 ^ l.length := by
  intro l
  have : ∀ (l : List Nat) (a : Nat), (∀ c ∈ l, Hx.IsHex c) → l.foldl (fun a c => a * 16 + Hx.hv c) a < (a + 1) * 16 ^ l.length := by
    intro l
    induction l with
    | nil => intro a _; simp
    | cons c l ih =>
      intro a h
      have h1 := Hx.hv_lt (h c List.mem_cons_self)
      refine Nat.lt_of_lt_of_le (ih _ fun d hd => h d (List.mem_cons_of_mem _ hd)) ?_
      rw [List.length_cons, Nat.pow_succ, Nat.mul_comm _ 16, ← Nat.mul_assoc]
      exact Nat.mul_le_mul_right _ (by dsimp only; omega)
  intro h
  have := this l 0 h
  rwa [Nat.zero_add, Nat.one_mul] at this
theorem octNum_lt : ∀ (l : List Nat), (∀ c ∈ l, Oct c) → octNum l < 8 ^ l.length := by
  intro l
  have : ∀ (l : List Nat) (a : Nat), (∀ c ∈ l, Oct c) → l.foldl (fun a c => a * 8 + Hx.hv c) a < (a + 1) * 8 ^ l.length := by
    intro l
    induction l with
    | nil => intro a _; simp
    | cons c l ih =>
      intro a h
      have h1 := (h c List.mem_cons_self).lt
      refine Nat.lt_of_lt_of_le (ih _ fun d hd => h d (List.mem_cons_of_mem _ hd)) ?_
      rw [List.length_cons, Nat.pow_succ, Nat.mul_comm _ 8, ← Nat.mul_assoc]
      exact Nat.mul_le_mul_right _ (by dsimp only; omega)
  intro h
  have := this l 0 h
  rwa [Nat.zero_add, Nat.one_mul] at this
end DJ
namespace DJ
open PySem PySem.Spec PyProof.Rows L2
theorem atI_nat {α : Type} {xs : List α} {j : Nat} (h : j < xs.length) : atI xs (j : Int) = some xs[j] := by
  have e : ixN xs.length (j : Int) = some j := by
    unfold ixN
    rw [if_pos (Int.natCast_nonneg j), if_pos (by omega), Int.toNat_natCast]
  unfold atI
  rw [e]
  exact List.getElem?_eq_getElem h
/-! ### a walk that hands back the first thing of a kind -/
def ffS {β : Type} (p : β → Bool) (f : β → Sl) (M : List MO) : Unit → β → Unit ⊕ Out := fun _ x => if p x = true then .inr (.rt (f x) M) else .inl ()
theorem ff_loop {β : Type} (p : β → Bool) (f : β → Sl) (M : List MO) : ∀ xs : List β, (∃ x, xs.find? p = some x ∧ loopF (ffS p f M) xs () = .inr (.rt (f x) M)) ∨ (xs.find? p = none ∧ loopF (ffS p f M) xs () = .inl ())
  | [] => .inr ⟨rfl, rfl⟩
  | x :: xs => by
    by_cases h : p x = true
    · have e : ffS p f M () x = .inr (.rt (f x) M) := if_pos h
      refine .inl ⟨x, List.find?_cons_of_pos h, ?_⟩
      unfold loopF
      rw [e]
    · have e : ffS p f M () x = .inl () := if_neg h
      have e2 : (x :: xs).find? p = xs.find? p := List.find?_cons_of_neg h
      have e3 : loopF (ffS p f M) (x :: xs) () = loopF (ffS p f M) xs () := by
        rw [loopF, e]
      rw [e2, e3]
      exact ff_loop p f M xs
section
variable {K : PySem.W.Frag} {G G0 : List (Option Sl)} {M : List MO} {u : TS} {r : Sl}
theorem loop_inl {α β : Type} (f : α → β → α) : ∀ (xs : List β) (a : α), loopF (fun a x => (.inl (f a x) : α ⊕ Out)) xs a = .inl (xs.foldl f a)
  | [], _ => rfl
  | x :: xs, a => loop_inl f xs (f a x)
/-- a walk that hands a state on -/
theorem es_forA {α β : Type} {wi : TI} {g : TG} {tb : TS} (xs : List β) (en : β → Dt) (enc : α → List (Option Sl)) (encM : α → List MO) (f : α → β → α) (a0 : α) (hI : EvI K wi G M (xs.map en) (encM a0)) (h0 : Lg G (enc a0))
    (turn : ∀ a x, x ∈ xs → ∃ G1, EvG K g (enc a) (.d (en x)) G1 ∧ EvS K tb G1 (encM a) (.nx (enc (f a x)) (encM (f a x)))) : EvS K (tFor wi g tb) G M (.nx (enc (xs.foldl f a0)) (encM (xs.foldl f a0))) := by
  have h := es_for (tb := tb) xs en enc encM (fun a x => .inl (f a x)) a0 hI h0 fun a x hx => by
    obtain ⟨G1, h1, h2⟩ := turn a x hx
    exact ⟨G1, h1, .inl h2⟩
  rw [loop_inl] at h
  exact h
theorem es_yes {tt : TT} {t w : TS} {b : Bool} {M1 : List MO} {o : Out} (h : EvT K tt G M b M1) (e : b = true) (h1 : EvS K t G M1 o) : EvS K (tIfS tt t w) G M o := es_if h (fun _ => h1) (fun z => by rw [e] at z; cases z)
theorem es_no {tt : TT} {t w : TS} {b : Bool} {M1 : List MO} {o : Out} (h : EvT K tt G M b M1) (e : b = false) (h1 : EvS K w G M1 o) : EvS K (tIfS tt t w) G M o := es_if h (fun z => by rw [e] at z; cases z) (fun _ => h1)
theorem es_forFind {β : Type} {wi : TI} {g : TG} {tb : TS} (xs : List β) (en : β → Dt) (p : β → Bool) (f : β → Sl) (hI : EvI K wi G M (xs.map en) M) (h0 : Lg G G0)
    (turn : ∀ x, x ∈ xs → ∃ G1, EvG K g G0 (.d (en x)) G1 ∧ (p x = true → EvS K tb G1 M (.rt (f x) M)) ∧ (p x = false → EvS K tb G1 M (.nx G0 M)))
    (hr : ∀ x, xs.find? p = some x → r = f x) (rest : xs.find? p = none → EvS K u G0 M (.rt r M)) : EvS K (tSeq (tFor wi g tb) u) G M (.rt r M) := by
  have h := es_for (α := Unit) (tb := tb) xs en (fun _ => G0) (fun _ => M) (ffS p f M) () hI h0 fun _ x hx => by
    obtain ⟨G1, h1, h2, h3⟩ := turn x hx
    refine ⟨G1, h1, ?_⟩
    cases e : p x with
    | true =>
      have e2 : ffS p f M () x = .inr (.rt (f x) M) := if_pos e
      show Turns K _ _ tb G1 M (ffS p f M () x)
      rw [e2]
      exact h2 e
    | false =>
      have e2 : ffS p f M () x = .inl () := if_neg (by rw [e]; exact Bool.false_ne_true)
      show Turns K _ _ tb G1 M (ffS p f M () x)
      rw [e2]
      exact .inl (h3 e)
  rcases ff_loop p f M xs with ⟨x, e1, e2⟩ | ⟨e1, e2⟩
  · rw [e2] at h
    rw [hr x e1]
    exact es_seqR h
  · rw [e2] at h
    exact es_seq h (rest e1)
end
end DJ
namespace DJ
open PySem PySem.Spec PyProof.Rows L2
/-! ### a display of pairs whose keys are tuples -/
abbrev KTa (H : Hp) : List (V × V) → List (List Key × V) → Prop := Paired fun p q => ∃ b, p.1 = .ref b ∧ H b = some (.tup (q.1.map kV)) ∧ p.2 = q.2
def mergeT (kvs more : List (List Key × V)) : List (List Key × V) := more.foldl (fun acc kv => putK acc kv.1 kv.2) kvs
theorem len_mergeT : ∀ (more kvs : List (List Key × V)), (mergeT kvs more).length ≤ kvs.length + more.length
  | [], kvs => Nat.le_refl _
  | p :: r, kvs => by
    have h1 := len_mergeT r (putK kvs p.1 p.2)
    have h2 := length_putK kvs p.1 p.2
    rw [List.length_cons]
    exact Nat.le_trans h1 (by omega)
theorem KT_merge {H : Hp} : ∀ {more : List (List Key × V)} {rs : List (List Key × Addr × Value)}, KT H more rs → ∀ {kvs : List (List Key × V)} {xs : List (List Key × Addr × Value)}, KT H kvs xs → KT H (mergeT kvs more) (storedAllH xs rs) := by
  intro more rs r
  induction r with
  | nil => exact fun q => q
  | @cons p q ps qs h t ih =>
    intro kvs xs r0
    obtain ⟨h1, h2, h3⟩ := h
    have e : KT H (putK kvs p.1 p.2) (storedH xs q.1 q.2.1 q.2.2) := by
      rw [← h1]
      exact r0.put p.1 h2 h3
    exact ih e
theorem carriesT {P : Program} {w : World} {H : Hp} {h : Heap} (ok : HOk P w H h) : ∀ {ps : List (V × V)} {kvs : List (List Key × V)}, KTa H ps kvs → ∀ {ws : List (Value × Value)}, VV ps ws →
    ∃ rs : List (List Key × Addr × Value), CarriesH (tupleKind (mixKind P w)) h ws rs ∧ KT H kvs rs := by
  intro ps kvs r
  induction r with
  | nil =>
    intro ws v
    cases v
    exact ⟨[], True.intro, .nil⟩
  | @cons p q ps qs hp t ih =>
    intro ws v
    cases v with
    | @cons a b as bs h1 h2 =>
      obtain ⟨rs, c, k⟩ := ih h2
      obtain ⟨x, e1, e2, e3⟩ := hp
      obtain ⟨b1, b2⟩ := b
      obtain ⟨h3, h4⟩ := h1
      have h3 : RelV p.1 b1 := h3
      have h4 : RelV p.2 b2 := h4
      rw [e1] at h3
      rw [e3] at h4
      exact ⟨(q.1, x, b2) :: rs, ⟨h3, rfl, key_of ok e2, c⟩, .cons ⟨rfl, e2, h4⟩ k⟩
def tDispT (trs : List (TE × TE)) : TE := fun σ H Q => ∀ p, H p = none → tPairs trs σ (upd H p (.dT [])) fun ps H2 => H2 p = some (.dT []) ∧ ∃ kvs : List (List Key × V), KTa H2 ps kvs ∧ kvs.length ≤ 15 ∧ Q (.ref p) (upd H2 p (.dT (mergeT [] kvs)))
theorem pe_dispT {X : Cx} {pos : Pos} {keys : List (Option Expr)} {values : List Expr} {trs : List (TE × TE)} (h : PPs X pos keys values trs) (hu : X.A.units + 1 < cLine) (hall : keys.all (·.isSome) = true) (hl : keys.length = values.length) (h0 : keys ≠ [])
    (h15 : keys.length ≤ 15) : PE X (.Dict keys values pos) (tDispT trs) := by
  refine ⟨fun pins s σ H Q I q => ?_⟩
  have hn := I.hok.fresh (Nat.le_refl s.heap.objs.size)
  have I1 := I.laid (a := s.heap.objs.size) (o := .dT []) (h' := s.heap.push { cls := .type "dict", data := .dict #[] }) (t' := s.toks) (fun _ _ q => Heap.get?_push_of_some _ q) (Nat.le_refl _) (dt_empty s.heap I.big)
  have hm := pairTrees_length keys values X.env pos hall hl
  have hz := zip_pairTrees keys values X.env pos hall hl
  have hne : pairTrees keys values X.env pos ≠ [] := fun he => by
    rw [he] at hm
    exact h0 (List.length_eq_zero_iff.mp hm.symm)
  rw [arm_eval_Dict, hz, dictDisplay_pairs (pairTrees keys values X.env pos) hne (by omega)]
  refine wpAny_bind (wpAny_standAt (wpAny_bind (wpAny_subDictH (knd := tupleKind (mixKind X.prog X.w)) (Q := fun d s' => wpAny (model X.prog X.w) X.A (pure (Value.ref d)) (EP X pins σ Q) X.xe s') (show X.A.units < cLine by omega) (by omega) ?_)))
  refine thn (h.run pins _ σ _ _ I1 (q _ hn)) fun ws s2 r2 => ?_
  obtain ⟨ps, H2, I2, rel, e, kvs, ka, lk, q2⟩ := r2
  obtain ⟨rs, c, rk⟩ := carriesT (P := X.prog) (w := X.w) I2.hok ka rel
  obtain ⟨z, hd, xs0, r0, dd⟩ := dt_of I2.hok e
  cases r0
  refine ⟨rs, c, dd, fun h' tk dd' hs => wpAny_pure ⟨.ref s.heap.objs.size, _, ?_, rfl, q2⟩⟩
  have hz : (mergeT [] kvs).length ≤ sizeLine := by
    have h1 := len_mergeT kvs []
    rw [List.length_nil] at h1
    rw [sizeLine_eq]; omega
  obtain ⟨o, es, ep, hq, h2, h3, h4, _, h5⟩ := dd'
  refine d_write I2 (by rw [e]; exact True.intro) hs ⟨o, hq⟩ ⟨hz, hd, _, (KT_merge rk .nil).keeps fun c ys ec => ?_, o, es, ep, hq, h2, h3, h4, h5⟩
  rw [upd_ne (ne_of ec e (fun z => nomatch z))]
  exact ec
end DJ
namespace DJ
open PySem PySem.Spec PyProof.Rows L2
theorem room64 {k : Nat} {A : Around} (r : Room k A) : A.units + 64 < cLine := by have := r.un; omega
theorem room1 {k : Nat} {A : Around} (r : Room k A) : A.units + 1 < cLine := by have := r.un; omega
/-! ### a thing framed while pieces are made, then kept -/
section
variable {K : PySem.W.Frag} {F B H : Hp} {as : List Addr} {M : List MO} {p : Addr}
theorem Ow.frame (h : Ow K F B as M H) (hp : H p = none) (o : HO) : Ow K (upd F p o) B as M (upd H p o) := by
  obtain ⟨h1, h2, h3⟩ := h.fresh hp
  have ne : ∀ a ∈ as, a ≠ p := fun a ha e => h3 (e ▸ ha)
  refine ⟨fun a u e => ?_, fun a u e => ?_, h.len, h.nd, fun a ha => ?_, fun a ha => ?_, fun k a m e1 e2 hm => ?_⟩
  · by_cases ea : a = p
    · subst ea; rw [upd_same] at e ⊢; exact e
    · rw [upd_ne ea] at e ⊢; exact h.fb _ _ e
  · rw [upd_ne (ne_of_none e h2)]; exact h.bb _ _ e
  · rw [upd_ne (ne a ha)]; exact h.al a ha
  · rw [upd_ne (ne a ha)]; exact h.fa a ha
  · have ha := ne a (List.mem_of_getElem? e1)
    obtain ⟨q1, q2, q3⟩ := h.own k a m e1 e2 hm
    exact ⟨by rw [upd_ne ha]; exact q1, q2, MoR.mono (Same.refl B) (upd_ne ha) q3⟩
theorem Ow.keep {o o' : HO} (h : Ow K (upd F p o) B as M H) (hF : F p = none) (hB : B p = none) : Ow K F (upd B p o') as M (upd H p o') := by
  have ne : ∀ a ∈ as, a ≠ p := fun a ha e => by
    have := h.fa a ha
    rw [e, upd_same] at this
    cases this
  have sm : Same B (upd B p o') := fun a u e => by rw [upd_ne (ne_of_none e hB)]; exact e
  refine ⟨fun a u e => ?_, fun a u e => ?_, h.len, h.nd, fun a ha => ?_, fun a ha => ?_, fun k a m e1 e2 hm => ?_⟩
  · have ea := ne_of_none e hF
    rw [upd_ne ea]
    exact h.fb a u (by rw [upd_ne ea]; exact e)
  · by_cases ea : a = p
    · subst ea; rw [upd_same] at e ⊢; exact e
    · rw [upd_ne ea] at e ⊢; exact h.bb _ _ e
  · rw [upd_ne (ne a ha)]; exact h.al a ha
  · have := h.fa a ha
    rw [upd_ne (ne a ha)] at this
    exact this
  · have ha := ne a (List.mem_of_getElem? e1)
    obtain ⟨q1, q2, q3⟩ := h.own k a m e1 e2 hm
    rw [upd_ne ha] at q1
    exact ⟨q1, by rw [upd_ne ha]; exact q2, MoR.mono sm (upd_ne ha) q3⟩
theorem Gr.frame {o : HO} {B' : Hp} (g : Gr (upd F p o) B B') (hF : F p = none) : Gr F B B' := ⟨g.1, fun a f n => g.2 a (by
  have ea : a ≠ p := fun e => f.1 (by rw [e]; exact hF)
  rw [upd_ne ea]; exact f) n⟩
theorem Gr.keep {o o' : HO} {B' : Hp} (g : Gr (upd F p o) B B') (hF : F p = none) (hB : B p = none) (hk : Kp (some o)) : Gr F B (upd B' p o') := by
  have hB' : B' p = none := g.2 p (by rw [upd_same]; exact hk) hB
  refine ⟨fun a u e => ?_, fun a f n => ?_⟩
  · rw [upd_ne (ne_of_none e hB)]; exact g.1 a u e
  · have ea : a ≠ p := fun e => f.1 (by rw [e]; exact hF)
    rw [upd_ne ea]
    exact g.2 a (by rw [upd_ne ea]; exact f) n
end
/-! ### pairs -/
def RpP (K : PySem.W.Frag) (H : Hp) : List (Dt × Dt) → List (V × V) → Prop
  | [], ps => ps = []
  | d :: ds, ps => ∃ p r, ps = p :: r ∧ (Rp K H d.1 p.1 ∧ Rp K H d.2 p.2) ∧ RpP K H ds r
def EvP (K : PySem.W.Frag) (trs : List (TE × TE)) (G : List (Option Sl)) (M : List MO) (ds : List (Dt × Dt)) : Prop :=
  ∀ F B as σ H, Ow K F B as M H → Slt K B as G σ → ∀ Q : List (V × V) → Hp → Prop, (∀ ps B' as' H', Gr F B B' → Px as as' → Ow K F B' as' M H' → RpP K B' ds ps → Q ps H') → tPairs trs σ H Q
/-- a tuple of texts, as a key -/
def keyD (ks : List (List Nat)) : Dt := .ext fun H v => ∃ a, v = .ref a ∧ H a = some (.tup ((ks.map fun k => (Sum.inr (tx k) : Key)).map kV))
abbrev encT (p : List (List Nat) × List Nat) : List Key × V := (p.1.map fun k => (Sum.inr (tx k) : Key), .str (tx p.2))
abbrev encK (p : List Nat × List Nat) : Key × V := (Sum.inr (tx p.1), .str (tx p.2))
def dicT (kvs : List (List (List Nat) × List Nat)) : Dt := .ext fun H v => ∃ a, v = .ref a ∧ H a = some (.dT (mergeT [] (kvs.map encT)))
def dicK (kvs : List (List Nat × List Nat)) : Dt := .ext fun H v => ∃ a, v = .ref a ∧ H a = some (.dK (mergeK [] (kvs.map encK)))
section
variable {K : PySem.W.Frag} {B H : Hp} {G : List (Option Sl)} {M M1 M2 M3 : List MO} {tk tv td ty : TE} {trs : List (TE × TE)} {k v : Dt}
theorem RpP.mono {H' : Hp} (e : Same H H') : ∀ {ds : List (Dt × Dt)} {ps : List (V × V)}, RpP K H ds ps → RpP K H' ds ps
  | [], _, h => h
  | d :: ds, _, ⟨p, r, e1, h1, h2⟩ => ⟨p, r, e1, ⟨Rp.mono e _ _ h1.1, Rp.mono e _ _ h1.2⟩, RpP.mono e h2⟩
theorem ep_nil : EvP K [] G M [] := fun F B as σ H ow sl Q q => q [] B as H (Gr.refl F B) (Px.refl as) ow rfl
theorem ep_cons {ds : List (Dt × Dt)} (h1 : EvE K tk G M (.d k) M) (h2 : EvE K tv G M (.d v) M) (h3 : EvP K trs G M ds) : EvP K ((tk, tv) :: trs) G M ((k, v) :: ds) := fun F B as σ H ow sl Q q =>
  h1 F B as σ H ow sl _ fun x B1 as1 H1 g1 p1 o1 r1 => h2 F B1 as1 σ H1 o1 (sl.mono g1.1 p1) _ fun y B2 as2 H2 g2 p2 o2 r2 =>
    h3 F B2 as2 σ H2 o2 ((sl.mono g1.1 p1).mono g2.1 p2) _ fun ps B3 as3 H3 g3 p3 o3 r3 =>
      q _ B3 as3 H3 ((g1.trans g2).trans g3) ((p1.trans p2).trans p3) o3 ⟨(x, y), ps, rfl, ⟨Rp.mono (g2.trans g3).1 _ _ r1, Rp.mono g3.1 _ _ r2⟩, r3⟩
theorem strs_kV : ∀ ks : List (List Nat), ((ks.map tx).map V.str) = ((ks.map fun k => (Sum.inr (tx k) : Key)).map kV)
  | [] => rfl
  | k :: ks => by
    rw [List.map_cons, List.map_cons, List.map_cons, List.map_cons, strs_kV ks] <;> rfl
theorem ev_tupK {tr : TA} {ks : List (List Nat)} (ha : EvA K tr G M (ks.map fun k => Sl.d (.str k)) M1) (hl : ks.length ≤ 1000) : EvE K (tTup tr) G M (.d (keyD ks)) M1 := fun F B as σ H o sl Q q =>
  ha F B as σ H o sl _ fun vs B1 as1 H1 g1 p1 o1 r1 => ⟨by rw [r1.len, List.length_map]; exact Nat.le_trans hl (by decide), fun p hp => by
    have e : (ks.map fun k => Sl.d (.str k)) = (ks.map Dt.str).map Sl.d := by rw [List.map_map] <;> rfl
    rw [e] at r1
    have r2 := (SlL.data r1).strs
    have g2 := o1.gr hp (.tup vs)
    refine q _ _ as1 _ (g1.trans g2) p1 (o1.new hp _) fun H' s => ⟨p, rfl, s _ _ ?_⟩
    rw [upd_same, r2, strs_kV]⟩
theorem kta_of : ∀ {kvs : List (List (List Nat) × List Nat)} {ps : List (V × V)}, RpP K B (kvs.map fun p => (keyD p.1, Dt.str p.2)) ps → KTa B ps (kvs.map encT)
  | [], _, h => by
    rw [show _ = [] from h]
    exact .nil
  | p :: kvs, _, ⟨x, r, e, ⟨h1, h2⟩, h3⟩ => by
    subst e
    obtain ⟨a, e1, e2⟩ := h1 B (Same.refl B)
    exact .cons ⟨a, e1, e2, h2⟩ (kta_of h3)
theorem KTa.mono {H' : Hp} (e : Same B H') {ps : List (V × V)} {kvs : List (List Key × V)} (r : KTa B ps kvs) : KTa H' ps kvs := Paired.mapP r fun _ _ z => let ⟨b, h1, h2, h3⟩ := z; ⟨b, h1, e _ _ h2, h3⟩
theorem ev_dispT (kvs : List (List (List Nat) × List Nat)) (h : EvP K trs G M (kvs.map fun p => (keyD p.1, Dt.str p.2))) (hl : kvs.length ≤ 15) : EvE K (tDispT trs) G M (.d (dicT kvs)) M := fun F B as σ H ow sl Q q p hp => by
  obtain ⟨f1, f2, _⟩ := ow.fresh hp
  refine h (upd F p (.dT [])) B as σ _ (ow.frame hp _) sl _ fun ps B1 as1 H1 g1 p1 o1 r1 => ?_
  refine ⟨o1.fb p _ upd_same, kvs.map encT, KTa.mono o1.bb (kta_of r1), by rw [List.length_map]; exact hl, ?_⟩
  have b1 : B1 p = none := g1.2 p (by rw [upd_same]; exact ⟨fun z => (nomatch z), fun _ z => (nomatch z)⟩) f2
  exact q _ (upd B1 p _) as1 _ (g1.keep f1 f2 ⟨fun z => (nomatch z), fun _ z => (nomatch z)⟩) p1 (o1.keep f1 b1) fun H' s => ⟨p, rfl, s _ _ upd_same⟩
theorem vk_of : ∀ {kvs : List (List Nat × List Nat)} {ps : List (V × V)}, RpP K B (kvs.map fun p => (Dt.str p.1, Dt.str p.2)) ps → ps = (kvs.map encK).map fun kv => (kV kv.1, kv.2)
  | [], _, h => h
  | p :: kvs, _, ⟨x, r, e, ⟨h1, h2⟩, h3⟩ => by
    subst e
    obtain ⟨x1, x2⟩ := x
    have h1 : x1 = V.str (tx p.1) := h1
    have h2 : x2 = V.str (tx p.2) := h2
    rw [vk_of h3, h1, h2]
    rfl
theorem ev_dispK (kvs : List (List Nat × List Nat)) (h : EvP K trs G M (kvs.map fun p => (Dt.str p.1, Dt.str p.2))) (hl : kvs.length ≤ 15) : EvE K (tDisp trs) G M (.d (dicK kvs)) M := fun F B as σ H ow sl Q q p hp => by
  obtain ⟨f1, f2, _⟩ := ow.fresh hp
  refine h (upd F p (.dK [])) B as σ _ (ow.frame hp _) sl _ fun ps B1 as1 H1 g1 p1 o1 r1 => ?_
  refine ⟨o1.fb p _ upd_same, kvs.map encK, vk_of r1, by rw [List.length_map]; exact hl, ?_⟩
  have b1 : B1 p = none := g1.2 p (by rw [upd_same]; exact ⟨fun z => (nomatch z), fun _ z => (nomatch z)⟩) f2
  exact q _ (upd B1 p _) as1 _ (g1.keep f1 f2 ⟨fun z => (nomatch z), fun _ z => (nomatch z)⟩) p1 (o1.keep f1 b1) fun H' s => ⟨p, rfl, s _ _ upd_same⟩
/-- d.get(k, x) -/
theorem ev_getT {tx' : TE} {kvs : List (List (List Nat) × List Nat)} {ks : List (List Nat)} {x z : List Nat} (hd : EvE K td G M (.d (dicT kvs)) M1) (hk : EvE K ty G M1 (.d (keyD ks)) M2) (hx : EvE K tx' G M2 (.d (.str x)) M3)
    (hz : (valV (mergeT [] (kvs.map encT)) (ks.map fun k => (Sum.inr (tx k) : Key))).getD (.str (tx x)) = .str (tx z)) : EvE K (tDGet2 td ty tx') G M (.d (.str z)) M3 := fun F B as σ H ow sl Q q =>
  hd F B as σ H ow sl _ fun v B1 as1 H1 g1 p1 o1 r1 => by
    obtain ⟨a, rfl, ha⟩ := r1 B1 (Same.refl _)
    refine ⟨a, rfl, .inr ⟨_, .inl (o1.bb _ _ ha)⟩, hk F B1 as1 σ H1 o1 (sl.mono g1.1 p1) _ fun y B2 as2 H2 g2 p2 o2 r2 => hx F B2 as2 σ H2 o2 ((sl.mono g1.1 p1).mono g2.1 p2) _ fun u B3 as3 H3 g3 p3 o3 r3 => ?_⟩
    obtain ⟨b, rfl, hb⟩ := r2 B2 (Same.refl _)
    have r3 : u = .str (tx x) := r3
    subst r3
    refine ⟨_, .inr ⟨_, _, b, .inl (o3.bb _ _ (g3.1 _ _ (g2.1 _ _ ha))), rfl, o3.bb _ _ (g3.1 _ _ hb), rfl⟩, ?_⟩
    exact q _ B3 as3 H3 ((g1.trans g2).trans g3) ((p1.trans p2).trans p3) o3 hz
theorem ev_getK {tx' : TE} {kvs : List (List Nat × List Nat)} {k x z : List Nat} (hd : EvE K td G M (.d (dicK kvs)) M1) (hk : EvE K ty G M1 (.d (.str k)) M2) (hx : EvE K tx' G M2 (.d (.str x)) M3)
    (hz : (valV (mergeK [] (kvs.map encK)) (Sum.inr (tx k))).getD (.str (tx x)) = .str (tx z)) : EvE K (tDGet2 td ty tx') G M (.d (.str z)) M3 := fun F B as σ H ow sl Q q =>
  hd F B as σ H ow sl _ fun v B1 as1 H1 g1 p1 o1 r1 => by
    obtain ⟨a, rfl, ha⟩ := r1 B1 (Same.refl _)
    refine ⟨a, rfl, .inl ⟨_, .inl (o1.bb _ _ ha)⟩, hk F B1 as1 σ H1 o1 (sl.mono g1.1 p1) _ fun y B2 as2 H2 g2 p2 o2 r2 => hx F B2 as2 σ H2 o2 ((sl.mono g1.1 p1).mono g2.1 p2) _ fun u B3 as3 H3 g3 p3 o3 r3 => ?_⟩
    have r2 : y = .str (tx k) := r2
    have r3 : u = .str (tx x) := r3
    subst r3; subst r2
    refine ⟨_, .inl ⟨_, (Sum.inr (tx k) : Key), .inl (o3.bb _ _ (g3.1 _ _ (g2.1 _ _ ha))), rfl, rfl⟩, ?_⟩
    exact q _ B3 as3 H3 ((g1.trans g2).trans g3) ((p1.trans p2).trans p3) o3 hz
end
/-! ### == of lists of texts -/
section
variable {K : PySem.W.Frag}
theorem dp_strs {H : Hp} : ∀ xs : List (List Nat), DpAll K H ((xs.map tx).map V.str) (xs.map fun x => PyData.str (tx x))
  | [] => .nil
  | x :: xs => .cons (.str _) (dp_strs xs)
theorem tx_beq (x y : List Nat) : (tx x == tx y) = decide (x = y) := by
  by_cases h : x = y
  · subst h
    rw [decide_eq_true rfl, beq_self_eq_true]
  · rw [decide_eq_false h]
    refine beq_eq_false_iff_ne.mpr fun e => h ?_
    have e2 : (tx x).cps = (tx y).cps := congrArg _ e
    simpa using congrArg Array.toList e2
theorem eqv_strs : ∀ xs ys : List (List Nat), PyData.eqvAll (xs.map fun x => PyData.str (tx x)) (ys.map fun x => PyData.str (tx x)) = decide (xs = ys)
  | [], [] => rfl
  | [], _ :: _ => rfl
  | _ :: _, [] => rfl
  | x :: xs, y :: ys => by
    show ((tx x == tx y) && PyData.eqvAll (xs.map _) (ys.map _)) = _
    rw [eqv_strs xs ys, tx_beq]
    by_cases h : x = y
    · subst h
      rw [decide_eq_true rfl, Bool.true_and]
      simp
    · rw [decide_eq_false h, Bool.false_and]
      simp [h]
def Asc (l : List Nat) : Prop := ∀ c ∈ l, c < 128
theorem lay_strs : ∀ xs : List (List Nat), (∀ x ∈ xs, Asc x) → PyData.canLayAll0 (xs.map fun x => PyData.str (tx x)) = true ∧ PyData.depthAll (xs.map fun x => PyData.str (tx x)) = 0
  | [], _ => ⟨rfl, rfl⟩
  | x :: xs, h => by
    obtain ⟨h1, h2⟩ := lay_strs xs fun y hy => h y (List.mem_cons_of_mem _ hy)
    have hx := h x List.mem_cons_self
    have h3 : PyData.strOk (tx x) = true := by
      unfold PyData.strOk
      show x.toArray.all _ = true
      rw [← Array.all_toList]
      show x.all _ = true
      rw [List.all_eq_true]
      intro c hc
      exact decide_eq_true (Nat.lt_trans (hx c hc) (by decide))
    refine ⟨?_, ?_⟩
    · show (PyData.strOk (tx x) && PyData.canLayAll0 _) = true
      rw [h3, h1] <;> rfl
    · show max 0 (PyData.depthAll _) = 0
      rw [h2] <;> rfl
theorem shp_strs {xs : List (List Nat)} (h : ∀ x ∈ xs, Asc x) : SeqAt.shaped (.list (xs.map fun x => PyData.str (tx x))) = true := by
  obtain ⟨h1, h2⟩ := lay_strs xs h
  unfold SeqAt.shaped
  rw [Bool.and_eq_true]
  refine ⟨h1, decide_eq_true ?_⟩
  show PyData.depthAll _ + 1 ≤ 64
  rw [h2]
  decide
theorem ro_eqTs {xs ys : List (List Nat)} (hx : ∀ x ∈ xs, Asc x) (hy : ∀ x ∈ ys, Asc x) : RO K (rEqD K) (.lst (xs.map .str)) (.lst (ys.map .str)) (.bl (decide (xs = ys))) := fun F B as M H v u Q ow r1 r2 q => by
  obtain ⟨a, vs, e1, h1, h2⟩ := r1
  obtain ⟨b, us, e2, h3, h4⟩ := r2
  have h2 := h2.strs
  have h4 := h4.strs
  subst h2; subst h4; subst e1; subst e2
  refine ⟨_, _, .lst (ow.bb.seq h1) (dp_strs xs), .lst (ow.bb.seq h3) (dp_strs ys), shp_strs hx, shp_strs hy, q _ B H (Gr.refl F B) ow ?_⟩
  show V.bl (PyData.eqvAll _ _) = _
  rw [eqv_strs]
end
end DJ
namespace DJ
open PySem PySem.Spec PyProof.Rows L2
/-! ### lists that are put together -/
def lstX (K : PySem.W.Frag) (xs : List Dt) : Dt := .ext fun H v => ∃ a vs, v = .ref a ∧ H a = some (.lst vs) ∧ RpL K H xs vs
section
variable {K : PySem.W.Frag} {B H : Hp} {G : List (Option Sl)} {M M1 M2 M3 : List MO} {te : TE} {x y : Dt}
theorem ev_wk (h : EvE K te G M (.d x) M1) (w : ∀ B v, Rp K B x v → Rp K B y v) : EvE K te G M (.d y) M1 := fun F B as σ H o sl Q q =>
  h F B as σ H o sl _ fun v B1 as1 H1 g1 p1 o1 r1 => q v B1 as1 H1 g1 p1 o1 (w B1 v r1)
theorem lstX_lst {xs : List Dt} (B : Hp) (v : V) (h : Rp K B (lstX K xs) v) : Rp K B (.lst xs) v := by
  obtain ⟨a, vs, e, h1, h2⟩ := h B (Same.refl B)
  exact ⟨a, vs, e, .inl (.inl h1), h2⟩
theorem ev_lstX {tr : TA} {xs : List Dt} (ha : EvA K tr G M (xs.map Sl.d) M1) (hl : xs.length ≤ 1000) : EvE K (tLst tr) G M (.d (lstX K xs)) M1 := fun F B as σ H o sl Q q =>
  ha F B as σ H o sl _ fun vs B1 as1 H1 g1 p1 o1 r1 => ⟨by rw [r1.len, List.length_map]; exact Nat.le_trans hl (by decide), fun p hp => by
    have g2 := o1.gr hp (.lst vs)
    exact q _ _ as1 _ (g1.trans g2) p1 (o1.new hp _) fun H' s => ⟨p, vs, rfl, s _ _ upd_same, RpL.mono (g2.1.trans s) _ _ (SlL.data r1)⟩⟩
theorem ro_cat {xs ys : List Dt} (h : xs.length + ys.length ≤ 100000) : RO K rCat (lstX K xs) (lstX K ys) (lstX K (xs ++ ys)) := fun F B as M H v u Q ow r1 r2 q => by
  obtain ⟨a, vs, e1, h1, h2⟩ := r1 B (Same.refl B)
  obtain ⟨b, us, e2, h3, h4⟩ := r2 B (Same.refl B)
  refine ⟨a, b, vs, us, e1, e2, ow.bb _ _ h1, ow.bb _ _ h3, by rw [h2.len, h4.len]; exact Nat.le_trans h (by decide), fun p hp => ?_⟩
  have g2 := ow.gr hp (.lst (vs ++ us))
  exact q _ _ _ g2 (ow.new hp _) fun H' s => ⟨p, _, rfl, s _ _ upd_same, RpL.append (RpL.mono (g2.1.trans s) _ _ h2) (RpL.mono (g2.1.trans s) _ _ h4)⟩
theorem RpL.rep {xs : List Dt} {vs : List V} (h : RpL K H xs vs) : ∀ n : Nat, RpL K H (List.replicate n xs).flatten (List.replicate n vs).flatten
  | 0 => rfl
  | n + 1 => by
    rw [List.replicate_succ, List.replicate_succ, List.flatten_cons, List.flatten_cons]
    exact RpL.append h (RpL.rep h n)
theorem ro_rep {xs : List Dt} {k : Nat} (h : xs.length * k ≤ 100000) (hk : k ≤ 100000) : RO K rRep (lstX K xs) (.int (k : Int)) (lstX K (List.replicate k xs).flatten) := fun F B as M H v u Q ow r1 r2 q => by
  obtain ⟨a, vs, e1, h1, h2⟩ := r1 B (Same.refl B)
  have r2 : u = .int (k : Int) := r2
  refine ⟨a, (k : Int), vs, e1, r2, ow.bb _ _ h1, by omega, by omega, by rw [h2.len, Int.toNat_natCast]; exact Nat.le_trans h (by decide), fun p hp => ?_⟩
  have g2 := ow.gr hp (.lst (List.replicate (k : Int).toNat vs).flatten)
  rw [Int.toNat_natCast] at g2 ⊢
  exact q _ _ _ g2 (ow.new hp _) fun H' s => ⟨p, _, rfl, s _ _ upd_same, RpL.mono (g2.1.trans s) _ _ (RpL.rep h2 k)⟩
/-- the one owned thing is handed on -/
theorem ev_w {E : XK} {n : Nat} {R : List Sl → List MO → Sl → List MO → Prop} {ta : TA} {ds : List Dt} {m m' : MO} {z : Dt} (h : EvA K ta G M (.o 0 :: ds.map Sl.d) [m]) (hg : m ≠ .gone) (hR : R (.o 0 :: ds.map Sl.d) [m] (.d z) [m']) (hg' : m' ≠ .gone) (hn : ds.length + 1 = n) :
    EvE K (tCall (SpR K n R) [] E ta) G M (.d z) [m'] := by
  have e : (.o 0 :: ds.map Sl.d : List Sl).map (to0 0) = .o 0 :: ds.map Sl.d := by
    rw [List.map_cons, List.map_map]
    congr 1
  have := ev_call1 (k := 0) (es := []) (dvs := []) (E := E) (n := n) (R := R) (z := z) h rfl hg (fun s hs j e => ?_) (by rw [e, List.map_nil, List.append_nil]; exact hR) hg' (by rw [List.length_cons, List.length_map]; exact hn) (fun _ => rfl)
  · exact this
  · rcases List.mem_cons.mp hs with z | z
    · rw [e] at z; cases z; rfl
    · obtain ⟨d, _, hd⟩ := List.mem_map.mp z
      rw [e] at hd; cases hd
theorem es_nM {t : TS} {o : Out} {M' : List MO} (e : M = M') (h : EvS K t G M' o) : EvS K t G M o := e ▸ h
end
/-- words of few signs -/
def Wd (n : Nat) (l : List Nat) : Prop := l.length ≤ n ∧ Asc l
theorem Wd.mono {n m : Nat} {l : List Nat} (h : Wd n l) (e : n ≤ m) : Wd m l := ⟨Nat.le_trans h.1 e, h.2⟩
theorem Wd.app {n m k : Nat} {l l' : List Nat} (h : Wd n l) (h' : Wd m l') (e : n + m ≤ k) : Wd k (l ++ l') := ⟨by rw [List.length_append]; have := h.1; have := h'.1; omega, fun c hc => (List.mem_append.mp hc).elim (h.2 c) (h'.2 c)⟩
theorem Wd.take {n : Nat} {l : List Nat} (h : Wd n l) (k : Nat) : Wd n (l.take k) := ⟨by rw [List.length_take]; have := h.1; omega, fun c hc => h.2 c (List.mem_of_mem_take hc)⟩
theorem Wd.drop {n : Nat} {l : List Nat} (h : Wd n l) (k : Nat) : Wd n (l.drop k) := ⟨by rw [List.length_drop]; have := h.1; omega, fun c hc => h.2 c (List.mem_of_mem_drop hc)⟩
instance (l : List Nat) : Decidable (Asc l) := inferInstanceAs (Decidable (∀ c ∈ l, c < 128))
instance (n : Nat) (l : List Nat) : Decidable (Wd n l) := inferInstanceAs (Decidable (l.length ≤ n ∧ ∀ c ∈ l, c < 128))
theorem Wd.flat {n : Nat} : ∀ {xs : List (List Nat)}, (∀ x ∈ xs, Wd n x) → Wd (n * xs.length) xs.flatten
  | [], _ => ⟨Nat.zero_le _, fun _ h => nomatch h⟩
  | x :: xs, h => by
    rw [List.flatten_cons]
    exact Wd.app (h x List.mem_cons_self) (Wd.flat fun y hy => h y (List.mem_cons_of_mem _ hy)) (by rw [List.length_cons, Nat.mul_succ]; omega)
theorem mapA_all {μ β γ : Type} {f : μ → β → γ × μ} {p : γ → Prop} (h : ∀ m x, p (f m x).1) : ∀ (xs : List β) (m : μ), ∀ y ∈ (mapA f xs m).1, p y
  | [], _, _, hy => nomatch hy
  | x :: xs, m, y, hy => by
    rcases List.mem_cons.mp hy with e | hy
    · rw [e]; exact h m x
    · exact mapA_all h xs _ y hy
theorem mapA_len {μ β γ : Type} {f : μ → β → γ × μ} : ∀ (xs : List β) (m : μ), (mapA f xs m).1.length = xs.length
  | [], _ => rfl
  | x :: xs, m => by
    show (mapA f xs _).1.length + 1 = _
    rw [mapA_len xs, List.length_cons]
theorem flat_one : ∀ l : List Nat, (l.map fun c => [c]).flatten = l
  | [] => rfl
  | c :: l => by
    rw [List.map_cons, List.flatten_cons, flat_one l] <;> rfl
theorem sum_one : ∀ l : List Nat, (l.map fun c => ([c] : List Nat).length).sum = l.length
  | [] => rfl
  | c :: l => by
    rw [List.map_cons, List.sum_cons, sum_one l, List.length_cons]
    exact Nat.add_comm 1 l.length
end DJ
namespace DJ
open PySem PySem.Spec PyProof.Rows L2
/-! ### called by names -/
structure CalF (P : Program) (w : World) (K : PySem.W.Frag) (mg : Str → Option Value) (base : Heap) (k : Nat) (x : Str) (st : Stmt) (ps : List Str) (sp : Sp) : Prop where
  ex : ∃ (f : Addr) (fd : FuncData), FnOk P w K mg base CX0 k f fd ps sp ∧ L2.Fun K x x st f fd ∧ mg x = some (.ref f) ∧ Binds K fd ps []
abbrev gCat (us ws : List Value) : List Value := us ++ ws
abbrev gCatV (us ws : List V) : List V := us ++ ws
structure CalK (P : Program) (w : World) (K : PySem.W.Frag) (mg : Str → Option Value) (base : Heap) (k : Nat) (x : Str) (ks : List Str) (sp : Sp) : Prop where
  ex : ∃ (f : Addr) (fd : FuncData) (ps : List Str), FnOk P w K mg base CX0 k f fd ps sp ∧ mg x = some (.ref f) ∧ PySem.W.keepIn K (.ref f) = true ∧ KBinds K fd ps ks gCat gCatV
section
variable {P : Program} {w : World} {K : PySem.W.Frag} {mg : Str → Option Value} {base : Heap}
theorem CalF.cal {k : Nat} {x : Str} {st : Stmt} {ps : List Str} {sp : Sp} (c : CalF P w K mg base k x st ps sp) : Cal P w K mg base k x sp [] := by
  obtain ⟨f, fd, F, U, hm, b⟩ := c.ex
  exact ⟨f, fd, ps, [], F, hm, U.kp, b, .nil⟩
theorem CalF.kw {k : Nat} {x y : Str} {st : Stmt} {sp : Sp} (c : CalF P w K mg base k x st [y] sp)
    (h : ∀ (kV doc pm : Value) (an : Option Addr) (cdv ct u : Value), bindArgs (PySem.W.fnOf x x (defArgs st) (defBody st) (defScope st) .none kV doc pm an cdv ct) ⟨[], [(y, u)]⟩ = pure [(y, u)]) : CalK P w K mg base k x [y] sp := by
  obtain ⟨f, fd, F, U, hm, b⟩ := c.ex
  refine ⟨f, fd, [y], F, hm, U.kp, ⟨fun s us ws hK hl => ?_, fun r1 r2 => Vals.append r1 r2⟩⟩
  have hl : (us ++ ws).length = 1 := hl
  match us, ws, hl with
  | [u], [], _ => exact b s [u] hK rfl
  | [], [u], _ =>
    obtain ⟨oc, od, kV, doc, pm, an, cdv, ct, osl, rfl, lk, hcd⟩ := U.ex
    exact .of_eq (h kV doc pm an cdv ct u)
theorem cal_mkF {x : Str} {st : Stmt} {N ps : List Str} {k n : Nat} {R : List Sl → List MO → Sl → List MO → Prop} (D : Df K mg x st ps) (S : FnScope N ps (defScope st)) (hn : ps.length = n)
    (hb : ∀ (f : Addr) (cdv : Value) (A : Around) (outer : List Env) (s : Shared) (H : Hp) (E : XK), Room k (A.deeper (envOfC x (defScope st) s.heap.objs.size f cdv)) → ∀ ss M r M', R ss M r M' →
      ∃ t X, PSs (cxOf CX0 P w K mg base N x (defScope st) f cdv A outer s H E).nox (defBody st) t ∧ EvS K t (start N.length ss) M (.rt r (M' ++ X)) ∧ M.length ≤ M'.length ∧ ∀ j, r = .o j → j < M'.length) :
    CalF P w K mg base (k + 1) x st ps (SpR K n R) := by
  obtain ⟨f, fd, F, hm, b⟩ := D.ex
  refine ⟨f, fd, F.ok S (fun vs H Q E h => ?_) (fun cdv A outer s H vs Q E hr h => ?_), F, hm, b⟩
  · obtain ⟨_, _, _, _, _, _, _, _, _, _, e, _⟩ := h
    rw [e, hn]
  · obtain ⟨F', B, as, ss, M, r, M', hR, ow, sl, _, q⟩ := h
    obtain ⟨t, X, ht, he, hl, hr'⟩ := hb f cdv A outer s H E hr ss M r M' hR
    exact ⟨t, ht, run_body (X := X) he hl hr' ow sl q⟩
end
section
variable {X : Cx} {k j : Nat} {x : Str} {ks : List Str} {sp : Sp} {p pos : Pos} {kws : List Keyword} {tk : TA}
theorem pe_cK (c : CalK X.prog X.w X.K X.mg X.base k x ks sp) (hr : Room j X.A) (hk : k ≤ j) (hg : Gl X x) (hkw : PK X kws tk)
    (hall : (backToKw pos (keywordEach kws X.env)).all (·.1.isSome) = true := by rfl) (hks : (backToKw pos (keywordEach kws X.env)).filterMap (·.1) = ks := by rfl) (hdb : (x == ("__debug__" : Str)) = false := by decide)
    (hpl : ((backTo pos (starEach [] X.env)).any (·.1) || (backToKw pos (keywordEach kws X.env)).any (·.1.isNone)) = false := by rfl) : PE X (.Call (.Name x p) [] kws pos) (tCallK sp gCatV L2.E0 tNil tk) := by
  obtain ⟨f, fd, ps, F, hm, kp, hb⟩ := c.ex
  refine ⟨fun pins s σ H Q I h => ?_⟩
  refine wpAny_Call_Name_kw (ld_glob I hg hm ?_ hdb)
  refine PySem.W.callWith_KW0 (h₀ := X.base) I.ok.mod.kin kp hall (thn (hkw.run pos pins s σ H _ I h) fun ws s2 r2 => ?_) hpl
  obtain ⟨zs, H2, I2, rz, q2⟩ := r2
  refine ⟨I2.kIn, ?_⟩
  rw [hks]
  exact run_fnk (us := []) (vs := []) F (hr.mono hk) hb L2.pass0 I2 .nil rz q2
end
section
variable {K : PySem.W.Frag} {G : List (Option Sl)} {M M1 : List MO} {sp : Sp} {E : XK} {tk : TA} {s : Sl}
theorem ev_kw (h : EvE K (tCall sp [] E tk) G M s M1) : EvE K (tCallK sp gCatV E tNil tk) G M s M1 := by
  have e : tCallK sp gCatV E tNil tk = tCall sp [] E tk := by
    funext σ H Q
    show tk σ H (fun zs H2 => sp ([] ++ zs) H2 Q E) = tk σ H (fun zs H2 => sp (zs ++ []) H2 Q E)
    simp only [List.append_nil, List.nil_append]
  rw [e]
  exact h
end
/-! ### what was made for a turn is let go -/
section
variable {K : PySem.W.Frag} {G G1 : List (Option Sl)} {M X M1 : List MO} {t : TS} {wi : TI} {te : TE}
theorem es_nxT (h : EvS K t G M (.nx G1 (M ++ X))) (hg : ∀ k, some (Sl.o k) ∉ G1) : EvS K t G M (.nx G1 M) := fun F B as σ H ow sl D gd =>
  h F B as σ H ow sl D fun B' as' σ' H' g p o' s' => by
    obtain ⟨tl, rfl⟩ := p
    refine gd B' as σ' H' g (Px.refl as) ⟨o'.fb, o'.bb, ow.len, ow.nd, fun a ha => o'.al a (List.mem_append_left _ ha), fun a ha => o'.fa a (List.mem_append_left _ ha), fun k a m e1 e2 hm => ?_⟩ ⟨s'.1, fun i s e => ?_⟩
    · refine o'.own k a m ?_ ?_ hm
      · rw [List.getElem?_append_left (List.getElem?_eq_some_iff.mp e1).1]
        exact e1
      · rw [List.getElem?_append_left (List.getElem?_eq_some_iff.mp e2).1]
        exact e2
    · obtain ⟨v, e1, r⟩ := s'.2 i s e
      refine ⟨v, e1, ?_⟩
      cases s with
      | d x => exact r
      | o k => exact absurd (List.mem_of_getElem? e) (hg k)
theorem ei_is {xs ys : List Dt} (h : EvI K wi G M xs M1) (e : xs = ys) : EvI K wi G M ys M1 := e ▸ h
end
/-- a law's promise, asked with a list of whole numbers -/
theorem sp_of {K : PySem.W.Frag} {R : List Sl → List MO → Sl → List MO → Prop} {H : Hp} {a : Addr} {ns : List Int} {E : XK} (hS : SqL K H a (ns.map V.int)) (hR : R [.d (.lst (ns.map .int))] [] (.d (.bl true)) []) : SpR K 1 R [.ref a] H (fun v _ => v = .bl true) E := by
  have ri : ∀ ns : List Int, RpL K H (ns.map Dt.int) (ns.map V.int) := fun ns => by
    induction ns with
    | nil => rfl
    | cons n ns ih => exact ⟨_, _, rfl, rfl, ih⟩
  refine ⟨fun _ => none, H, [], _, [], _, [], hR, ⟨fun _ _ e => (nomatch e), Same.refl H, rfl, List.nodup_nil, fun _ h => (nomatch h), fun _ h => (nomatch h), fun k a m e => by simp at e⟩, ⟨.ref a, [], rfl, ⟨a, _, rfl, hS, ri ns⟩, rfl⟩, rfl, fun v B' as' H' _ _ _ r => ?_⟩
  exact r
section
variable {K : PySem.W.Frag} {mg : Str → Option Value} {h : Heap}
theorem df_mk {x : Str} {st : Stmt} {ps : List Str} {f : Addr} {oc : Value} {od an : Option Addr} {osl : Array (Option Value)} {kV doc pm cdv ct : Value} (X : K.In h) (G : h.Ns mainGlobals mg) (a : PySem.W.nsIn K mainGlobals x = some (some (.ref f)))
    (l : K.lookup f = some ⟨oc, od, .func (PySem.W.fnOf x x (defArgs st) (defBody st) (defScope st) .none kV doc pm an cdv ct), osl⟩) (c : PySem.W.codeIn K cdv x = true) (k : PySem.W.keepIn K (.ref f) = true)
    (hb : ∀ (kV doc pm : Value) (an : Option Addr) (cdv ct : Value) (us : List Value), us.length = ps.length → bindArgs (PySem.W.fnOf x x (defArgs st) (defBody st) (defScope st) .none kV doc pm an cdv ct) ⟨us, []⟩ = pure (ps.zip us)) : Df K mg x st ps :=
  ⟨f, _, fun_mk l c k, PySem.W.mg_of X G a, (fun_mk l c k).binds hb⟩
theorem gc_str {x : Str} {l : List Nat} {t : Tok} (X : K.In h) (G : h.Ns mainGlobals mg) (a : PySem.W.nsIn K mainGlobals x = some (some (.str (tx l) t))) : Gc K mg x (.str l) := ⟨.str (tx l), _, PySem.W.mg_of X G a, ⟨t, rfl⟩, fun _ => rfl⟩
theorem gc_int {x : Str} {i : Int} {t : Tok} (X : K.In h) (G : h.Ns mainGlobals mg) (a : PySem.W.nsIn K mainGlobals x = some (some (.int i t))) : Gc K mg x (.int i) := ⟨.int i, _, PySem.W.mg_of X G a, ⟨t, rfl⟩, fun _ => rfl⟩
/-- these values are these texts -/
def strsOf : List (List Nat) → List Value → Bool
  | [], [] => true
  | l :: ls, .str x _ :: vs => decide (x = tx l) && strsOf ls vs
  | _, _ => false
theorem vals_strs : ∀ {ls : List (List Nat)} {vs : List Value}, strsOf ls vs = true → Vals ((ls.map tx).map V.str) vs
  | [], [], _ => .nil
  | l :: ls, .str x t :: vs, h => by
    have h : (decide (x = tx l) && strsOf ls vs) = true := h
    rw [Bool.and_eq_true, decide_eq_true_eq] at h
    exact .cons ⟨t, by rw [h.1]⟩ (vals_strs h.2)
  | [], _ :: _, h => by cases h
  | _ :: _, [], h => by cases h
  | _ :: _, .none :: _, h => by cases h
  | _ :: _, .bool _ :: _, h => by cases h
  | _ :: _, .int _ _ :: _, h => by cases h
  | _ :: _, .ref _ :: _, h => by cases h
theorem gc_tup {x : Str} {ls : List (List Nat)} {a : Addr} {oc : Value} {od : Option Addr} {its : Array Value} {n : Nat} {sl : Array (Option Value)} (X : K.In h) (G : h.Ns mainGlobals mg) (e : PySem.W.nsIn K mainGlobals x = some (some (.ref a)))
    (l : K.lookup a = some ⟨oc, od, .seq its n, sl⟩) (hc : oc = .type "tuple") (hz : its.size ≤ 1000) (hs : strsOf ls its.toList = true) : Gc K mg x (.tup (ls.map Dt.str)) :=
  ⟨.ref a, _, PySem.W.mg_of X G e, rfl, fun B => ⟨a, _, rfl, .inr ⟨_, its, n, l, hc, rfl, Nat.le_trans hz (by decide), vals_strs hs⟩, RpL.strs_of ls⟩⟩
end
end DJ
namespace DJ
open PySem PySem.W PyProof.Rows PySem.Spec L2
/-! ### the order of tuples of two texts -/
def txo : Option Value → Str
  | some (.str x _) => x
  | _ => ⟨#[]⟩
def itemsAt (h : Heap) (a : Addr) : List Value := match h.get? a with
  | some o => (match o.data with
    | .seq xs _ => xs.toList
    | _ => [])
  | none => []
def twoAt (h : Heap) : Value → Str × Str
  | .ref a => (txo (itemsAt h a)[0]?, txo (itemsAt h a)[1]?)
  | _ => (⟨#[]⟩, ⟨#[]⟩)
/-- v is a tuple of two texts -/
def Two (h : Heap) (v : Value) (e : Str × Str) : Prop := ∃ (a : Addr) (t u : Tok), v = .ref a ∧ IsTup h a #[.str e.1 t, .str e.2 u]
theorem Two.at {h : Heap} {v : Value} {e : Str × Str} (x : Two h v e) : twoAt h v = e := by
  obtain ⟨a, t, u, rfl, o, ho, hc, n, hd⟩ := x
  have z : itemsAt h a = [.str e.1 t, .str e.2 u] := by
    unfold itemsAt
    rw [ho]
    show (match o.data with
      | .seq xs _ => xs.toList
      | _ => []) = _
    rw [hd]
  show (txo (itemsAt h a)[0]?, txo (itemsAt h a)[1]?) = e
  rw [z] <;> rfl
theorem Two.keeps {h h' : Heap} {v : Value} {e : Str × Str} (x : Two h v e) (k : ∀ b o, h.get? b = some o → o.cls = .type "tuple" → h'.get? b = some o) : Two h' v e := by
  obtain ⟨a, t, u, e1, o, ho, hc, r⟩ := x
  exact ⟨a, t, u, e1, o, k _ _ ho hc, hc, r⟩
def lex2 (e f : Str × Str) : Bool := if e.1 = f.1 then decide (e.2.cps.toList < f.2.cps.toList) else decide (e.1.cps.toList < f.1.cps.toList)
theorem firsts2 {h : Heap} : ∀ vs : List Value, (∀ v ∈ vs, ∃ e, Two h v e) → ∃ fs : List Value, KatTups h vs fs ∧ fs.length = vs.length ∧ ∀ f ∈ fs, ∃ (x : Str) (t : Tok), f = Value.str x t
  | [], _ => ⟨[], KatTups.nil, rfl, fun f hf => by simp at hf⟩
  | v :: vs, x => by
    obtain ⟨fs, k, hl, hi⟩ := firsts2 vs fun u hu => x u (List.mem_cons_of_mem _ hu)
    obtain ⟨e, a, t, u, rfl, o, ho, hc, n, hd⟩ := x v List.mem_cons_self
    refine ⟨.str e.1 t :: fs, KatTups.cons ho hc hd rfl k, by rw [List.length_cons, List.length_cons, hl], fun f hf => ?_⟩
    rcases List.mem_cons.mp hf with e1 | hf
    · exact ⟨_, _, e1⟩
    · exact hi f hf
section
variable {prog : Program} {w : World} {A : Around} {E : Value → Shared → Prop} {s : Shared}
theorem kind2 {vs : List Value} {ρ : Str × Str → Int} (h2 : 2 ≤ vs.length) (x : ∀ v ∈ vs, ∃ e, Two s.heap v e)
    (hρ : ∀ v ∈ vs, ∀ u ∈ vs, lex2 (twoAt s.heap v) (twoAt s.heap u) = decide (ρ (twoAt s.heap v) < ρ (twoAt s.heap u))) (Q : SortKind → Shared → Prop)
    (h : ∀ κ, TS.Cmp prog w A s κ (pairsOf vs) (fun v => ρ (twoAt s.heap v)) → Q κ s) : wpAny (model prog w) A (keyKind' vs.toArray) Q E s := by
  obtain ⟨fs, k, hl, hi⟩ := firsts2 vs x
  refine kat_kind (T := Value.type "str") k (by omega) (fun f hf => ?_) rfl (h _ ?_)
  · obtain ⟨y, t, rfl⟩ := hi f hf
    exact PySem.W.Looks.of_pure rfl
  · have hb : (Value.type "str" != Value.type "tuple") = true := by first | rfl | decide | simp
    rw [hb]
    intro p q hp hq Q' E' hQ
    rw [pairsOf_toList] at hp hq
    have mp := (mem_zip_self hp).2
    have mq := (mem_zip_self hq).2
    obtain ⟨e, pe⟩ := x _ mp
    obtain ⟨f, pf⟩ := x _ mq
    have hr := hρ _ mp _ mq
    have hQ' : Q' (lex2 e f) s := by
      rw [pe.at, pf.at] at hr
      rw [hr]
      have hQ2 : Q' (decide (ρ (twoAt s.heap p.1) < ρ (twoAt s.heap q.1))) s := hQ
      rw [pe.at, pf.at] at hQ2
      exact hQ2
    obtain ⟨a, t, u, e1, o, ho, hc, n, hd⟩ := pe
    obtain ⟨a', t', u', e2, o', ho', hc', n', hd'⟩ := pf
    rw [e1, e2]
    refine kat_lt ho hd ho' hd' ?_
    show KatLex prog w A true false Q' [(Value.str e.1 t, Value.str f.1 t'), (Value.str e.2 u, Value.str f.2 u')] 0 s
    refine kat_cons (wpAny_eqBool_str (kat_go (fun e0 => ?_) (fun e0 => ?_)))
    · have e0 : e.1 = f.1 := of_decide_eq_true e0
      have z : lex2 e f = decide (e.2.cps.toList < f.2.cps.toList) := if_pos e0
      rw [z] at hQ'
      refine kat_yes (kat_cons (wpAny_eqBool_str (kat_go (fun e3 => ?_) (fun e3 => ?_))))
      · have e3 : e.2 = f.2 := of_decide_eq_true e3
        refine kat_yes (kat_nil ?_)
        have irr : decide (e.2.cps.toList < f.2.cps.toList) = false := by
          rw [e3]
          first | exact decide_eq_false (List.lt_irrefl _) | simp
        rw [irr] at hQ'
        exact hQ'
      · refine kat_no ?_
        show wpAny _ _ (oneLt' false _ _) _ _ _
        exact kat_one _ _ (PyProof.Rows.lt_str hQ')
    · have e0 : ¬ e.1 = f.1 := of_decide_eq_false e0
      have z : lex2 e f = decide (e.1.cps.toList < f.1.cps.toList) := if_neg e0
      rw [z] at hQ'
      refine kat_no ?_
      show wpAny _ _ (oneLt' true _ _) _ _ _
      exact oneLt_str hQ'
end
/-! ### sorted(d), the keys tuples of two texts -/
abbrev keyOf2 (e : Str × Str) : List Key := [Sum.inr e.1, Sum.inr e.2]
def rSort2 : List V → Hp → VK → Prop := fun vs H Q => ∃ (a : Addr) (kvs : List (List Key × V)) (ks : List (Str × Str)) (ρ : Str × Str → Int), vs = [.ref a] ∧ H a = some (.dT kvs) ∧ kvs.map (·.1) = ks.map keyOf2 ∧ ks.length < 64 ∧
  (∀ e ∈ ks, ∀ f ∈ ks, lex2 e f = decide (ρ e < ρ f)) ∧
  ∀ (l : Addr) (ps : List (Addr × Str × Str)), H l = none → (ps.map (·.2)).Perm ks → (ps.map (·.2)).Pairwise (fun e f => ρ e ≤ ρ f) → (∀ z ∈ ps, H z.1 = some (.tup [.str z.2.1, .str z.2.2])) → Q (.ref l) (upd H l (.lst (ps.map fun z => V.ref z.1)))
section
variable {X : Cx}
theorem cr_sort2 (hc : X.calm = true) : CallR X (.builtin "sorted") rSort2 := by
  intro pins s σ H xs us Q I r h
  obtain ⟨a, kvs, ks, ρ, rfl, ha, hks, h64, hρ, q⟩ := h
  obtain rfl := Vals.ref1 r
  obtain ⟨z, hd, xs', rel, o, es, ep, ho, hx, hdat, hes, his, hn⟩ := dt_of I.hok ha
  have l1 : kvs.length = xs'.length := Paired.length rel
  have l2 : es.size = xs'.length := size_of_entries hes
  have l3 : kvs.length = ks.length := by
    have e := congrArg List.length hks
    rw [List.length_map, List.length_map] at e
    exact e
  have hh : X.A.handled = none := I.ok.hd hc
  refine PySem.Calls.call_function_entry PyProof.Rows.kind_sorted PyProof.Rows.plain_sorted PyProof.Rows.entry_sorted (PyProof.Rows.args_sorted1 _) ?_
  unfold Builtin.«sorted»
  refine wpAny_bind (m := checkCount "sorted" 1 1 _) (wpAny_pure ?_)
  refine wpAny_bind (PySem.W.kdu_collect (A := X.A.in1) (kdl_raw (prog := X.prog) (w := X.w) hd hx hdat) hh ho (by rw [sizeLine_eq]; omega) fun h' tk acc hk hacc => ?_)
  have ea : acc.toList = (xs'.map fun x => x.2.1).map Value.ref := by
    have hl : acc.toList.length = xs'.length := by rw [Array.length_toList, hacc.1]; exact l2
    refine List.ext_getElem? fun j => ?_
    rw [List.getElem?_map, List.getElem?_map]
    cases hj : acc.toList[j]? with
    | none =>
      have h1 := List.getElem?_eq_none_iff.mp hj
      rw [List.getElem?_eq_none (by omega)] <;> rfl
    | some v =>
      obtain ⟨en, hen, hv⟩ := hacc.2 j v (by rw [← Array.getElem?_toList]; exact hj)
      have qe := entry_at hes j
      rw [hen] at qe
      cases hb : xs'[j]? with
      | none =>
        rw [hb] at qe
        exact nomatch (show some en = none from qe)
      | some b =>
        rw [hb] at qe
        have e2 : en = entryOfKey (tupleKind (mixKind X.prog X.w)) b := Option.some.inj qe
        rw [hv, e2] <;> rfl
  generalize hbs : (xs'.map fun x => x.2.1) = bs at ea
  have lb : bs.length = ks.length := by rw [← hbs, List.length_map]; omega
  -- each key's tuple
  have key : ∀ (j : Nat) (b : Addr), bs[j]? = some b → ∃ e, ks[j]? = some e ∧ H b = some (.tup [.str e.1, .str e.2]) := by
    intro j b hj
    rw [← hbs, List.getElem?_map] at hj
    cases hxj : xs'[j]? with
    | none => rw [hxj] at hj; exact nomatch (show (none : Option Addr) = some b from hj)
    | some x =>
      rw [hxj] at hj
      have eb : x.2.1 = b := Option.some.inj hj
      obtain ⟨e0, he0, r1, r2, r3⟩ := DX.pget rel hxj
      have hk0 : (kvs.map (·.1))[j]? = some e0.1 := by rw [List.getElem?_map, he0] <;> rfl
      rw [hks, List.getElem?_map] at hk0
      cases hkj : ks[j]? with
      | none => rw [hkj] at hk0; exact nomatch (show (none : Option (List Key)) = some e0.1 from hk0)
      | some e =>
        rw [hkj] at hk0
        have ee : keyOf2 e = e0.1 := Option.some.inj hk0
        rw [← ee, eb] at r2
        exact ⟨e, rfl, r2⟩
  have two : ∀ (h2 : Heap), (∀ b ob, s.heap.get? b = some ob → ob.cls = .type "tuple" → h2.get? b = some ob) → ∀ (j : Nat) (b : Addr), bs[j]? = some b → ∃ e, ks[j]? = some e ∧ Two h2 (.ref b) e := by
    intro h2 kp j b hj
    obtain ⟨e, he, hb⟩ := key j b hj
    obtain ⟨_, its, rv, ot, hot, hct, nt, hdt⟩ := (show ObjOk X.prog X.w H s.heap b (.tup [.str e.1, .str e.2]) from I.hok b _ hb)
    obtain ⟨t, u, rfl⟩ : ∃ t u, its = [Value.str e.1 t, Value.str e.2 u] := by
      cases rv with
      | cons r1 r2 =>
        cases r2 with
        | cons r2 r3 =>
          cases r3
          obtain ⟨t, rfl⟩ := r1
          obtain ⟨u, rfl⟩ := r2
          exact ⟨t, u, rfl⟩
    exact ⟨e, he, b, t, u, rfl, ot, kp _ _ hot hct, hct, nt, hdt⟩
  rw [ea]
  refine wpAny_bind (wpAny_newList ?_ (by rw [List.length_map, sizeLine_eq]; omega))
  have hob : (h'.push (seqObj "list" (bs.map Value.ref).toArray 0)).get? h'.objs.size = some (seqObj "list" (bs.map Value.ref).toArray 0) := Heap.get?_push_size _ rfl
  show wpAny _ _ _ _ _ { s with heap := h'.push (seqObj "list" (bs.map Value.ref).toArray 0), toks := tk }
  have kb : ∀ b o, s.heap.get? b = some o → (h'.push (seqObj "list" (bs.map Value.ref).toArray 0)).get? b = some o := fun b o e => Heap.get?_push_of_some _ (hk b o e)
  have ne0 : ∀ b o, s.heap.get? b = some o → b ≠ h'.objs.size := fun b o e => Nat.ne_of_lt (Heap.lt_size (hk b o e))
  generalize hh2 : h'.push (seqObj "list" (bs.map Value.ref).toArray 0) = h2 at hob kb ⊢
  have mid : ∀ b ob, s.heap.get? b = some ob → ob.cls = .type "tuple" → (TS.midHeap h2 h'.objs.size (bs.map Value.ref)).get? b = some ob := fun b ob e _ => TS.midHeap_old (ne0 _ _ e) (kb _ _ e)
  have at_ : ∀ v ∈ bs.map Value.ref, ∃ (j : Nat) (b : Addr) (e : Str × Str), v = .ref b ∧ bs[j]? = some b ∧ ks[j]? = some e ∧ Two (TS.midHeap h2 h'.objs.size (bs.map Value.ref)) (.ref b) e := by
    intro v hv'
    obtain ⟨b, hb, rfl⟩ := List.mem_map.mp hv'
    obtain ⟨j, hj⟩ := List.mem_iff_getElem?.mp hb
    obtain ⟨e, he, ht⟩ := two _ mid j b hj
    exact ⟨j, b, e, rfl, hj, he, ht⟩
  refine wpAny_bind (wpAny_holding (wpAny_call_entry PyProof.Rows.slot_list_sort ⟨_, hob, rfl⟩ PyProof.Rows.entry_list_sort
    (SK.plain_sort (s := { s with heap := h2, toks := tk }) (r := fun v => ρ (twoAt (TS.midHeap h2 h'.objs.size (bs.map Value.ref)) v)) hob (by rw [List.length_map]; omega) (fun h2' Qk hQk => ?_) fun ps out o1 o2 o3 => ⟨.none, rfl, ?_⟩) (PyProof.Rows.args_list_sort _)))
  · refine kind2 (s := { s with heap := TS.midHeap h2 h'.objs.size (bs.map Value.ref), toks := tk }) (ρ := ρ) h2' (fun v hv' => ?_) (fun v hv' u hu' => ?_) Qk hQk
    · obtain ⟨j, b, e, rfl, hj, he, ht⟩ := at_ v hv'
      exact ⟨e, ht⟩
    · obtain ⟨j, b, e, rfl, hj, he, ht⟩ := at_ v hv'
      obtain ⟨j2, b2, e2, rfl, hj2, he2, ht2⟩ := at_ u hu'
      show lex2 (twoAt (TS.midHeap h2 h'.objs.size (bs.map Value.ref)) (.ref b)) (twoAt (TS.midHeap h2 h'.objs.size (bs.map Value.ref)) (.ref b2)) = decide (ρ (twoAt (TS.midHeap h2 h'.objs.size (bs.map Value.ref)) (.ref b)) < ρ (twoAt (TS.midHeap h2 h'.objs.size (bs.map Value.ref)) (.ref b2)))
      rw [ht.at, ht2.at]
      exact hρ e (List.mem_of_getElem? he) e2 (List.mem_of_getElem? he2)
  · obtain ⟨zs, pz, ez⟩ := perm_lift (fun z : Addr × Str × Str => (Value.ref z.1, Value.ref z.1)) o2 (bs.zip ks) (DX.zip_self Value.ref bs ks lb)
    have idx : ∀ z ∈ zs, ∃ j : Nat, bs[j]? = some z.1 ∧ ks[j]? = some z.2 := by
      intro z' hz'
      obtain ⟨j, hj⟩ := List.mem_iff_getElem?.mp (pz.mem_iff.mp hz')
      exact ⟨j, List.getElem?_zip_eq_some.mp hj⟩
    have tw : ∀ z ∈ zs, twoAt (TS.midHeap h2 h'.objs.size (bs.map Value.ref)) (.ref z.1) = z.2 := by
      intro z' hz'
      obtain ⟨j, j1, j2⟩ := idx z' hz'
      obtain ⟨e, he, ht⟩ := two _ mid j z'.1 j1
      rw [ht.at]
      exact Option.some.inj (he.symm.trans j2)
    have hout : out.toList = zs.map fun z => Value.ref z.1 := by
      rw [o1, ← ez, List.map_map] <;> rfl
    have hperm : (zs.map (·.2)).Perm ks := by
      have e := pz.map (·.2)
      have m2 : (bs.zip ks).map (·.2) = ks := List.map_snd_zip (by rw [lb]; exact Nat.le_refl _)
      rw [m2] at e
      exact e
    have hsort : (zs.map (·.2)).Pairwise (fun e f => ρ e ≤ ρ f) := by
      rw [← ez, List.pairwise_map] at o3
      rw [List.pairwise_map]
      refine List.Pairwise.imp_of_mem (fun {x y} hx hy h => ?_) o3
      have h' : ρ (twoAt (TS.midHeap h2 h'.objs.size (bs.map Value.ref)) (.ref x.1)) ≤ ρ (twoAt (TS.midHeap h2 h'.objs.size (bs.map Value.ref)) (.ref y.1)) := h
      rw [tw x hx, tw y hy] at h'
      exact h'
    have kS : ∀ b o, s.heap.get? b = some o → (sortedHeap h2 h'.objs.size (bs.map Value.ref) out).get? b = some o := fun b o e => (PyProof.Rows.sortedHeap_old (ne0 b o e) (Heap.lt_size (kb b o e))).trans (kb b o e)
    obtain ⟨eF, heF⟩ := PyProof.Rows.sortedHeap_at (vs := bs.map Value.ref) (out := out) hob
    have I1 : Inv X pins σ H { s with heap := h', toks := tk } := I.kept (t' := tk) hk
    have kS' : ∀ b o, h'.get? b = some o → (sortedHeap h2 h'.objs.size (bs.map Value.ref) out).get? b = some o := fun b o e => by
      have e2 : h2.get? b = some o := by rw [← hh2]; exact Heap.get?_push_of_some _ e
      exact (PyProof.Rows.sortedHeap_old (Nat.ne_of_lt (Heap.lt_size e)) (Heap.lt_size e2)).trans e2
    have hlen : (zs.map fun z => V.ref z.1).length ≤ sizeLine := by
      have e := hperm.length_eq
      rw [List.length_map] at e
      rw [List.length_map, sizeLine_eq]
      omega
    have rv : Vals (zs.map fun z => V.ref z.1) out.toList := by
      rw [hout]
      exact vals_maps (fun z : Addr × Str × Str => V.ref z.1) (fun z => Value.ref z.1) zs fun _ _ => rfl
    have I2 : Inv X pins σ (upd H h'.objs.size (.lst (zs.map fun z => V.ref z.1))) { s with heap := sortedHeap h2 h'.objs.size (bs.map Value.ref) out, toks := tk } :=
      I1.laid (t' := tk) kS' (Nat.le_refl _) (show ObjOk X.prog X.w _ _ _ (.lst (zs.map fun z => V.ref z.1)) from ⟨hlen, out.toList, eF, rv, heF⟩)
    refine wpAny_pure ⟨_, rfl, .ref h'.objs.size, _, I2, rfl, q _ zs (I1.hok.fresh (Nat.le_refl _)) hperm hsort fun z' hz' => ?_⟩
    obtain ⟨j, j1, j2⟩ := idx z' hz'
    obtain ⟨e, he, hH⟩ := key j z'.1 j1
    have ee : e = z'.2 := Option.some.inj (he.symm.trans j2)
    rw [ee] at hH
    exact hH
end
end DJ
namespace DJ
open PySem PySem.Spec PyProof.Rows L2
/-! ### a dict that is filled, keys tuples of texts -/
abbrev Tb := List (List (List Nat) × List Nat)
abbrev encTb (kvs : Tb) : List (List Key × V) := kvs.map encT
def dcO (kvs : Tb) : MO := .hob (.dT (encTb kvs))
/-- the same, when it stands -/
def dicD (kvs : Tb) : Dt := .ext fun H v => ∃ a, v = .ref a ∧ H a = some (.dT (encTb kvs))
def putTb (kvs : Tb) (k : List (List Nat)) (v : List Nat) : Tb := if kvs.any (fun kv => decide (kv.1 = k)) then kvs.map (fun kv => if kv.1 = k then (kv.1, v) else kv) else kvs ++ [(k, v)]
theorem keys_inj : ∀ {a b : List (List Nat)}, (a.map fun k => (Sum.inr (tx k) : Key)) = (b.map fun k => (Sum.inr (tx k) : Key)) → a = b
  | [], [], _ => rfl
  | [], _ :: _, e => by simp at e
  | _ :: _, [], e => by simp at e
  | x :: xs, y :: ys, e => by
    rw [List.map_cons, List.map_cons] at e
    injection e with e1 e2
    have e3 : tx x = tx y := Sum.inr.inj e1
    have e4 : (tx x).cps.toList = (tx y).cps.toList := by rw [e3]
    have e5 : x = y := by simpa using e4
    rw [e5, keys_inj e2]
theorem key_dec (a b : List (List Nat)) : decide ((a.map fun k => (Sum.inr (tx k) : Key)) = (b.map fun k => (Sum.inr (tx k) : Key))) = decide (a = b) := by
  by_cases h : a = b
  · subst h
    rw [decide_eq_true rfl, decide_eq_true rfl]
  · rw [decide_eq_false h, decide_eq_false fun e => h (keys_inj e)]
theorem any_tb (kvs : Tb) (k : List (List Nat)) : ((encTb kvs).any fun kv => decide (kv.1 = (k.map fun k => (Sum.inr (tx k) : Key)))) = kvs.any fun kv => decide (kv.1 = k) := by
  rw [List.any_map]
  congr 1
  funext kv
  exact key_dec kv.1 k
theorem put_tb (kvs : Tb) (k : List (List Nat)) (v : List Nat) : putK (encTb kvs) (k.map fun k => (Sum.inr (tx k) : Key)) (.str (tx v)) = encTb (putTb kvs k v) := by
  unfold putK putTb
  rw [any_tb]
  cases h : kvs.any fun kv => decide (kv.1 = k) with
  | false =>
    rw [if_neg Bool.false_ne_true, if_neg Bool.false_ne_true]
    show _ = (kvs ++ [(k, v)]).map encT
    rw [List.map_append] <;> rfl
  | true =>
    rw [if_pos rfl, if_pos rfl]
    show (kvs.map encT).map _ = (kvs.map _).map encT
    rw [List.map_map, List.map_map]
    refine List.map_congr_left fun kv _ => ?_
    show (if (encT kv).1 = _ then _ else _) = encT (if kv.1 = k then (kv.1, v) else kv)
    by_cases e : kv.1 = k
    · rw [if_pos e, if_pos (by rw [← e])]
    · rw [if_neg e, if_neg (fun z => e (keys_inj z))]
def getTb (kvs : Tb) (k : List (List Nat)) : Option (List Nat) := (kvs.find? fun kv => decide (kv.1 = k)).map (·.2)
theorem get_tb (k : List (List Nat)) : ∀ kvs : Tb, valV (encTb kvs) (k.map fun k => (Sum.inr (tx k) : Key)) = (getTb kvs k).map fun z => V.str (tx z)
  | [] => rfl
  | kv :: kvs => by
    by_cases e : kv.1 = k
    · have e1 : getTb (kv :: kvs) k = some kv.2 := by
        unfold getTb
        rw [List.find?_cons_of_pos (by exact decide_eq_true e)] <;> rfl
      rw [e1]
      exact valV_pos (p := encT kv) (by rw [← e])
    · have e1 : getTb (kv :: kvs) k = getTb kvs k := by
        unfold getTb
        rw [List.find?_cons_of_neg (by rw [decide_eq_true_eq]; exact e)]
      rw [e1, ← get_tb k kvs]
      exact valV_neg (p := encT kv) fun z => e (keys_inj z)
section
variable {K : PySem.W.Frag} {B H : Hp} {G G1 : List (Option Sl)} {M M1 M2 M3 : List MO} {te td ty : TE}
theorem ev_dnewT : EvE K tDNewT G M (.o M.length) (M ++ [dcO []]) := fun F B as σ H ow sl Q q p hp => by
  refine q _ B (as ++ [p]) _ (Gr.refl F B) ⟨[p], rfl⟩ (ow.newO hp (show MoR K B _ p (dcO []) from ⟨upd_same, fun _ z => (nomatch z)⟩)) ⟨p, ?_, rfl⟩
  rw [← ow.len, List.getElem?_append_right (Nat.le_refl _), Nat.sub_self] <;> rfl
/-- d[k] = v -/
theorem es_put {k : Nat} {kvs : Tb} {ks : List (List Nat)} {v : List Nat} (hv : EvE K te G M (.d (.str v)) M1) (hd : EvE K td G M1 (.o k) M2) (hk : EvE K ty G M2 (.d (keyD ks)) M3) (hm : M3[k]? = some (dcO kvs)) (hl : kvs.length < 100000) :
    EvS K (sDPut td ty te) G M (.nx G (M3.set k (dcO (putTb kvs ks v)))) := fun F B as σ H ow sl D gd =>
  hv F B as σ H ow sl _ fun w B1 as1 H1 g1 p1 o1 r1 => hd F B1 as1 σ H1 o1 (sl.mono g1.1 p1) _ fun x B2 as2 H2 g2 p2 o2 r2 => hk F B2 as2 σ H2 o2 ((sl.mono g1.1 p1).mono g2.1 p2) _ fun y B3 as3 H3 g3 p3 o3 r3 => by
    obtain ⟨a, ha, rfl⟩ := r2
    obtain ⟨b, rfl, hb⟩ := r3 B3 (Same.refl _)
    have r1 : w = .str (tx v) := r1
    subst r1
    have ha3 : as3[k]? = some a := by
      obtain ⟨t, rfl⟩ := p3
      rw [List.getElem?_append_left (List.getElem?_eq_some_iff.mp ha).1]
      exact ha
    obtain ⟨f0, b0, hH, _⟩ := o3.own k a _ ha3 hm (fun z => nomatch z)
    have hH : H3 a = some (.dT (encTb kvs)) := hH
    refine ⟨a, _, rfl, .inr ⟨encTb kvs, _, b, hH, rfl, o3.bb _ _ hb, ?_, rfl⟩, ?_⟩
    · rw [List.length_map, sizeLine_eq]
      omega
    · rw [put_tb]
      refine gd B3 as3 σ _ ((g1.trans g2).trans g3) ((p1.trans p2).trans p3) (o3.put ha3 hm (fun z => nomatch z) (show MoR K B3 _ a (dcO _) from ⟨upd_same, fun _ z => (nomatch z)⟩)) (((sl.mono g1.1 p1).mono g2.1 p2).mono g3.1 p3)
theorem ev_freezeT {k : Nat} {kvs : Tb} (h : EvE K te G M (.o k) M1) (hm : M1[k]? = some (dcO kvs)) : EvE K te G M (.d (dicD kvs)) (M1.set k .gone) := fun F B as σ H ow sl Q q =>
  h F B as σ H ow sl _ fun v B1 as1 H1 g p o1 r => by
    obtain ⟨a, ha, rfl⟩ := r
    obtain ⟨g', ow'⟩ := o1.freezeO ha hm
    exact q _ _ as1 H1 (g.trans g') p ow' fun H' s => ⟨a, rfl, s _ _ upd_same⟩
/-- d[k], d.get(k) -/
theorem ev_atT {kvs : Tb} {ks : List (List Nat)} {z : List Nat} (hd : EvE K td G M (.d (dicD kvs)) M1) (hk : EvE K ty G M1 (.d (keyD ks)) M2) (hz : getTb kvs ks = some z) : EvE K (tDGet td ty) G M (.d (.str z)) M2 := fun F B as σ H ow sl Q q =>
  hd F B as σ H ow sl _ fun v B1 as1 H1 g1 p1 o1 r1 => hk F B1 as1 σ H1 o1 (sl.mono g1.1 p1) _ fun y B2 as2 H2 g2 p2 o2 r2 => by
    obtain ⟨a, rfl, ha⟩ := r1 B1 (Same.refl _)
    obtain ⟨b, rfl, hb⟩ := r2 B2 (Same.refl _)
    refine ⟨a, .str (tx z), rfl, .inr ⟨_, _, b, .inl (o2.bb _ _ (g2.1 _ _ ha)), rfl, o2.bb _ _ hb, ?_⟩, q _ B2 as2 H2 (g1.trans g2) (p1.trans p2) o2 rfl⟩
    rw [get_tb, hz] <;> rfl
theorem ev_get1T {kvs : Tb} {ks : List (List Nat)} (hd : EvE K td G M (.d (dicD kvs)) M1) (hk : EvE K ty G M1 (.d (keyD ks)) M2) : EvE K (tDGet1 td ty) G M (.d (oS (getTb kvs ks))) M2 := fun F B as σ H ow sl Q q =>
  hd F B as σ H ow sl _ fun v B1 as1 H1 g1 p1 o1 r1 => by
    obtain ⟨a, rfl, ha⟩ := r1 B1 (Same.refl _)
    refine ⟨a, rfl, .inr ⟨_, .inl (o1.bb _ _ ha)⟩, hk F B1 as1 σ H1 o1 (sl.mono g1.1 p1) _ fun y B2 as2 H2 g2 p2 o2 r2 => ?_⟩
    obtain ⟨b, rfl, hb⟩ := r2 B2 (Same.refl _)
    refine ⟨_, .inr ⟨_, _, b, .inl (o2.bb _ _ (g2.1 _ _ ha)), rfl, o2.bb _ _ hb, rfl⟩, q _ B2 as2 H2 (g1.trans g2) (p1.trans p2) o2 ?_⟩
    rw [get_tb]
    cases getTb kvs ks with
    | none => rfl
    | some z => rfl
end
/-- tuples that stand are taken into the base -/
theorem Ow.tups {K : PySem.W.Frag} {F H : Hp} {as : List Addr} {M : List MO} : ∀ (ts : List (Addr × List V)) {B : Hp}, Ow K F B as M H → (∀ z ∈ ts, H z.1 = some (.tup z.2)) → ∃ B', Gr F B B' ∧ Ow K F B' as M H ∧ ∀ z ∈ ts, B' z.1 = some (.tup z.2)
  | [], B, h, _ => ⟨B, Gr.refl F B, h, fun _ z => (nomatch z)⟩
  | t :: ts, B, h, ht => by
    have h0 := ht t List.mem_cons_self
    have sm : Same B (upd B t.1 (.tup t.2)) := fun c u e => by
      by_cases z : c = t.1
      · rw [z, upd_same]
        rw [z] at e
        exact h0.symm.trans (h.bb _ _ e)
      · rw [upd_ne z]; exact e
    have g : Gr F B (upd B t.1 (.tup t.2)) := ⟨sm, fun c k n => by
      by_cases z : c = t.1
      · have k2 := Kp.same k h.fb
        rw [z] at k2
        exact absurd h0 (k2.2 _)
      · rw [upd_ne z]; exact n⟩
    have o : Ow K F (upd B t.1 (.tup t.2)) as M H := by
      refine ⟨h.fb, fun c u e => ?_, h.len, h.nd, h.al, h.fa, fun k a m e1 e2 hm => ?_⟩
      · by_cases z : c = t.1
        · subst z; rw [upd_same] at e; rw [← e]; exact h0
        · rw [upd_ne z] at e; exact h.bb _ _ e
      · obtain ⟨q1, q2, q3⟩ := h.own k a m e1 e2 hm
        have ne : a ≠ t.1 := fun z => by
          have k2 := kp_mor hm q3
          rw [z] at k2
          exact k2.2 _ h0
        exact ⟨q1, by rw [upd_ne ne]; exact q2, MoR.mono sm rfl q3⟩
    obtain ⟨B', g2, o2, hb⟩ := Ow.tups ts o fun z hz => ht z (List.mem_cons_of_mem _ hz)
    refine ⟨B', g.trans g2, o2, fun z hz => ?_⟩
    rcases List.mem_cons.mp hz with e | hz
    · rw [e]; exact g2.1 _ _ upd_same
    · exact hb z hz
/-! ### one order of things that a rank tells apart -/
theorem perm_one {α : Type} (ρ : α → Int) : ∀ (l m : List α), l.Perm m → l.Pairwise (fun x y => ρ x ≤ ρ y) → m.Pairwise (fun x y => ρ x ≤ ρ y) → (∀ x ∈ l, ∀ y ∈ l, ρ x = ρ y → x = y) → l = m
  | [], m, p, _, _, _ => by rw [List.nil_perm.mp p]
  | x :: l, m, p, h1, h2, hi => by
    cases m with
    | nil => exact absurd p.length_eq (by simp)
    | cons y m =>
      have hy : y ∈ x :: l := p.mem_iff.mpr List.mem_cons_self
      have hx : x ∈ y :: m := p.mem_iff.mp List.mem_cons_self
      have e : x = y := by
        refine hi x List.mem_cons_self y hy (Int.le_antisymm ?_ ?_)
        · rcases List.mem_cons.mp hy with e | h
          · rw [e]; exact Int.le_refl _
          · exact (List.pairwise_cons.mp h1).1 y h
        · rcases List.mem_cons.mp hx with e | h
          · rw [e]; exact Int.le_refl _
          · exact (List.pairwise_cons.mp h2).1 x h
      subst e
      rw [perm_one ρ l m (List.Perm.cons_inv p) (List.pairwise_cons.mp h1).2 (List.pairwise_cons.mp h2).2 fun a ha b hb => hi a (List.mem_cons_of_mem _ ha) b (List.mem_cons_of_mem _ hb)]
/-- sorted(d) -/
abbrev P2 := List Nat × List Nat
abbrev key2 (e : P2) : Str × Str := (tx e.1, tx e.2)
def lexL (e f : P2) : Bool := if e.1 = f.1 then decide (e.2 < f.2) else decide (e.1 < f.1)
theorem lex_key (e f : P2) : lex2 (key2 e) (key2 f) = lexL e f := by
  unfold lex2 lexL
  have h : (key2 e).1 = (key2 f).1 ↔ e.1 = f.1 := ⟨fun h => by
    have h2 : (tx e.1).cps.toList = (tx f.1).cps.toList := congrArg (fun x : Str => x.cps.toList) h
    simpa using h2, fun h => by show tx e.1 = tx f.1; rw [h]⟩
  by_cases z : e.1 = f.1
  · rw [if_pos z, if_pos (h.mpr z)]
  · rw [if_neg z, if_neg (fun y => z (h.mp y))]
section
variable {K : PySem.W.Frag} {B H : Hp} {G G1 : List (Option Sl)} {M M1 M2 M3 : List MO} {te td ty : TE} {ta : TA}
theorem ev_sort2 {kvs : Tb} {ks so : List P2} (rk : P2 → Int) (hd : EvE K td G M (.d (dicD kvs)) M1) (hk : kvs.map (·.1) = ks.map fun e => [e.1, e.2]) (hl : ks.length < 64) (hr : ∀ e ∈ ks, ∀ f ∈ ks, lexL e f = decide (rk e < rk f)) (hp : so.Perm ks)
    (hs : so.Pairwise fun e f => rk e ≤ rk f) (hi : ∀ e ∈ ks, ∀ f ∈ ks, rk e = rk f → e = f) : EvE K (tCB rSort2 (tCons td tNil)) G M (.d (.lst (so.map fun e => .tup [.str e.1, .str e.2]))) M1 := fun F B as σ H ow sl Q q =>
  hd F B as σ H ow sl _ fun v B1 as1 H1 g1 p1 o1 r1 => by
    obtain ⟨a, rfl, ha⟩ := r1 B1 (Same.refl _)
    have un : ∀ e : P2, rk ((key2 e).1.cps.toList, (key2 e).2.cps.toList) = rk e := fun e => by
      show rk (e.1.toArray.toList, e.2.toArray.toList) = rk e
      rw [List.toList_toArray, List.toList_toArray]
    refine ⟨a, encTb kvs, ks.map key2, fun k => rk (k.1.cps.toList, k.2.cps.toList), rfl, o1.bb _ _ ha, ?_, by rw [List.length_map]; exact hl, fun x hx y hy => ?_, fun l ps hn hperm hsort hz => ?_⟩
    · have e1 : (encTb kvs).map (·.1) = (kvs.map (·.1)).map fun k => k.map fun x => (Sum.inr (tx x) : Key) := by rw [List.map_map, List.map_map] <;> rfl
      rw [e1, hk, List.map_map, List.map_map] <;> rfl
    · obtain ⟨e, he, rfl⟩ := List.mem_map.mp hx
      obtain ⟨f, hf, rfl⟩ := List.mem_map.mp hy
      show _ = decide (rk ((key2 e).1.cps.toList, (key2 e).2.cps.toList) < rk ((key2 f).1.cps.toList, (key2 f).2.cps.toList))
      rw [lex_key, un e, un f]
      exact hr e he f hf
    · have eq : ps.map (·.2) = so.map key2 := by
        refine perm_one (fun k : Str × Str => rk (k.1.cps.toList, k.2.cps.toList)) _ _ (hperm.trans (hp.map key2).symm) hsort ?_ fun x hx y hy e => ?_
        · rw [List.pairwise_map]
          refine hs.imp fun {e f} h => ?_
          show rk ((key2 e).1.cps.toList, (key2 e).2.cps.toList) ≤ rk ((key2 f).1.cps.toList, (key2 f).2.cps.toList)
          rw [un e, un f]
          exact h
        · obtain ⟨e1, he, rfl⟩ := List.mem_map.mp (hperm.mem_iff.mp hx)
          obtain ⟨f1, hf, rfl⟩ := List.mem_map.mp (hperm.mem_iff.mp hy)
          have e : rk ((key2 e1).1.cps.toList, (key2 e1).2.cps.toList) = rk ((key2 f1).1.cps.toList, (key2 f1).2.cps.toList) := e
          rw [un e1, un f1] at e
          rw [hi e1 he f1 hf e]
      obtain ⟨B2, g2, o2, hB⟩ := o1.tups (ps.map fun z => (z.1, [V.str z.2.1, V.str z.2.2])) fun z hz' => by
        obtain ⟨y, hy, rfl⟩ := List.mem_map.mp hz'
        exact hz y hy
      have g3 := o2.gr hn (.lst (ps.map fun z => V.ref z.1))
      refine q _ _ as1 _ ((g1.trans g2).trans g3) p1 (o2.new hn _) ⟨l, _, rfl, .inl (.inl upd_same), ?_⟩
      have all : ∀ (ps : List (Addr × Str × Str)) (so : List P2), ps.map (·.2) = so.map key2 → (∀ z ∈ ps, B2 z.1 = some (.tup [V.str z.2.1, V.str z.2.2])) → RpL K B2 (so.map fun e => Dt.tup [.str e.1, .str e.2]) (ps.map fun z => V.ref z.1) := by
        intro ps
        induction ps with
        | nil =>
          intro so e _
          cases so with
          | nil => rfl
          | cons x xs => cases e
        | cons z ps ih =>
          intro so e hb
          cases so with
          | nil => cases e
          | cons x xs =>
            rw [List.map_cons, List.map_cons] at e
            injection e with e1 e2
            refine ⟨_, _, rfl, ⟨z.1, _, rfl, .inl (.inl (hb z List.mem_cons_self)), ?_⟩, ih xs e2 fun y hy => hb y (List.mem_cons_of_mem _ hy)⟩
            rw [e1]
            exact ⟨_, _, rfl, rfl, _, _, rfl, rfl, rfl⟩
      exact RpL.mono g3.1 _ _ (all ps so eq fun z hz' => hB (z.1, [V.str z.2.1, V.str z.2.2]) (List.mem_map.mpr ⟨z, hz', rfl⟩))
end
end DJ
namespace DJ
open PySem PySem.Spec PyProof.Rows L2
/-! ### two arguments by names, the last one first -/
abbrev gRev (us ws : List Value) : List Value := us ++ ws.reverse
abbrev gRevV (us ws : List V) : List V := us ++ ws.reverse
structure CalR2 (P : Program) (w : World) (K : PySem.W.Frag) (mg : Str → Option Value) (base : Heap) (k : Nat) (x : Str) (ks : List Str) (sp : Sp) : Prop where
  ex : ∃ (f : Addr) (fd : FuncData) (ps : List Str), FnOk P w K mg base CX0 k f fd ps sp ∧ mg x = some (.ref f) ∧ PySem.W.keepIn K (.ref f) = true ∧ KBinds K fd ps ks gRev gRevV
theorem vals_rev {vs : List V} {us : List Value} (r : Vals vs us) : Vals vs.reverse us.reverse := by
  induction r with
  | nil => exact .nil
  | @cons a b as bs h t ih =>
    rw [List.reverse_cons, List.reverse_cons]
    exact Vals.append ih (.cons h .nil)
section
variable {P : Program} {w : World} {K : PySem.W.Frag} {mg : Str → Option Value} {base : Heap}
theorem CalF.kw2 {k : Nat} {x y z : Str} {st : Stmt} {sp : Sp} (c : CalF P w K mg base k x st [y, z] sp)
    (h1 : ∀ (kV doc pm : Value) (an : Option Addr) (cdv ct u v : Value), bindArgs (PySem.W.fnOf x x (defArgs st) (defBody st) (defScope st) .none kV doc pm an cdv ct) ⟨[u], [(z, v)]⟩ = pure [(y, u), (z, v)])
    (h2 : ∀ (kV doc pm : Value) (an : Option Addr) (cdv ct u v : Value), bindArgs (PySem.W.fnOf x x (defArgs st) (defBody st) (defScope st) .none kV doc pm an cdv ct) ⟨[], [(z, v), (y, u)]⟩ = pure [(y, u), (z, v)]) : CalR2 P w K mg base k x [z, y] sp := by
  obtain ⟨f, fd, F, U, hm, b⟩ := c.ex
  refine ⟨f, fd, [y, z], F, hm, U.kp, ⟨fun s us ws hK hl => ?_, fun r1 r2 => Vals.append r1 (vals_rev r2)⟩⟩
  have hl : us.length + ws.length = 2 := by
    have : (us ++ ws.reverse).length = 2 := hl
    rw [List.length_append, List.length_reverse] at this
    exact this
  obtain ⟨oc, od, kV, doc, pm, an, cdv, ct, osl, e, lk, hcd⟩ := U.ex
  match us, ws, hl with
  | [u, v], [], _ => exact b s [u, v] hK rfl
  | [u], [v], _ => subst e; exact .of_eq (h1 kV doc pm an cdv ct u v)
  | [], [v, u], _ => subst e; exact .of_eq (h2 kV doc pm an cdv ct u v)
  | a :: b :: c :: d, _, hl => simp at hl; omega
  | a :: b :: [], _ :: _, hl => simp at hl
  | [_], _ :: _ :: _, hl => simp at hl; omega
  | [_], [], hl => simp at hl
  | [], [], hl => simp at hl
  | [], [_], hl => simp at hl
  | [], _ :: _ :: _ :: _, hl => simp at hl
end
section
variable {X : Cx} {k j : Nat} {x : Str} {ks : List Str} {sp : Sp} {p pos : Pos} {kws : List Keyword} {tk : TA}
theorem pe_cKr (c : CalR2 X.prog X.w X.K X.mg X.base k x ks sp) (hr : Room j X.A) (hk : k ≤ j) (hg : Gl X x) (hkw : PK X kws tk)
    (hall : (backToKw pos (keywordEach kws X.env)).all (·.1.isSome) = true := by rfl) (hks : (backToKw pos (keywordEach kws X.env)).filterMap (·.1) = ks := by rfl) (hdb : (x == ("__debug__" : Str)) = false := by decide)
    (hpl : ((backTo pos (starEach [] X.env)).any (·.1) || (backToKw pos (keywordEach kws X.env)).any (·.1.isNone)) = false := by rfl) : PE X (.Call (.Name x p) [] kws pos) (tCallK sp gRevV L2.E0 tNil tk) := by
  obtain ⟨f, fd, ps, F, hm, kp, hb⟩ := c.ex
  refine ⟨fun pins s σ H Q I h => ?_⟩
  refine wpAny_Call_Name_kw (ld_glob I hg hm ?_ hdb)
  refine PySem.W.callWith_KW0 (h₀ := X.base) I.ok.mod.kin kp hall (thn (hkw.run pos pins s σ H _ I h) fun ws s2 r2 => ?_) hpl
  obtain ⟨zs, H2, I2, rz, q2⟩ := r2
  refine ⟨I2.kIn, ?_⟩
  rw [hks]
  exact run_fnk (us := []) (vs := []) F (hr.mono hk) hb L2.pass0 I2 .nil rz q2
end
section
variable {K : PySem.W.Frag} {G : List (Option Sl)} {M M1 : List MO} {E : XK} {tk : TA} {a b z : Dt}
theorem ev_kwr {R : List Sl → List MO → Sl → List MO → Prop} (h : EvA K tk G M [.d b, .d a] M1) (hR : R [.d a, .d b] [] (.d z) []) : EvE K (tCallK (SpR K 2 R) gRevV E tNil tk) G M (.d z) M1 := fun F B as σ H ow sl Q q =>
  h F B as σ H ow sl _ fun vs B1 as1 H1 g1 p1 o1 r1 => by
    obtain ⟨v, r, e, h1, u, r', e', h2, e3⟩ := r1
    have e3 : r' = [] := e3
    subst e3; subst e'; subst e
    refine call_core (ds := [a, b]) (vs := [u, v]) hR rfl o1 ⟨u, _, rfl, h2, v, _, rfl, h1, rfl⟩ fun v B' as' H' g o' r' => ?_
    obtain ⟨g2, o2⟩ := back0 o1 g o'
    exact q v B' as1 H' (g1.trans g2) p1 o2 r'
end
theorem es_nxM {K : PySem.W.Frag} {G G1 : List (Option Sl)} {M M1 M2 : List MO} {t : TS} (h : EvS K t G M (.nx G1 M1)) (e : M1 = M2) : EvS K t G M (.nx G1 M2) := e ▸ h
end DJ
namespace DJ
open PySem PySem.Spec PyProof.Rows L2
/-! ### isinstance(x, str), of things of many kinds -/
/-- a dict without entries -/
def dic0 : Dt := .ext fun H v => ∃ a, v = .ref a ∧ H a = some (.dK [])
/-- what is looked at: texts, and things that are none -/
inductive Kd : Dt → Bool → Prop where
  | non : Kd .non false
  | bl (b : Bool) : Kd (.bl b) false
  | int (i : Int) : Kd (.int i) false
  | str (x : List Nat) : Kd (.str x) true
  | lst (xs : List Dt) : Kd (.lst xs) false
  | tup (xs : List Dt) : Kd (.tup xs) false
  | dic : Kd dic0 false
abbrev tyStr : Dt := .raw (.ty "str")
section
variable {K : PySem.W.Frag} {B : Hp} {d : Dt} {b : Bool}
theorem Kd.at (k : Kd d b) {F : Hp} {as : List Addr} {M : List MO} {H : Hp} {v : V} (ow : Ow K F B as M H) (r : Rp K B d v) : ∃ t : String, TyX K H v (.type t) ∧ kitB t "str" = some b := by
  cases k with
  | non =>
    have r : v = .non := r
    subst r
    exact ⟨"NoneType", .base .non, by decide +kernel⟩
  | bl x =>
    have r : v = .bl x := r
    subst r
    exact ⟨"bool", .base (.bl x), by decide +kernel⟩
  | int x =>
    have r : v = .int x := r
    subst r
    exact ⟨"int", .base (.int x), by decide +kernel⟩
  | str x =>
    have r : v = .str (tx x) := r
    subst r
    exact ⟨"str", .base (.str _), by decide +kernel⟩
  | lst xs =>
    obtain ⟨a, vs, rfl, h1, h2⟩ := r
    refine ⟨"list", ?_, by decide +kernel⟩
    rcases h1 with (h | ⟨o, h⟩) | ⟨o, its, n, h, hc, _⟩
    · exact .base (.lst (ow.bb _ _ h))
    · exact .base (.frz (ow.bb _ _ h))
    · exact .kList h hc
  | tup xs =>
    obtain ⟨a, vs, rfl, h1, h2⟩ := r
    refine ⟨"tuple", ?_, by decide +kernel⟩
    rcases h1 with (h | ⟨o, h⟩) | ⟨o, its, n, h, hc, _⟩
    · exact .base (.tup (ow.bb _ _ h))
    · exact .fTuple (ow.bb _ _ h)
    · exact .kTuple h hc
  | dic =>
    obtain ⟨a, rfl, h⟩ := r B (Same.refl B)
    exact ⟨"dict", .base (.dK (ow.bb _ _ h)), by decide +kernel⟩
theorem rc_isStr (k : Kd d b) : RC K (rIsi K) [d, tyStr] (.bl b) := fun F B as M H vs Q ow r q => by
  obtain ⟨v, r1, e1, h1, w, r2, e2, h2, e3⟩ := r
  have h2 : w = V.ty "str" := h2
  have e3 : r2 = [] := e3
  subst e3; subst e2; subst e1; subst h2
  obtain ⟨t, ht, hb⟩ := k.at ow h1
  exact ⟨v, _, _, _, b, rfl, .ty "str", ht, kit_ty hb, q _ B H (Gr.refl F B) ow rfl⟩
theorem ev_ty {G : List (Option Sl)} {M : List MO} {n : String} : EvE K (tC (.ty n)) G M (.d (.raw (.ty n))) M := fun F B as σ H ow sl Q q => q _ B as H (Gr.refl F B) (Px.refl as) ow rfl
theorem ev_dic0 {G : List (Option Sl)} {M : List MO} : EvE K tDNewK G M (.d dic0) M := fun F B as σ H ow sl Q q p hp =>
  q _ _ as _ (ow.gr hp _) (Px.refl as) (ow.new hp _) fun H' s => ⟨p, rfl, s _ _ upd_same⟩
end
end DJ
namespace DJ
open PySem PySem.Spec PyProof.Rows L2
/-! ### is, is not of truth values -/
theorem is_bools (a b : Bool) : compareOp .Is (.bool a) (.bool b) = pure (.bool (decide (a = b))) := by cases a <;> cases b <;> rfl
theorem isnot_bools (a b : Bool) : compareOp .IsNot (.bool a) (.bool b) = pure (.bool (!decide (a = b))) := by cases a <;> cases b <;> rfl
def rIsB (n : Bool) : R2 := fun x y H Q => ∃ a b, x = .bl a ∧ y = .bl b ∧ Q (.bl (if n = true then !decide (a = b) else decide (a = b))) H
section
variable {X : Cx}
theorem op_isB : OpR X (compareOp .Is) (rIsB false) := by
  intro pins s σ H x y v u Q I rx ry h
  obtain ⟨a, b, rfl, rfl, q⟩ := h
  cases rx
  cases ry
  exact wpAny_of_eq (is_bools a b) ⟨.bl (decide (a = b)), H, I, rfl, q⟩
theorem op_notB : OpR X (compareOp .IsNot) (rIsB true) := by
  intro pins s σ H x y v u Q I rx ry h
  obtain ⟨a, b, rfl, rfl, q⟩ := h
  cases rx
  cases ry
  exact wpAny_of_eq (isnot_bools a b) ⟨.bl (!decide (a = b)), H, I, rfl, q⟩
end
section
variable {K : PySem.W.Frag} {a b : Bool}
theorem ro_isB : RO K (rIsB false) (.bl a) (.bl b) (.bl (decide (a = b))) := fun F B as M H v u Q ow r1 r2 q => ⟨a, b, r1, r2, q _ B H (Gr.refl F B) ow rfl⟩
theorem ro_notB : RO K (rIsB true) (.bl a) (.bl b) (.bl (!decide (a = b))) := fun F B as M H v u Q ow r1 r2 q => ⟨a, b, r1, r2, q _ B H (Gr.refl F B) ow rfl⟩
end
/-! ### text * number -/
def rRepS : R2 := fun x y H Q => ∃ (l : List Nat) (n : Nat), x = .str (tx l) ∧ y = .int (n : Int) ∧ 2 ≤ n ∧ n ≤ 1000 ∧ l ≠ [] ∧ l.length ≤ 1000 ∧ Q (.str (tx (List.replicate n l).flatten)) H
theorem fold_rep (l : List Nat) : ∀ (n : Nat) (a : Array Nat), ((List.replicate n l.toArray).foldl (· ++ ·) a).toList = a.toList ++ (List.replicate n l).flatten
  | 0, a => by simp
  | n + 1, a => by
    rw [List.replicate_succ, List.replicate_succ, List.foldl_cons, fold_rep l n, List.flatten_cons, Array.toList_append, List.append_assoc]
theorem op_repS {X : Cx} : OpR X (binaryOp .Mult) rRepS := by
  intro pins s σ H x y v u Q I rx ry h
  obtain ⟨l, n, rfl, rfl, h1, h2, hne, hl, q⟩ := h
  obtain ⟨t, rfl⟩ := rx
  obtain ⟨t', rfl⟩ := ry
  have hp : 0 < l.length := List.length_pos_iff.mpr hne
  have hm : l.length * n ≤ 1000000 := Nat.le_trans (Nat.mul_le_mul hl h2) (by decide)
  have e1 : ((n : Int) == 1 || (tx l).length == 0) = false := by
    rw [tx_len]
    refine Bool.or_eq_false_iff.mpr ⟨beq_eq_false_iff_ne.mpr (by omega), beq_eq_false_iff_ne.mpr (by omega)⟩
  have er : (⟨(List.replicate (n : Int).toNat (tx l).cps).foldl (· ++ ·) #[]⟩ : Str) = tx (List.replicate n l).flatten := by
    rw [Int.toNat_natCast]
    show (⟨_⟩ : Str) = ⟨_⟩
    congr 1
    apply Array.toList_inj.mp
    rw [fold_rep] <;> simp
  refine P.mul_str (Bool.or_eq_false_iff.mpr ⟨decide_eq_false (by omega), decide_eq_false (by omega)⟩) (fun _ _ => ?_) (fun _ _ => ?_) ?_
  · rw [tx_len]
    rw [show (2 ^ 63 - 1 : Int) = 9223372036854775807 by decide]
    have : (9223372036854775807 : Int) / (n : Int) ≥ 1000 := by
      rw [ge_iff_le, Int.le_ediv_iff_mul_le (by omega)]
      omega
    omega
  · rw [tx_len, Int.toNat_natCast]
    unfold Builtin.Str.tooLong
    refine decide_eq_false ?_
    rw [sizeLine_eq]
    omega
  · rw [if_neg (by omega), if_neg (by rw [e1]; exact Bool.false_ne_true), er]
    refine ⟨?_, .str _, H, I.tok _, ⟨_, rfl⟩, q⟩
    have el : ∀ n : Nat, (List.replicate n l).flatten.length = l.length * n := fun n => by
      induction n with
      | zero => rfl
      | succ n ih => rw [List.replicate_succ, List.flatten_cons, List.length_append, ih, Nat.mul_succ, Nat.add_comm]
    rw [tx_len, el, sizeLine_eq]
    omega
theorem ro_repS {K : PySem.W.Frag} {l : List Nat} {n : Nat} (h1 : 2 ≤ n) (h2 : n ≤ 1000) (hne : l ≠ []) (hl : l.length ≤ 1000) : RO K rRepS (.str l) (.int (n : Int)) (.str (List.replicate n l).flatten) := fun F B as M H v u Q ow r1 r2 q => ⟨l, n, r1, r2, h1, h2, hne, hl, q _ B H (Gr.refl F B) ow rfl⟩
end DJ
namespace DJ
open PySem PySem.Spec PyProof.Rows L2
/-! ### == of plain data of any kind -/
mutual
def toP : Dt → PyData
  | .non => .none
  | .bl b => .bool b
  | .int i => .int i
  | .str x => .str (tx x)
  | .lst xs => .list (toPs xs)
  | .tup xs => .tuple (toPs xs)
  | .raw _ => .none
  | .ext _ => .none
def toPs : List Dt → List PyData
  | [] => []
  | d :: ds => toP d :: toPs ds
end
mutual
def plD : Dt → Bool
  | .non => true
  | .bl _ => true
  | .int _ => true
  | .str x => x.all (· < 128)
  | .lst xs => plDs xs
  | .tup xs => plDs xs
  | .raw _ => false
  | .ext _ => false
def plDs : List Dt → Bool
  | [] => true
  | d :: ds => plD d && plDs ds
end
mutual
def dpD : Dt → Nat
  | .lst xs => dpDs xs + 1
  | .tup xs => dpDs xs + 1
  | _ => 0
def dpDs : List Dt → Nat
  | [] => 0
  | d :: ds => max (dpD d) (dpDs ds)
end
section
variable {K : PySem.W.Frag} {H : Hp}
mutual
theorem dp_of : ∀ (d : Dt) (v : V), plD d = true → Rp K H d v → Dp K H v (toP d)
  | .non, v, _, h => by rw [show v = .non from h]; exact .non
  | .bl b, v, _, h => by rw [show v = .bl b from h]; exact .bl b
  | .int i, v, _, h => by rw [show v = .int i from h]; exact .int i
  | .str x, v, _, h => by rw [show v = .str (tx x) from h]; exact .str _
  | .lst xs, v, p, h => by
    obtain ⟨a, vs, rfl, h1, h2⟩ := h
    exact .lst h1 (dp_ofs xs vs p h2)
  | .tup xs, v, p, h => by
    obtain ⟨a, vs, rfl, h1, h2⟩ := h
    exact .tup h1 (dp_ofs xs vs p h2)
  | .raw _, _, p, _ => nomatch p
  | .ext _, _, p, _ => nomatch p
theorem dp_ofs : ∀ (ds : List Dt) (vs : List V), plDs ds = true → RpL K H ds vs → DpAll K H vs (toPs ds)
  | [], vs, _, h => by rw [show vs = [] from h]; exact .nil
  | d :: ds, vs, p, h => by
    obtain ⟨v, r, rfl, h1, h2⟩ := h
    have p : (plD d && plDs ds) = true := p
    rw [Bool.and_eq_true] at p
    exact .cons (dp_of d v p.1 h1) (dp_ofs ds r p.2 h2)
end
end
theorem strOk_asc {x : List Nat} (h : x.all (· < 128) = true) : (PyData.str (tx x)).canLay0 = true := by
  have := (lay_strs [x] (fun y hy c hc => by
    rw [List.mem_singleton] at hy
    subst hy
    exact of_decide_eq_true (List.all_eq_true.mp h c hc))).1
  simpa [PyData.canLayAll0] using this
mutual
theorem lay_of : ∀ d : Dt, plD d = true → (toP d).canLay0 = true ∧ (toP d).depth = dpD d
  | .non, _ => ⟨by simp [toP, PyData.canLay0], by simp [toP, PyData.depth, dpD]⟩
  | .bl b, _ => ⟨by simp [toP, PyData.canLay0], by simp [toP, PyData.depth, dpD]⟩
  | .int i, _ => ⟨by simp [toP, PyData.canLay0], by simp [toP, PyData.depth, dpD]⟩
  | .str x, p => ⟨strOk_asc p, by simp [toP, PyData.depth, dpD]⟩
  | .lst xs, p => by
    obtain ⟨h1, h2⟩ := lay_ofs xs p
    exact ⟨by simpa [toP, PyData.canLay0] using h1, by simp [toP, PyData.depth, dpD, h2]⟩
  | .tup xs, p => by
    obtain ⟨h1, h2⟩ := lay_ofs xs p
    exact ⟨by simpa [toP, PyData.canLay0] using h1, by simp [toP, PyData.depth, dpD, h2]⟩
  | .raw _, p => nomatch p
  | .ext _, p => nomatch p
theorem lay_ofs : ∀ ds : List Dt, plDs ds = true → PyData.canLayAll0 (toPs ds) = true ∧ PyData.depthAll (toPs ds) = dpDs ds
  | [], _ => ⟨by simp [toPs, PyData.canLayAll0], by simp [toPs, PyData.depthAll, dpDs]⟩
  | d :: ds, p => by
    have p : (plD d && plDs ds) = true := p
    rw [Bool.and_eq_true] at p
    obtain ⟨h1, h2⟩ := lay_of d p.1
    obtain ⟨h3, h4⟩ := lay_ofs ds p.2
    exact ⟨by simp [toPs, PyData.canLayAll0, h1, h3], by simp [toPs, PyData.depthAll, dpDs, h2, h4]⟩
end
theorem shp_of {d : Dt} (h : plD d = true) (hd : dpD d ≤ 64) : SeqAt.shaped (toP d) = true := by
  obtain ⟨h1, h2⟩ := lay_of d h
  unfold SeqAt.shaped
  rw [Bool.and_eq_true]
  exact ⟨h1, decide_eq_true (by rw [h2]; exact hd)⟩
def eqD (d e : Dt) : Bool := PyData.eqv (toP d) (toP e)
def eqDs (d e : List Dt) : Bool := PyData.eqvAll (toPs d) (toPs e)
mutual
theorem eqD_self : ∀ d : Dt, plD d = true → eqD d d = true
  | .non, _ => rfl
  | .bl b, _ => by simp [eqD, toP, PyData.eqv]
  | .int i, _ => by simp [eqD, toP, PyData.eqv]
  | .str x, _ => by
    show (tx x == tx x) = true
    rw [tx_beq, decide_eq_true rfl]
  | .lst xs, p => by
    have := eqDs_self xs p
    simpa [eqD, toP, PyData.eqv, eqDs] using this
  | .tup xs, p => by
    have := eqDs_self xs p
    simpa [eqD, toP, PyData.eqv, eqDs] using this
  | .raw _, p => nomatch p
  | .ext _, p => nomatch p
theorem eqDs_self : ∀ ds : List Dt, plDs ds = true → eqDs ds ds = true
  | [], _ => by simp [eqDs, toPs, PyData.eqvAll]
  | d :: ds, p => by
    have p : (plD d && plDs ds) = true := p
    rw [Bool.and_eq_true] at p
    have h1 := eqD_self d p.1
    have h2 := eqDs_self ds p.2
    unfold eqD at h1
    unfold eqDs at h2 ⊢
    simp [toPs, PyData.eqvAll, h1, h2]
end
section
variable {K : PySem.W.Frag} {d e : Dt}
theorem ro_eqDt (h1 : plD d = true) (h2 : plD e = true) (n1 : dpD d ≤ 64) (n2 : dpD e ≤ 64) : RO K (rEqD K) d e (.bl (eqD d e)) := fun F B as M H v u Q ow r1 r2 q =>
  ⟨_, _, dp_of d v h1 (Rp.mono ow.bb _ _ r1), dp_of e u h2 (Rp.mono ow.bb _ _ r2), shp_of h1 n1, shp_of h2 n2, q _ B H (Gr.refl F B) ow rfl⟩
theorem ro_neDt (h1 : plD d = true) (h2 : plD e = true) (n1 : dpD d ≤ 64) (n2 : dpD e ≤ 64) : RO K (rNeD K) d e (.bl (!eqD d e)) := fun F B as M H v u Q ow r1 r2 q =>
  ⟨_, _, dp_of d v h1 (Rp.mono ow.bb _ _ r1), dp_of e u h2 (Rp.mono ow.bb _ _ r2), shp_of h1 n1, shp_of h2 n2, q _ B H (Gr.refl F B) ow rfl⟩
theorem ro_eqSelf (h1 : plD d = true) (n1 : dpD d ≤ 64) : RO K (rEqD K) d d (.bl true) := by
  have := ro_eqDt (K := K) h1 h1 n1 n1
  rw [eqD_self d h1] at this
  exact this
theorem ro_neSelf (h1 : plD d = true) (n1 : dpD d ≤ 64) : RO K (rNeD K) d d (.bl false) := by
  have := ro_neDt (K := K) h1 h1 n1 n1
  rw [eqD_self d h1] at this
  exact this
end
/-! ### four arguments by names, the last one first -/
section
variable {P : Program} {w : World} {K : PySem.W.Frag} {mg : Str → Option Value} {base : Heap}
theorem CalF.kw4 {k : Nat} {x a b c d : Str} {st : Stmt} {sp : Sp} (cf : CalF P w K mg base k x st [a, b, c, d] sp)
    (h1 : ∀ (kV doc pm : Value) (an : Option Addr) (cdv ct u v y z : Value), bindArgs (PySem.W.fnOf x x (defArgs st) (defBody st) (defScope st) .none kV doc pm an cdv ct) ⟨[u, v, y], [(d, z)]⟩ = pure [(a, u), (b, v), (c, y), (d, z)])
    (h2 : ∀ (kV doc pm : Value) (an : Option Addr) (cdv ct u v y z : Value), bindArgs (PySem.W.fnOf x x (defArgs st) (defBody st) (defScope st) .none kV doc pm an cdv ct) ⟨[u, v], [(d, z), (c, y)]⟩ = pure [(a, u), (b, v), (c, y), (d, z)])
    (h3 : ∀ (kV doc pm : Value) (an : Option Addr) (cdv ct u v y z : Value), bindArgs (PySem.W.fnOf x x (defArgs st) (defBody st) (defScope st) .none kV doc pm an cdv ct) ⟨[u], [(d, z), (c, y), (b, v)]⟩ = pure [(a, u), (b, v), (c, y), (d, z)])
    (h4 : ∀ (kV doc pm : Value) (an : Option Addr) (cdv ct u v y z : Value), bindArgs (PySem.W.fnOf x x (defArgs st) (defBody st) (defScope st) .none kV doc pm an cdv ct) ⟨[], [(d, z), (c, y), (b, v), (a, u)]⟩ = pure [(a, u), (b, v), (c, y), (d, z)]) : CalR2 P w K mg base k x [d, c, b, a] sp := by
  obtain ⟨f, fd, F, U, hm, bb⟩ := cf.ex
  refine ⟨f, fd, [a, b, c, d], F, hm, U.kp, ⟨fun s us ws hK hl => ?_, fun r1 r2 => Vals.append r1 (vals_rev r2)⟩⟩
  have hl : us.length + ws.length = 4 := by
    have : (us ++ ws.reverse).length = 4 := hl
    rw [List.length_append, List.length_reverse] at this
    exact this
  obtain ⟨oc, od, kV, doc, pm, an, cdv, ct, osl, e, lk, hcd⟩ := U.ex
  rcases us with _ | ⟨u, _ | ⟨v, _ | ⟨y, _ | ⟨z, _ | ⟨o, us⟩⟩⟩⟩⟩
  · rcases ws with _ | ⟨z, _ | ⟨y, _ | ⟨v, _ | ⟨u, _ | ⟨o, ws⟩⟩⟩⟩⟩ <;> first | (exfalso; simp at hl; done) | (exfalso; simp at hl; omega) | skip
    · subst e; exact .of_eq (h4 kV doc pm an cdv ct u v y z)
  · rcases ws with _ | ⟨z, _ | ⟨y, _ | ⟨v, _ | ⟨o, ws⟩⟩⟩⟩ <;> first | (exfalso; simp at hl; done) | (exfalso; simp at hl; omega) | skip
    · subst e; exact .of_eq (h3 kV doc pm an cdv ct u v y z)
  · rcases ws with _ | ⟨z, _ | ⟨y, _ | ⟨o, ws⟩⟩⟩ <;> first | (exfalso; simp at hl; done) | (exfalso; simp at hl; omega) | skip
    · subst e; exact .of_eq (h2 kV doc pm an cdv ct u v y z)
  · rcases ws with _ | ⟨z, _ | ⟨o, ws⟩⟩ <;> first | (exfalso; simp at hl; done) | (exfalso; simp at hl; omega) | skip
    · subst e; exact .of_eq (h1 kV doc pm an cdv ct u v y z)
  · rcases ws with _ | ⟨o, ws⟩ <;> first | (exfalso; simp at hl; done) | (exfalso; simp at hl; omega) | skip
    · exact bb s [u, v, y, z] hK rfl
  · first | (simp at hl; done) | (simp at hl; omega)
end
section
variable {K : PySem.W.Frag} {G : List (Option Sl)} {M M1 : List MO} {E : XK} {tk : TA} {a b c d z : Dt}
theorem ev_kwr4 {R : List Sl → List MO → Sl → List MO → Prop} (h : EvA K tk G M [.d d, .d c, .d b, .d a] M1) (hR : R [.d a, .d b, .d c, .d d] [] (.d z) []) : EvE K (tCallK (SpR K 4 R) gRevV E tNil tk) G M (.d z) M1 := fun F B as σ H ow sl Q q =>
  h F B as σ H ow sl _ fun vs B1 as1 H1 g1 p1 o1 r1 => by
    obtain ⟨v1, r1, e1, h1, v2, r2, e2, h2, v3, r3, e3, h3, v4, r4, e4, h4, e5⟩ := r1
    have e5 : r4 = [] := e5
    subst e5; subst e4; subst e3; subst e2; subst e1
    refine call_core (ds := [a, b, c, d]) (vs := [v4, v3, v2, v1]) hR rfl o1 ⟨v4, _, rfl, h4, v3, _, rfl, h3, v2, _, rfl, h2, v1, _, rfl, h1, rfl⟩ fun v B' as' H' g o' r' => ?_
    obtain ⟨g2, o2⟩ := back0 o1 g o'
    exact q v B' as1 H' (g1.trans g2) p1 o2 r'
end
end DJ
namespace DJ
open PySem PySem.Spec PyProof.Rows L2
/-! ### enumerate(text) -/
def Itx (x : Str) : It := ⟨fun i _ => i < x.cps.size, fun i H v H' => ∃ T c, v = .ref T ∧ H T = none ∧ H' = upd H T (.tup [.int (i : Nat), .str ⟨#[c]⟩]) ∧ x.cps[i]? = some c, fun i _ => x.cps.size ≤ i⟩
section
variable {prog : Program} {w : World} {A : Around} {E : Value → Shared → Prop} {s : Shared}
theorem nextOf_text_end {it : Addr} {x : Str} {t : Tok} {i : Nat} {Q : Value → Shared → Prop} (hh : A.handled = none)
    (hit : s.heap.IsStrIter it (strIterType x) x t i) (hx : x.cps[i]? = none)
    (hE : ∀ h' e, Heap.ExtBut it s.heap h' → (∃ o, h'.get? e = some o ∧ o.cls = .type "StopIteration") → E (.ref e) { s with heap := h' }) :
    wpAny (model prog w) A (Builtin.SmallTypes.nextOf (.ref it)) Q E s := by
  cases ha : x.cps.all (· < 128) with
  | true =>
    have e : strIterType x = "str_ascii_iterator" := by simp [strIterType, ha]
    rw [e] at hit
    exact wpAny_nextOf_ascii_end hh hit hx hE
  | false =>
    have e : strIterType x = "str_iterator" := by simp [strIterType, ha]
    rw [e] at hit
    exact wpAny_nextOf_wide_end hh hit hx hE
theorem pyNext_enum_text_end {e it : Addr} {x : Str} {t : Tok} {i : Nat} {old : Value} {Q : Option Value → Shared → Prop} (hh : A.handled = none)
    (he : IsEnum s.heap e it ((i : Nat) : Int) old) (hit : s.heap.IsStrIter it (strIterType x) x t i) (hx : x.cps[i]? = none)
    (hQ : ∀ h', Heap.ExtBut it s.heap h' → Q none { s with heap := h' }) : wpAny (model prog w) A (pyNext (.ref e)) Q E s := by
  have hT : s.TypeIs (.ref e) "enumerate" := ⟨_, he, rfl⟩
  unfold pyNext
  refine wpAny_bind (wpAny_attempt (wpAny_callSpecial?_slot (name := Str.ofString "__next__") hT F.slot_enumerate_next
    (wpAny_call_entry F.slot_enumerate_next hT F.entry_enumerate_next ?_ (F.args_enumerate_next_1 _))))
  show wpAny _ _ (field (.ref e) 2 >>= _) _ _ _
  refine wpAny_bind (wpAny_field he rfl (x := .ref it) rfl ?_)
  refine wpAny_bind (nextOf_text_end (show A.in1.handled = none from hh) hit hx fun h' x he' hx' => ?_)
  obtain ⟨o, ho, hc⟩ := hx'
  refine wpAny_bind (wpAny_isInstance (T := "StopIteration") (b := true) ⟨o, ho, hc⟩ isSubtype_stop ?_)
  exact wpAny_pure (hQ _ he')
end
theorem turn_enumS {P : Program} {w : World} {K : PySem.W.Frag} {elts : List Expr} {kk : Nat} {tpos : Pos} (x : Str) (t : Tok) (e it : Addr) :
    Turn P w K (.Tuple elts kk tpos) (Itx x) [e, it] e (fun i h => (∃ old, IsEnum h e it ((i : Nat) : Int) old) ∧ h.IsStrIter it (strIterType x) x t i ∧ e ≠ it) where
  mem := by simp
  obj := fun i h st b hb => by
    obtain ⟨⟨old, he⟩, ⟨o, ho, hc, hd⟩, _⟩ := st
    have e' : b = e ∨ b = it := by simpa using hb
    rcases e' with z | z
    · rw [z]; exact ⟨_, he, fun v q => nomatch q⟩
    · rw [z]; exact ⟨o, ho, fun v q => by rw [hd] at q; cases q⟩
  keep := fun i h h' st k => let ⟨⟨old, he⟩, ⟨o, ho, r⟩, hne⟩ := st; ⟨⟨old, k e (by simp) _ he⟩, ⟨o, k it (by simp) o ho, r⟩, hne⟩
  item := by
    intro X hP hw hK hc i pins s σ H E I hf st hg
    subst hP hw hK
    obtain ⟨⟨old, he⟩, hit, hne⟩ := st
    have hlt : i < x.cps.size := hg
    have hel : e < s.heap.objs.size := Heap.lt_size he
    have hil : it < s.heap.objs.size := by obtain ⟨_, q, _⟩ := hit; exact Heap.lt_size q
    refine wpAny_pyNext_enum_itemD (PySem.Draws.text (show X.A.in1.handled = none from I.ok.hd hc) it x t) he hit hlt hne (by simp [hne]) fun v h' tk hv ho hit' hT hsz hk => ?_
    obtain ⟨c, u, hx, rfl⟩ := hv
    refine ⟨_, rfl, wpAny_letOwnedTupleGo_enum (s := { s with heap := h', toks := tk + 1 }) ho fun h'' he' sb => ?_⟩
    have hT2 : h''.get? s.heap.objs.size = some { cls := .type "tuple", data := .seq #[.int i tk, .str ⟨#[c]⟩ u] } := (sb.2 _ (Nat.ne_of_gt hel)).trans hT
    have new : ObjOk X.prog X.w (upd H s.heap.objs.size (.tup [.int (i : Nat), .str ⟨#[c]⟩])) h'' s.heap.objs.size (.tup [.int (i : Nat), .str ⟨#[c]⟩]) :=
      ⟨by show 2 ≤ sizeLine; decide, [.int i tk, .str ⟨#[c]⟩ u], .cons ⟨_, rfl⟩ (.cons ⟨_, rfl⟩ .nil), ⟨_, hT2, rfl, _, rfl⟩⟩
    have I1 : Inv X pins σ (upd H s.heap.objs.size (.tup [.int (i : Nat), .str ⟨#[c]⟩])) { s with heap := h'', toks := tk + 1 } :=
      I.turnedNew (ch := [e, it]) (fun b ob hb q => (sb.2 b (fun z => hb (by simp [z]))).trans (hk b ob (fun z => hb (by simp [z])) (fun z => hb (by simp [z])) q)) hf (Nat.le_refl _) new
    refine ⟨.ref s.heap.objs.size, _, I1, rfl, ⟨_, c, rfl, I.hok.fresh (Nat.le_refl _), rfl, hx⟩, ⟨⟨.str ⟨#[c]⟩ u, ?_⟩, ?_, hne⟩, fun b hb => ?_⟩
    · have e1 : ((i + 1 : Nat) : Int) = (i : Int) + 1 := by omega
      rw [e1]; exact he'
    · obtain ⟨o, ho2, r⟩ := hit'
      exact ⟨o, (sb.2 it (Ne.symm hne)).trans ho2, r⟩
    · have hb' : b < s.heap.objs.size := by
        have e' : b = e ∨ b = it := by simpa using hb
        rcases e' with z | z
        · rw [z]; exact hel
        · rw [z]; exact hil
      rw [upd_ne (Nat.ne_of_lt hb')]
      exact (hf b hb).1
  done := by
    intro X hP hw hK hc i pins s σ H E I hf st hg
    subst hP hw hK
    obtain ⟨⟨old, he⟩, hit, hne⟩ := st
    have hx : x.cps.size ≤ i := hg
    obtain ⟨f0, f1, f2, f3, f4, f5⟩ := hf it (by simp)
    exact pyNext_enum_text_end (I.ok.hd hc) he hit (by simp; omega) fun h' eb => ⟨rfl, I.turned (t' := s.toks) (fun b o hb q => eb b o hb q) f0 f1 f3 f4 f5⟩
  self := fun A i s Q E st h => let ⟨⟨_, he⟩, _⟩ := st; wpAny_pyIter_enum he h
def iEnumS (ta : TA) : TI := fun σ H R => ta σ H fun vs H1 => ∃ x, vs = [.str x] ∧ R (Itx x) H1
theorem pi_enumS {X : Cx} {e : Expr} {ta : TA} {p pos tpos : Pos} {elts : List Expr} {kk : Nat} (hg : Gl X "enumerate") (hm : X.mg "enumerate" = none) (ha : PA X [e] ta) (hs : starEach [e] X.env = [(false, eval e X.env)] := by rfl) :
    PI X (.Tuple elts kk tpos) (.Call (.Name "enumerate" p) [e] [] pos) (iEnumS ta) := by
  refine ⟨fun pins s σ H R I h => ?_⟩
  refine Call_ (ld_blt I hg hm boot_enumerate (PyProof.Rows.callWith_type1 (thn (ha.run pos pins s σ H _ I h) fun us s1 ⟨vs, H1, I1, r1, q1⟩ => ?_) hs rfl))
  obtain ⟨x, ex, q⟩ := q1
  subst ex
  obtain ⟨u, rfl, t, rfl⟩ := vals1 r1
  refine call_enumerate_str fun h' he hit hsz hk => wpAny_pyIter_enum he ?_
  have I2 : Inv X pins σ H1 { s1 with heap := h' } := I1.kept (t' := s1.toks) hk
  refine ⟨s1.heap.objs.size + 1, [s1.heap.objs.size + 1, s1.heap.objs.size], _, _, H1, rfl, I2, turn_enumS x t (s1.heap.objs.size + 1) s1.heap.objs.size, ⟨⟨.none, he⟩, hit, Nat.succ_ne_self _⟩, fun b hb => ?_, q⟩
  have e' : b = s1.heap.objs.size + 1 ∨ b = s1.heap.objs.size := by simpa using hb
  have hle : s1.heap.objs.size ≤ b := by
    rcases e' with z | z
    · rw [z]; exact Nat.le_add_right _ _
    · rw [z]; exact Nat.le_refl _
  exact I1.fpOk hle (I1.hok.fresh hle)
section
variable {K : PySem.W.Frag} {B : Hp} {G G1 : List (Option Sl)} {M M1 M2 M3 : List MO} {te ta tb : TE} {tr : TA} {i j : Int} {l m : List Nat} {b : Bool} {x z : Dt}
theorem yl_enumS {l : List Nat} : Yl K B (Itx (tx l)) (enumD 0 (l.map fun c => .str [c])) := fun F B' as M H i e ow => by
  refine ⟨fun x hx => ?_, fun hi => ?_⟩
  · rw [enumD_get, List.getElem?_map] at hx
    cases hc : l[i]? with
    | none => rw [hc] at hx; cases hx
    | some c =>
      rw [hc] at hx
      have hx : Dt.tup [.int ((0 + i : Nat) : Nat), .str [c]] = x := Option.some.inj hx
      subst hx
      refine ⟨?_, fun v H' y => ?_⟩
      · show i < l.toArray.size
        rw [List.size_toArray]
        exact (List.getElem?_eq_some_iff.mp hc).1
      · obtain ⟨T, c', rfl, hT, rfl, h1⟩ := y
        have h2 : l[i]? = some c' := by
          rw [show (tx l).cps = l.toArray from rfl, List.getElem?_toArray] at h1
          exact h1
        rw [hc] at h2
        cases h2
        have hg := ow.gr hT (.tup [.int (i : Nat), .str ⟨#[c]⟩])
        refine ⟨_, hg, ow.new hT _, T, _, rfl, .inl (.inl upd_same), _, _, rfl, ?_, _, _, rfl, rfl, rfl⟩
        rw [Nat.zero_add]
        rfl
  · show l.toArray.size ≤ i
    rw [List.size_toArray]
    rw [enumD_len, List.length_map] at hi
    exact hi
theorem ei_enumS (h : EvA K tr G M [.d (.str l)] M1) : EvI K (iEnumS tr) G M (enumD 0 (l.map fun c => .str [c])) M1 := fun F B as σ H ow sl R q =>
  h F B as σ H ow sl _ fun vs B' as' H' g p o' r => ⟨tx l, two_str (SlL.data (ds := [.str l]) r), q _ B' as' H' g p o' yl_enumS⟩
/-! ### slices of lists -/
theorem ev_slL {tl th : TO} {lo hi : Option Int} {xs : List Dt} (h : EvE K te G M (.d (.lst xs)) M1) (h1 : EvO K tl G M1 lo M2) (h2 : EvO K th G M2 hi M3) : EvE K (tSl (rSlL K) te tl th) G M (.d (lstX K (cutL xs lo hi))) M3 := fun F B as σ H ow sl Q q =>
  h F B as σ H ow sl _ fun v B1 as1 H1 g1 p1 o1 r1 => h1 F B1 as1 σ H1 o1 (sl.mono g1.1 p1) _ fun B2 as2 H2 g2 p2 o2 => h2 F B2 as2 σ H2 o2 ((sl.mono g1.1 p1).mono g2.1 p2) _ fun B3 as3 H3 g3 p3 o3 => by
    obtain ⟨a, vs, e, h3, h4⟩ := r1
    refine ⟨a, vs, e, o3.bb.seq (g3.1.seq (g2.1.seq h3)), fun p hp => ?_⟩
    have g4 := o3.gr hp (.lst (L2.cutV vs lo hi))
    refine q _ _ as3 _ (g1.trans (g2.trans (g3.trans g4))) (p1.trans (p2.trans p3)) (o3.new hp _) fun H' s => ⟨p, _, rfl, s _ _ upd_same, ?_⟩
    have r := RpL.mono (g2.1.trans (g3.1.trans (g4.1.trans s))) _ _ h4
    unfold L2.cutV cutL
    rw [h4.len]
    exact RpL.take _ (RpL.drop _ r)
/-! ### xs.extend(ys) -/
theorem es_extO {to : TE} {k : Nat} {xs ys : List Dt} (ho : EvE K to G M (.o k) M1) (h : EvE K te G M1 (.d (lstX K ys)) M2) (hk : ∃ zs, M1[k]? = some (.lst zs)) (hm : M2[k]? = some (.lst xs)) (hz : xs.length + ys.length < 1000000) :
    EvS K (tDrop (tBM K "list" rExtend to (tCons te tNil))) G M (.nx G (M2.set k (.lst (xs ++ ys)))) := fun F B as σ H ow sl D gd =>
  ho F B as σ H ow sl _ fun w B1 as1 H1 g1 p1 o1 r1 => by
    obtain ⟨a, ha, rfl⟩ := r1
    obtain ⟨zs, hy⟩ := hk
    obtain ⟨_, _, vs1, hv1, _⟩ := o1.own k a _ ha hy (fun z => nomatch z)
    refine ⟨.inl ⟨rfl, vs1, .inl (.inl hv1)⟩, h F B1 as1 σ H1 o1 (sl.mono g1.1 p1) _ fun v B2 as2 H2 g2 p2 o2 r2 => ?_⟩
    obtain ⟨b, us, rfl, hb, hu⟩ := r2 B2 (Same.refl _)
    have ha := p2.get ha
    obtain ⟨_, _, vs, hv, hr⟩ := o2.own k a _ ha hm (fun z => nomatch z)
    refine ⟨a, b, vs, us, rfl, rfl, hv, o2.bb _ _ hb, by rw [hr.len, hu.len]; exact Nat.le_trans (Nat.le_of_lt hz) (by decide), gd B2 as2 σ _ (g1.trans g2) (p1.trans p2) (o2.put ha hm (fun z => nomatch z) ⟨_, upd_same, RpL.append hr hu⟩) ((sl.mono g1.1 p1).mono g2.1 p2)⟩
/-! ### repr of truth values -/
def rReprB : List V → Hp → VK → Prop := fun xs H Q => ∃ b, xs = [.bl b] ∧ Q (.str (if b = true then "True" else "False")) H
theorem call_repr_bool {X : Cx} : CallR X (.builtin "repr") rReprB := by
  intro pins s σ H xs us Q I r h
  obtain ⟨b, rfl, q⟩ := h
  obtain ⟨u, rfl, ru⟩ := vals1 r
  cases ru
  cases b with
  | true => exact PySem.P.repr_of_bool ⟨.str _, H, I.tok _, ⟨_, rfl⟩, q⟩
  | false => exact PySem.P.repr_of_bool ⟨.str _, H, I.tok _, ⟨_, rfl⟩, q⟩
abbrev boolL (b : Bool) : List Nat := if b = true then [84, 114, 117, 101] else [70, 97, 108, 115, 101]
theorem rc_reprB : RC K rReprB [.bl b] (.str (boolL b)) := fun F B as M H vs Q ow r q => by
  obtain ⟨v, r1, e, h1, h2⟩ := r
  have h1 : v = V.bl b := h1
  have h2 : r1 = [] := h2
  subst h2; subst h1; subst e
  refine ⟨b, rfl, q _ B H (Gr.refl F B) ow ?_⟩
  cases b <;> rfl
theorem boolL_inj (a b : Bool) : decide (boolL a = boolL b) = decide (a = b) := by cases a <;> cases b <;> rfl
/-! ### split -/
abbrev splL (m l : List Nat) : List (List Nat) := TL.spl m 0 [] l
theorem RpL.strsX {H : Hp} (xs : List (List Nat)) : RpL K H (xs.map Dt.str) ((xs.map tx).map V.str) := RpL.strs_of xs
theorem rm_split (h : l.length ≤ 1000000) (hm : m ≠ []) (hk : m.all (· < 256) = true) : RM K (fun x xs H Q => ∃ a b, x = .str a ∧ xs = [.str b] ∧ (b.length == 0) = false ∧ a.length + 2 ≤ sizeLine ∧ rNewStrs (Txt.split a b) H Q) (.str l) [.str m] (lstX K ((splL m l).map Dt.str)) := fun F B as M H v vs Q ow r1 r2 q =>
  ⟨tx l, tx m, r1, two_str r2, by rw [tx_len]; exact beq_eq_false_iff_ne.mpr (fun e => hm (List.length_eq_zero_iff.mp e)), by rw [tx_len]; exact Nat.le_trans (Nat.add_le_add_right h 2) (by decide), fun p hp => by
    refine q _ _ _ (ow.gr hp _) (ow.new hp _) fun H' s => ⟨p, _, rfl, s _ _ upd_same, ?_⟩
    rw [show Txt.split (tx l) (tx m) = (splL m l).map tx from SX.split_S hm hk]
    exact RpL.strs_of _⟩
/-! ### in, not in of lists of texts, of truth values -/
theorem ro_inL {xs : List (List Nat)} : RO K (rIn K false) (.str l) (.lst (xs.map Dt.str)) (.bl (decide (l ∈ xs))) := fun F B as M H v u Q ow r1 r2 q => by
  obtain ⟨a, vs, e, h1, h2⟩ := r2
  have e2 := h2.strs
  subst e2; subst e
  have r1 : v = .str (tx l) := r1
  subst r1
  refine ⟨a, _, rfl, .inl (ow.bb.seq h1), rfl, flat_strs xs, q _ B H (Gr.refl F B) ow ?_⟩
  show V.bl (inV _ _) = _
  rw [inV_strs]
theorem ro_ninL {xs : List (List Nat)} : RO K (rIn K true) (.str l) (.lst (xs.map Dt.str)) (.bl (!decide (l ∈ xs))) := fun F B as M H v u Q ow r1 r2 q => by
  obtain ⟨a, vs, e, h1, h2⟩ := r2
  have e2 := h2.strs
  subst e2; subst e
  have r1 : v = .str (tx l) := r1
  subst r1
  refine ⟨a, _, rfl, .inl (ow.bb.seq h1), rfl, flat_strs xs, q _ B H (Gr.refl F B) ow ?_⟩
  show V.bl (!inV _ _) = _
  rw [inV_strs]
theorem flat_bls : ∀ xs : List Bool, (xs.map V.bl).all flatV = true
  | [] => rfl
  | x :: xs => by rw [List.map_cons, List.all_cons, flat_bls xs] <;> rfl
theorem inV_bls (b : Bool) : ∀ xs : List Bool, inV (.bl b) (xs.map V.bl) = decide (b ∈ xs)
  | [] => rfl
  | x :: xs => by
    show (eqV (.bl x) (.bl b) || inV (.bl b) (xs.map V.bl)) = _
    rw [inV_bls b xs]
    cases x <;> cases b <;> simp [eqV]
theorem ro_ninB {xs : List Bool} : RO K (rIn K true) (.bl b) (.lst (xs.map Dt.bl)) (.bl (!decide (b ∈ xs))) := fun F B as M H v u Q ow r1 r2 q => by
  obtain ⟨a, vs, e, h1, h2⟩ := r2
  have e2 := h2.bls
  subst e2; subst e
  have r1 : v = .bl b := r1
  subst r1
  refine ⟨a, _, rfl, .inl (ow.bb.seq h1), rfl, flat_bls xs, q _ B H (Gr.refl F B) ow ?_⟩
  show V.bl (!inV _ _) = _
  rw [inV_bls]
end
/-! ### dicts with text keys, values any data -/
abbrev Dk := List (List Nat × Dt)
def RpK (K : PySem.W.Frag) (H : Hp) : Dk → List (Key × V) → Prop
  | [], ks => ks = []
  | d :: ds, ks => ∃ v r, ks = (Sum.inr (tx d.1), v) :: r ∧ Rp K H d.2 v ∧ RpK K H ds r
def putD (ds : Dk) (k : List Nat) (x : Dt) : Dk := if (ds.any fun d => decide (d.1 = k)) = true then ds.map (fun d => if d.1 = k then (d.1, x) else d) else ds ++ [(k, x)]
def getD' (ds : Dk) (k : List Nat) : Option Dt := (ds.find? fun d => decide (d.1 = k)).map (·.2)
section
variable {K : PySem.W.Frag} {B H : Hp}
theorem RpK.mono {H' : Hp} (e : Same H H') : ∀ {ds : Dk} {ks : List (Key × V)}, RpK K H ds ks → RpK K H' ds ks
  | [], _, h => h
  | d :: ds, _, ⟨v, r, e1, h1, h2⟩ => ⟨v, r, e1, Rp.mono e _ _ h1, RpK.mono e h2⟩
theorem RpK.len : ∀ {ds : Dk} {ks : List (Key × V)}, RpK K H ds ks → ks.length = ds.length
  | [], _, h => by rw [show _ = [] from h]; rfl
  | d :: ds, _, ⟨v, r, e, _, h⟩ => by rw [e, List.length_cons, List.length_cons, RpK.len h]
theorem keyd (a b : List Nat) : decide ((Sum.inr (tx a) : Key) = Sum.inr (tx b)) = decide (a = b) := by
  by_cases h : a = b
  · subst h; rw [decide_eq_true rfl, decide_eq_true rfl]
  · rw [decide_eq_false h, decide_eq_false fun e => h (tx_inj (Sum.inr.inj e))]
theorem RpK.any {k : List Nat} : ∀ {ds : Dk} {ks : List (Key × V)}, RpK K H ds ks → (ks.any fun kv => decide (kv.1 = Sum.inr (tx k))) = ds.any fun d => decide (d.1 = k)
  | [], _, h => by rw [show _ = [] from h]; rfl
  | d :: ds, _, ⟨v, r, e, _, h⟩ => by
    subst e
    rw [List.any_cons, List.any_cons, RpK.any h]
    congr 1
    exact keyd d.1 k
theorem RpK.app {k : List Nat} {x : Dt} {u : V} (hx : Rp K H x u) : ∀ {ds : Dk} {ks : List (Key × V)}, RpK K H ds ks → RpK K H (ds ++ [(k, x)]) (ks ++ [(Sum.inr (tx k), u)])
  | [], _, h => by rw [show _ = [] from h]; exact ⟨u, [], rfl, hx, rfl⟩
  | d :: ds, _, ⟨v, r, e, h1, h⟩ => by subst e; exact ⟨v, _, rfl, h1, RpK.app hx h⟩
theorem RpK.mp {k : List Nat} {x : Dt} {u : V} (hx : Rp K H x u) : ∀ {ds : Dk} {ks : List (Key × V)}, RpK K H ds ks → RpK K H (ds.map fun d => if d.1 = k then (d.1, x) else d) (ks.map fun kv => if kv.1 = Sum.inr (tx k) then (kv.1, u) else kv)
  | [], _, h => by rw [show _ = [] from h]; rfl
  | d :: ds, _, ⟨v, r, e, h1, h⟩ => by
    subst e
    by_cases z : d.1 = k
    · refine ⟨u, _, ?_, ?_, RpK.mp hx h⟩
      · show (if (Sum.inr (tx d.1) : Key) = Sum.inr (tx k) then _ else _) :: _ = (Sum.inr (tx (if d.1 = k then (d.1, x) else d).1), u) :: _
        rw [if_pos z, if_pos (by rw [z])]
      · show Rp K H (if d.1 = k then (d.1, x) else d).2 u
        rw [if_pos z]; exact hx
    · have z2 : ¬ (Sum.inr (tx d.1) : Key) = Sum.inr (tx k) := fun e => z (tx_inj (Sum.inr.inj e))
      refine ⟨v, _, ?_, ?_, RpK.mp hx h⟩
      · show (if (Sum.inr (tx d.1) : Key) = Sum.inr (tx k) then _ else _) :: _ = (Sum.inr (tx (if d.1 = k then (d.1, x) else d).1), v) :: _
        rw [if_neg z, if_neg z2]
      · show Rp K H (if d.1 = k then (d.1, x) else d).2 v
        rw [if_neg z]; exact h1
theorem RpK.put {k : List Nat} {x : Dt} {u : V} (hx : Rp K H x u) {ds : Dk} {ks : List (Key × V)} (h : RpK K H ds ks) : RpK K H (putD ds k x) (putK ks (Sum.inr (tx k)) u) := by
  unfold putD putK
  rw [RpK.any h]
  split
  · exact RpK.mp hx h
  · exact RpK.app hx h
theorem RpK.get {k : List Nat} {x : Dt} : ∀ {ds : Dk} {ks : List (Key × V)}, RpK K H ds ks → getD' ds k = some x → ∃ v, valV ks (Sum.inr (tx k)) = some v ∧ Rp K H x v
  | [], _, _, e => by cases e
  | d :: ds, _, ⟨v, r, e, h1, h⟩, g => by
    subst e
    by_cases z : d.1 = k
    · have e1 : getD' (d :: ds) k = some d.2 := by
        unfold getD'
        rw [List.find?_cons_of_pos (by exact decide_eq_true z)] <;> rfl
      rw [e1] at g
      cases g
      exact ⟨v, valV_pos (by rw [z]), h1⟩
    · have e1 : getD' (d :: ds) k = getD' ds k := by
        unfold getD'
        rw [List.find?_cons_of_neg (by rw [decide_eq_true_eq]; exact z)]
      rw [e1] at g
      obtain ⟨v', h2, h3⟩ := RpK.get h g
      exact ⟨v', (valV_neg fun e => z (tx_inj (Sum.inr.inj e))).trans h2, h3⟩
end
def dkO (K : PySem.W.Frag) (ds : Dk) : MO := .box fun B o => ∃ ks, o = .dK ks ∧ RpK K B ds ks
def dkD (K : PySem.W.Frag) (ds : Dk) : Dt := .ext fun H v => ∃ a ks, v = .ref a ∧ H a = some (.dK ks) ∧ RpK K H ds ks
section
variable {K : PySem.W.Frag} {F B H : Hp} {as : List Addr} {G G1 : List (Option Sl)} {M M1 M2 M3 : List MO} {te td ty : TE} {x : Dt}
theorem mor_dk {ds : Dk} {a : Addr} {ks : List (Key × V)} (e : H a = some (.dK ks)) (r : RpK K B ds ks) : MoR K B H a (dkO K ds) := ⟨_, e, fun _ z => (nomatch z), fun B' s => ⟨ks, rfl, RpK.mono s r⟩⟩
theorem ev_dnewK : EvE K tDNewK G M (.o M.length) (M ++ [dkO K []]) := fun F B as σ H ow sl Q q p hp => by
  refine q _ B (as ++ [p]) _ (Gr.refl F B) ⟨[p], rfl⟩ (ow.newO hp (mor_dk upd_same rfl)) ⟨p, ?_, rfl⟩
  rw [← ow.len, List.getElem?_append_right (Nat.le_refl _), Nat.sub_self] <;> rfl
theorem es_putK {k : Nat} {ds : Dk} {kk : List Nat} (hv : EvE K te G M (.d x) M1) (hd : EvE K td G M1 (.o k) M2) (hk : EvE K ty G M2 (.d (.str kk)) M3) (hm : M3[k]? = some (dkO K ds)) (hl : ds.length < 100000) :
    EvS K (sDPut td ty te) G M (.nx G (M3.set k (dkO K (putD ds kk x)))) := fun F B as σ H ow sl D gd =>
  hv F B as σ H ow sl _ fun w B1 as1 H1 g1 p1 o1 r1 => hd F B1 as1 σ H1 o1 (sl.mono g1.1 p1) _ fun y B2 as2 H2 g2 p2 o2 r2 => hk F B2 as2 σ H2 o2 ((sl.mono g1.1 p1).mono g2.1 p2) _ fun z B3 as3 H3 g3 p3 o3 r3 => by
    obtain ⟨a, ha, rfl⟩ := r2
    have r3 : z = .str (tx kk) := r3
    subst r3
    have ha3 : as3[k]? = some a := p3.get ha
    obtain ⟨f0, b0, o, hH, _, hb⟩ := o3.own k a _ ha3 hm (fun z => nomatch z)
    obtain ⟨ks, rfl, hr⟩ := hb B3 (Same.refl _)
    refine ⟨a, _, rfl, .inl ⟨ks, Sum.inr (tx kk), hH, rfl, by rw [hr.len, sizeLine_eq]; omega, rfl⟩, ?_⟩
    exact gd B3 as3 σ _ ((g1.trans g2).trans g3) ((p1.trans p2).trans p3) (o3.put ha3 hm (fun z => nomatch z) (mor_dk upd_same (RpK.put (Rp.mono (g2.1.trans g3.1) _ _ r1) hr))) (((sl.mono g1.1 p1).mono g2.1 p2).mono g3.1 p3)
theorem ev_atKO {k : Nat} {ds : Dk} {kk : List Nat} (hd : EvE K td G M (.o k) M1) (hk : EvE K ty G M1 (.d (.str kk)) M2) (hm : M2[k]? = some (dkO K ds)) (hz : getD' ds kk = some x) : EvE K (tDGet td ty) G M (.d x) M2 := fun F B as σ H ow sl Q q =>
  hd F B as σ H ow sl _ fun v B1 as1 H1 g1 p1 o1 r1 => hk F B1 as1 σ H1 o1 (sl.mono g1.1 p1) _ fun z B2 as2 H2 g2 p2 o2 r2 => by
    obtain ⟨a, ha, rfl⟩ := r1
    have r2 : z = .str (tx kk) := r2
    subst r2
    obtain ⟨f0, b0, o, hH, _, hb⟩ := o2.own k a _ (p2.get ha) hm (fun z => nomatch z)
    obtain ⟨ks, rfl, hr⟩ := hb B2 (Same.refl _)
    obtain ⟨v, h1, h2⟩ := RpK.get hr hz
    exact ⟨a, v, rfl, .inl ⟨ks, Sum.inr (tx kk), .inl hH, rfl, h1.symm⟩, q v B2 as2 H2 (g1.trans g2) (p1.trans p2) o2 h2⟩
theorem ev_atKD {ds : Dk} {kk : List Nat} (hd : EvE K td G M (.d (dkD K ds)) M1) (hk : EvE K ty G M1 (.d (.str kk)) M2) (hz : getD' ds kk = some x) : EvE K (tDGet td ty) G M (.d x) M2 := fun F B as σ H ow sl Q q =>
  hd F B as σ H ow sl _ fun v B1 as1 H1 g1 p1 o1 r1 => hk F B1 as1 σ H1 o1 (sl.mono g1.1 p1) _ fun z B2 as2 H2 g2 p2 o2 r2 => by
    obtain ⟨a, ks, rfl, ha, hr⟩ := r1 B2 g2.1
    have r2 : z = .str (tx kk) := r2
    subst r2
    obtain ⟨v, h1, h2⟩ := RpK.get hr hz
    exact ⟨a, v, rfl, .inl ⟨ks, Sum.inr (tx kk), .inl (o2.bb _ _ ha), rfl, h1.symm⟩, q v B2 as2 H2 (g1.trans g2) (p1.trans p2) o2 h2⟩
end
end DJ
namespace DJ
open PySem PySem.Spec PyProof.Rows L2
section
variable {K : PySem.W.Frag} {G : List (Option Sl)} {M M1 M2 M3 : List MO} {ta tb tc : TE} {x y z : Dt} {r r' : R2} {a b : Bool}
/-- a op b op c -/
theorem ev_chain (ha : EvE K ta G M (.d x) M1) (hb : EvE K tb G M1 (.d y) M2) (hr : RO K r x y (.bl a)) (hc : a = true → EvE K tc G M2 (.d z) M3) (hr' : a = true → RO K r' y z (.bl b)) (hf : a = false → M2 = M3) :
    EvE K (tChain r r' ta tb tc) G M (.d (.bl (a && b))) M3 := fun F B as σ H o sl Q q =>
  ha F B as σ H o sl _ fun v B1 as1 H1 g1 p1 o1 r1 => hb F B1 as1 σ H1 o1 (sl.mono g1.1 p1) _ fun u B2 as2 H2 g2 p2 o2 r2 =>
    hr F B2 as2 M2 H2 v u _ o2 (Rp.mono g2.1 _ _ r1) r2 fun w B3 H3 g3 o3 r3 => ⟨a, r3, by
      cases a with
      | true =>
        rw [if_pos rfl]
        exact hc rfl F B3 as2 σ H3 o3 (((sl.mono g1.1 p1).mono g2.1 p2).mono g3.1 (Px.refl as2)) _ fun w' B4 as4 H4 g4 p4 o4 r4 =>
          hr' rfl F B4 as4 M3 H4 u w' Q o4 (Rp.mono (g3.1.trans g4.1) _ _ r2) r4 fun w2 B5 H5 g5 o5 r5 => q w2 B5 as4 H5 (g1.trans (g2.trans (g3.trans (g4.trans g5)))) ((p1.trans p2).trans p4) o5 r5
      | false =>
        rw [if_neg Bool.false_ne_true]
        exact q _ B3 as2 H3 (g1.trans (g2.trans g3)) (p1.trans p2) (hf rfl ▸ o3) rfl⟩
theorem ro_eqBl : RO K rEq (.bl a) (.bl b) (.bl (decide (a = b))) := fun F B as M H v u Q ow r1 r2 q => by
  subst r1; subst r2
  exact ⟨rfl, q _ B H (Gr.refl F B) ow (by cases a <;> cases b <;> rfl)⟩
theorem ro_neBl : RO K rNe (.bl a) (.bl b) (.bl (!decide (a = b))) := fun F B as M H v u Q ow r1 r2 q => by
  subst r1; subst r2
  exact ⟨rfl, q _ B H (Gr.refl F B) ow (by cases a <;> cases b <;> rfl)⟩
end
/-- the signs of a text with their places -/
def plc : Nat → List Nat → List (Nat × Nat)
  | _, [] => []
  | n, c :: l => (n, c) :: plc (n + 1) l
abbrev plcD (p : Nat × Nat) : Dt := .tup [.int (p.1 : Nat), .str [p.2]]
theorem plc_enum : ∀ (l : List Nat) (n : Nat), enumD n (l.map fun c => .str [c]) = (plc n l).map plcD
  | [], _ => rfl
  | c :: l, n => by
    rw [List.map_cons, enumD, plc, List.map_cons, plc_enum l (n + 1)]
theorem plc_at : ∀ {l : List Nat} {n : Nat} {p : Nat × Nat}, p ∈ plc n l → ∃ i, p.1 = n + i ∧ l[i]? = some p.2
  | [], _, _, h => nomatch h
  | c :: l, n, p, h => by
    rcases List.mem_cons.mp h with e | h
    · subst e; exact ⟨0, rfl, rfl⟩
    · obtain ⟨i, h1, h2⟩ := plc_at h
      exact ⟨i + 1, by rw [h1]; omega, h2⟩
/-! ### three arguments by names, the last one first -/
section
variable {P : Program} {w : World} {K : PySem.W.Frag} {mg : Str → Option Value} {base : Heap}
theorem CalF.kw3 {k : Nat} {x a b c : Str} {st : Stmt} {sp : Sp} (cf : CalF P w K mg base k x st [a, b, c] sp)
    (h1 : ∀ (kV doc pm : Value) (an : Option Addr) (cdv ct u v y : Value), bindArgs (PySem.W.fnOf x x (defArgs st) (defBody st) (defScope st) .none kV doc pm an cdv ct) ⟨[u, v], [(c, y)]⟩ = pure [(a, u), (b, v), (c, y)])
    (h2 : ∀ (kV doc pm : Value) (an : Option Addr) (cdv ct u v y : Value), bindArgs (PySem.W.fnOf x x (defArgs st) (defBody st) (defScope st) .none kV doc pm an cdv ct) ⟨[u], [(c, y), (b, v)]⟩ = pure [(a, u), (b, v), (c, y)])
    (h3 : ∀ (kV doc pm : Value) (an : Option Addr) (cdv ct u v y : Value), bindArgs (PySem.W.fnOf x x (defArgs st) (defBody st) (defScope st) .none kV doc pm an cdv ct) ⟨[], [(c, y), (b, v), (a, u)]⟩ = pure [(a, u), (b, v), (c, y)]) : CalR2 P w K mg base k x [c, b, a] sp := by
  obtain ⟨f, fd, F, U, hm, bb⟩ := cf.ex
  refine ⟨f, fd, [a, b, c], F, hm, U.kp, ⟨fun s us ws hK hl => ?_, fun r1 r2 => Vals.append r1 (vals_rev r2)⟩⟩
  have hl : us.length + ws.length = 3 := by
    have : (us ++ ws.reverse).length = 3 := hl
    rw [List.length_append, List.length_reverse] at this
    exact this
  obtain ⟨oc, od, kV, doc, pm, an, cdv, ct, osl, e, lk, hcd⟩ := U.ex
  rcases us with _ | ⟨u, _ | ⟨v, _ | ⟨y, _ | ⟨o, us⟩⟩⟩⟩
  · rcases ws with _ | ⟨y, _ | ⟨v, _ | ⟨u, _ | ⟨o, ws⟩⟩⟩⟩ <;> first | (exfalso; simp at hl; done) | (exfalso; simp at hl; omega) | skip
    · subst e; exact .of_eq (h3 kV doc pm an cdv ct u v y)
  · rcases ws with _ | ⟨y, _ | ⟨v, _ | ⟨o, ws⟩⟩⟩ <;> first | (exfalso; simp at hl; done) | (exfalso; simp at hl; omega) | skip
    · subst e; exact .of_eq (h2 kV doc pm an cdv ct u v y)
  · rcases ws with _ | ⟨y, _ | ⟨o, ws⟩⟩ <;> first | (exfalso; simp at hl; done) | (exfalso; simp at hl; omega) | skip
    · subst e; exact .of_eq (h1 kV doc pm an cdv ct u v y)
  · rcases ws with _ | ⟨o, ws⟩ <;> first | (exfalso; simp at hl; done) | (exfalso; simp at hl; omega) | skip
    · exact bb s [u, v, y] hK rfl
  · exfalso
    first | (simp at hl; done) | (simp at hl; omega)
end
section
variable {K : PySem.W.Frag} {G : List (Option Sl)} {M M1 : List MO} {E : XK} {tk : TA} {a b c z : Dt}
theorem ev_kwr3 {R : List Sl → List MO → Sl → List MO → Prop} (h : EvA K tk G M [.d c, .d b, .d a] M1) (hR : R [.d a, .d b, .d c] [] (.d z) []) : EvE K (tCallK (SpR K 3 R) gRevV E tNil tk) G M (.d z) M1 := fun F B as σ H ow sl Q q =>
  h F B as σ H ow sl _ fun vs B1 as1 H1 g1 p1 o1 r1 => by
    obtain ⟨v1, r1, e1, h1, v2, r2, e2, h2, v3, r3, e3, h3, e5⟩ := r1
    have e5 : r3 = [] := e5
    subst e5; subst e3; subst e2; subst e1
    refine call_core (ds := [a, b, c]) (vs := [v3, v2, v1]) hR rfl o1 ⟨v3, _, rfl, h3, v2, _, rfl, h2, v1, _, rfl, h1, rfl⟩ fun v B' as' H' g o' r' => ?_
    obtain ⟨g2, o2⟩ := back0 o1 g o'
    exact q v B' as1 H' (g1.trans g2) p1 o2 r'
end
end DJ
namespace DJ
open PySem PySem.Spec PyProof.Rows L2
section
variable {K : PySem.W.Frag} {G G1 : List (Option Sl)} {M M' X : List MO} {t : TS}
/-- what was made for a turn is let go, what is owned stays -/
theorem es_nxU (h : EvS K t G M (.nx G1 (M' ++ X))) (hl : M.length = M'.length) (hg : ∀ k, some (Sl.o k) ∈ G1 → k < M'.length) : EvS K t G M (.nx G1 M') := fun F B as σ H ow sl D gd =>
  h F B as σ H ow sl D fun B' as' σ' H' g p o' s' => by
    obtain ⟨tl, rfl⟩ := p
    refine gd B' as σ' H' g (Px.refl as) ⟨o'.fb, o'.bb, ow.len.trans hl, ow.nd, fun a ha => o'.al a (List.mem_append_left _ ha), fun a ha => o'.fa a (List.mem_append_left _ ha), fun k a m e1 e2 hm => ?_⟩ ⟨s'.1, fun i s e => ?_⟩
    · refine o'.own k a m ?_ ?_ hm
      · rw [List.getElem?_append_left (List.getElem?_eq_some_iff.mp e1).1]
        exact e1
      · rw [List.getElem?_append_left (List.getElem?_eq_some_iff.mp e2).1]
        exact e2
    · obtain ⟨v, e1, r⟩ := s'.2 i s e
      refine ⟨v, e1, ?_⟩
      cases s with
      | d x => exact r
      | o k =>
        obtain ⟨a, ha, rfl⟩ := r
        have hk := hg k (List.mem_of_getElem? e)
        rw [List.getElem?_append_left (by rw [ow.len, hl]; exact hk)] at ha
        exact ⟨a, ha, rfl⟩
end
theorem get_putD (ds : Dk) (k : List Nat) (x : Dt) : getD' (putD ds k x) k = some x := by
  unfold getD' putD
  split
  · rename_i h
    induction ds with
    | nil => cases h
    | cons d ds ih =>
      by_cases z : d.1 = k
      · rw [List.map_cons, List.find?_cons_of_pos (by rw [if_pos z]; exact decide_eq_true z), if_pos z] <;> rfl
      · rw [List.any_cons, decide_eq_false z, Bool.false_or] at h
        rw [List.map_cons, List.find?_cons_of_neg (by rw [if_neg z, decide_eq_true_eq]; exact z)]
        exact ih h
  · rename_i h
    induction ds with
    | nil => rw [List.nil_append, List.find?_cons_of_pos (by exact decide_eq_true rfl)] <;> rfl
    | cons d ds ih =>
      rw [List.any_cons] at h
      have z : ¬ d.1 = k := fun e => h (by rw [decide_eq_true e] <;> rfl)
      rw [List.cons_append, List.find?_cons_of_neg (by rw [decide_eq_true_eq]; exact z)]
      exact ih (fun e => h (by rw [e, Bool.or_true]))
theorem map_take {α β : Type} (f : α → β) (l : List α) (n : Nat) : (l.map f).take n = (l.take n).map f := (List.map_take).symm
end DJ
namespace DJ
open PySem PySem.Spec PyProof.Rows L2
/-! ### text * number, any number -/
theorem rep_len (l : List Nat) : ∀ n : Nat, (List.replicate n l).flatten.length = l.length * n
  | 0 => rfl
  | n + 1 => by rw [List.replicate_succ, List.flatten_cons, List.length_append, rep_len l n, Nat.mul_succ, Nat.add_comm]
def rRepN : R2 := fun x y H Q => ∃ (l : List Nat) (n : Int), x = .str (tx l) ∧ y = .int n ∧ -100000 ≤ n ∧ n ≤ 100000 ∧ l.length * n.toNat ≤ 1000000 ∧ Q (.str (tx (List.replicate n.toNat l).flatten)) H
theorem rep_made (l : List Nat) (n : Nat) : (⟨(List.replicate n (tx l).cps).foldl (· ++ ·) #[]⟩ : Str) = tx (List.replicate n l).flatten := by
  show (⟨_⟩ : Str) = ⟨_⟩
  congr 1
  apply Array.toList_inj.mp
  rw [fold_rep] <;> simp
theorem op_repN {X : Cx} : OpR X (binaryOp .Mult) rRepN := by
  intro pins s σ H x y v u Q I rx ry h
  obtain ⟨l, n, rfl, rfl, h1, h2, hm, q⟩ := h
  obtain ⟨t, rfl⟩ := rx
  obtain ⟨t', rfl⟩ := ry
  have size : (tx (List.replicate n.toNat l).flatten).length ≤ sizeLine := by
    rw [tx_len, rep_len, sizeLine_eq]
    omega
  refine P.mul_str (Bool.or_eq_false_iff.mpr ⟨decide_eq_false (by omega), decide_eq_false (by omega)⟩) (fun z1 z2 => ?_) (fun z1 z2 => ?_) ?_
  · rw [tx_len, Bool.or_eq_false_iff] at *
    have hn1 : n ≠ 1 := by simpa using z2.1
    rw [show (2 ^ 63 - 1 : Int) = 9223372036854775807 by decide]
    have hl0 : (l.length : Int) ≤ 1000000 := by
      have : 1 ≤ n.toNat := by omega
      have : l.length * 1 ≤ l.length * n.toNat := Nat.mul_le_mul_left _ this
      omega
    have : (9223372036854775807 : Int) / n ≥ 1000000 := by
      rw [ge_iff_le, Int.le_ediv_iff_mul_le (by omega)]
      omega
    omega
  · rw [tx_len]
    unfold Builtin.Str.tooLong
    refine decide_eq_false ?_
    rw [sizeLine_eq]
    omega
  · by_cases z : n < 1
    · rw [if_pos z]
      have e : n.toNat = 0 := by omega
      rw [e] at q
      exact ⟨by decide, .str _, H, I.tok _, ⟨_, rfl⟩, q⟩
    · rw [if_neg z]
      by_cases y : (n == 1 || (tx l).length == 0) = true
      · rw [if_pos y]
        have e : (List.replicate n.toNat l).flatten = l := by
          rw [Bool.or_eq_true, tx_len] at y
          rcases y with y | y
          · have : n = 1 := by simpa using y
            subst this
            simp
          · have : l = [] := List.length_eq_zero_iff.mp (by simpa using y)
            subst this
            simp
        rw [e] at q
        exact ⟨.str _, H, I, ⟨t, rfl⟩, q⟩
      · rw [if_neg y, rep_made]
        exact ⟨size, .str _, H, I.tok _, ⟨_, rfl⟩, q⟩
theorem ro_repN {K : PySem.W.Frag} {l : List Nat} {n : Int} (h1 : -100000 ≤ n) (h2 : n ≤ 100000) (hm : l.length * n.toNat ≤ 1000000) : RO K rRepN (.str l) (.int n) (.str (List.replicate n.toNat l).flatten) := fun F B as M H v u Q ow r1 r2 q => ⟨l, n, r1, r2, h1, h2, hm, q _ B H (Gr.refl F B) ow rfl⟩
section
variable {K : PySem.W.Frag} {G G1 : List (Option Sl)} {M M1 : List MO} {te : TE}
/-- a comprehension whose list is joined on -/
theorem ev_lcX {μ β : Type} {wi : TI} {g : TG} {tt : TT} {vs : List Nat} (xs : List β) (en : β → Dt) (encM : μ → List MO) (p : μ → β → Option (Dt × μ)) (q : μ → β → μ) (m0 : μ)
    (hI : EvI K wi G M (xs.map en) (encM m0)) (hx : xs.length ≤ 100000) (hw : ∀ v σ H Q, g v (wipe σ vs) H (fun σ2 H2 => wipe σ2 vs = wipe σ vs → Q σ2 H2) → g v (wipe σ vs) H Q)
    (turn : ∀ m x, x ∈ xs → ∃ G1, EvG K g (wipeG G vs) (.d (en x)) G1 ∧ (match p m x with
      | some (y, m') => ∃ M1, EvT K tt G1 (encM m) true M1 ∧ EvE K te G1 M1 (.d y) (encM m')
      | none => EvT K tt G1 (encM m) false (encM (q m x)))) :
    EvE K (tLc wi g tt te vs) G M (.d (lstX K (mapS p q xs m0).1)) (encM (mapS p q xs m0).2) := fun F B as σ H ow sl Q k =>
  ev_lcAny xs en encM p q m0 hI hx hw turn F B as σ H ow sl Q fun D us B' as' H' g' p' fD bD o' hD r' => by
    have sm : Same B' (upd B' D (.lst us)) := fun c u e => by rw [upd_ne (ne_of_none e bD)]; exact e
    refine k _ (upd B' D (.lst us)) as' H' ⟨g'.1.trans sm, fun c z n => ?_⟩ p' ⟨?_, ?_, o'.len, o'.nd, o'.al, ?_, ?_⟩ (fun H2 s2 => ⟨D, us, rfl, s2 _ _ upd_same, RpL.mono (sm.trans s2) _ _ r'⟩)
    · rw [upd_ne (fun e : c = D => z.1 (by rw [e]; exact fD))]; exact g'.2 c z n
    · exact fun c u e => o'.fb c u (by rw [upd_ne (ne_of_none e fD)]; exact e)
    · intro c u e
      by_cases z : c = D
      · rw [z, upd_same] at e; rw [z, ← e]; exact hD
      · rw [upd_ne z] at e; exact o'.bb c u e
    · intro c hc
      have q1 := o'.fa c hc
      rw [upd_ne (fun e : c = D => o'.out (e ▸ hc))] at q1
      exact q1
    · intro k a m e1 e2 hm
      obtain ⟨q1, q2, q3⟩ := o'.own k a m e1 e2 hm
      have ne : a ≠ D := fun e => by rw [e, upd_same] at q1; cases q1
      rw [upd_ne ne] at q1
      exact ⟨q1, by rw [upd_ne ne]; exact q2, MoR.mono sm rfl q3⟩
theorem ev_lcAX {μ β γ : Type} {wi : TI} {g : TG} {vs : List Nat} (xs : List β) (en : β → Dt) (ec : γ → Dt) (encM : μ → List MO) (f : μ → β → γ × μ) (m0 : μ) (hI : EvI K wi G M (xs.map en) (encM m0)) (hx : xs.length ≤ 100000)
    (hw : ∀ v σ H Q, g v (wipe σ vs) H (fun σ2 H2 => wipe σ2 vs = wipe σ vs → Q σ2 H2) → g v (wipe σ vs) H Q) (turn : ∀ m x, x ∈ xs → ∃ G1, EvG K g (wipeG G vs) (.d (en x)) G1 ∧ EvE K te G1 (encM m) (.d (ec (f m x).1)) (encM (f m x).2)) :
    EvE K (tLc wi g tYes te vs) G M (.d (lstX K ((mapA f xs m0).1.map ec))) (encM (mapA f xs m0).2) := by
  have h := ev_lcX (te := te) xs en encM (fun m x => some (ec (f m x).1, (f m x).2)) (fun m _ => m) m0 hI hx hw fun m x hm => by
    obtain ⟨G1, h1, h2⟩ := turn m x hm
    exact ⟨G1, h1, encM m, et_yes, h2⟩
  rw [mapS_acc] at h
  exact h
end
/-! ### repr of data, where no guard is up -/
def rReprD (K : PySem.W.Frag) : List V → Hp → VK → Prop := fun xs H Q => ∃ (a : Addr) (d : PyData), xs = [.ref a] ∧ Dp K H (.ref a) d ∧ d.showable = true ∧ d.canLay0 = true ∧ d.depth ≤ 64 ∧ d.shown.length ≤ sizeLine ∧ Q (.str d.shown) H
theorem call_repr_data {X : Cx} (hg : X.A.guards = some []) (hu : X.A.units + 66 < cLine) : CallR X (.builtin "repr") (rReprD X.K) := by
  intro pins s σ H xs us Q I r h
  obtain ⟨a, d, rfl, hd, h1, h2, h3, h4, q⟩ := h
  obtain ⟨u, rfl, ru⟩ := vals1 r
  obtain ⟨as, hr⟩ := Dp.reads I d (.ref a) u hd ru
  cases ru
  exact repr_of_reads' hr h1 (PyData.noDict_hsm (PyData.hasDict_of_canLay d h2)) hg (by omega) (fun _ _ e => e) (fun h' u tk hk => ⟨.str _, H, I.kept hk, ⟨u, rfl⟩, q⟩) h4
def shL (d : Dt) : List Nat := (toP d).shown.cps.toList
theorem tx_shL (d : Dt) : tx (shL d) = (toP d).shown := by
  show (⟨_⟩ : Str) = _
  unfold shL
  rw [Array.toArray_toList]
theorem rc_reprD {K : PySem.W.Frag} {xs : List Dt} (h1 : plD (.lst xs) = true) (h2 : (toP (.lst xs)).showable = true) (h3 : dpD (.lst xs) ≤ 64) (h4 : (toP (.lst xs)).shown.length ≤ sizeLine) : RC K (rReprD K) [.lst xs] (.str (shL (.lst xs))) := fun F B as M H vs Q ow r q => by
  obtain ⟨v, r1, e, hv, h5⟩ := r
  have h5 : r1 = [] := h5
  subst h5; subst e
  have hv2 := Rp.mono ow.bb _ _ hv
  obtain ⟨a, us, rfl, _⟩ := hv
  obtain ⟨l1, l2⟩ := lay_of (.lst xs) h1
  refine ⟨a, toP (.lst xs), rfl, dp_of (.lst xs) _ h1 hv2, h2, l1, by rw [l2]; exact h3, h4, q _ B H (Gr.refl F B) ow ?_⟩
  show V.str _ = V.str _
  rw [tx_shL]
/-! ### the outermost call: no guard is up there -/
structure FnA (P : Program) (w : World) (K : PySem.W.Frag) (mg : Str → Option Value) (base : Heap) (f : Addr) (fd : FuncData) (ps : List Str) (sp : Sp) : Prop where
  go : ∀ (outer : List Env) (s : Shared) (H : Hp) (args : Args) (us : List Value) (vs : List V) (Q : VK) (E : XK), Env0 P w K mg base callerA outer s H → BindsTo s fd args (ps.zip us) → Vals vs us → sp vs H Q E →
    codeAny (model P w) callerA (.call (.ref f) args) (CR CX0 outer P w H s Q E) s
section
variable {P : Program} {w : World} {K : PySem.W.Frag} {mg : Str → Option Value} {base : Heap}
theorem fn_outer {k : Nat} {f : Addr} {nm ql : Str} {pr : Arguments} {bd : List Stmt} {sc : Scope} {dV kV dc pm cv ct oc : Value} {an od : Option Addr} {sl : Array (Option Value)} {N ps : List Str} {sp : Sp}
    (lk : K.lookup f = some ⟨oc, od, .func (PySem.W.fnOf nm ql pr bd sc dV kV dc pm an cv ct), sl⟩) (hcd : PySem.W.codeIn K cv ql = true) (S : FnScope N ps sc) (hrm : Room (k + 1) callerA) (len : ∀ vs H Q E, sp vs H Q E → vs.length = ps.length)
    (body : ∀ (outer : List Env) (s : Shared) (H : Hp) (vs : List V) (Q : VK) (E : XK), Room k (callerA.deeper (envOfC ql sc s.heap.objs.size f cv)) → sp vs H Q E →
      ∃ t, PSs (cxOf CX0 P w K mg base N ql sc f cv callerA outer s H E) bd t ∧ t { nx := fun _ H' => Q .non H', rt := Q } (L2.start N vs) H) :
    FnA P w K mg base f (PySem.W.fnOf nm ql pr bd sc dV kV dc pm an cv ct) ps sp := by
  constructor
  intro outer s H args us vs Q E e0 bnd rel want
  have nvs := len _ _ _ _ want
  have inH : K.In s.heap := e0.mod.kin.keeps fun b o z => (e0.bs b o z).1
  have noLim : s.heap.NoLimit := e0.mod.nolimit.keeps fun b o z => (e0.bs b o z).1
  have kinds : ∀ y ∈ ps.zip us, sc.names.lookup y.1 = some .local ∨ (sc.names.lookup y.1 = some .cell ∧ ((cellsFrom (s.heap.objs.size + 1) sc.names []).lookup y.1).isSome = true) := by
    rintro ⟨n, v⟩ hy
    rcases S.par n (List.of_mem_zip hy).1 with z | z
    · exact Or.inl z
    · exact Or.inr ⟨z, PySem.W.cellsFrom_some _ _ _ (Or.inl z)⟩
  refine codeAny_call_function hrm.depth (inH _ _ lk) rfl S.co S.gen rfl (PySem.W.codeRec_of inH hcd) (bnd _ _ _ _ (wpAny_newFunctionEnv_cells S.kind kinds fun env henv s1 st => ?_))
  subst henv
  obtain ⟨t, ht, run⟩ := body outer s H vs Q E (hrm.deeper _) want
  have inv0 : L2.Inv (cxOf CX0 P w K mg base N ql sc f cv callerA outer s H E) [] (L2.start N vs) H s1 := inv_start S hrm.hd e0 nvs rel st
  refine ⟨noLim.keeps st.toInCall.keep, codeAny_func (wpAny_mono (ht.run [] s1 (L2.start N vs) H _ inv0 run) (fun fl s2 hs => ?_) fun _ _ z => z)⟩
  cases fl with
  | ret u =>
    obtain ⟨v, σ', H', J, rv, q⟩ := hs
    exact ⟨v, H', J.os, J.bare, J.base, J.hok, rv, q⟩
  | next =>
    obtain ⟨σ', H', J, q⟩ := hs
    exact ⟨.non, H', J.os, J.bare, J.base, J.hok, rfl, q⟩
  | brk => exact (let ⟨_, _, _, q⟩ := hs; q.elim)
  | cont => exact (let ⟨_, _, _, q⟩ := hs; q.elim)
end
theorem outer_call {P : Program} {w : World} {K : PySem.W.Frag} {mg mb : Str → Option Value} {fa a : Addr} {fd : FuncData} {x : Str} {sp : Sp} {s1 : Shared} {vs : List Value} {ns : List Int}
    (inS : K.In s1.heap) (nsM : s1.heap.Ns mainGlobals mg) (nsB : s1.heap.Ns builtinsNs mb) (boot : ∀ y : Str, y ≠ "__name__" → mb y = bootBuiltins y) (noLim : s1.heap.NoLimit) (gens : s1.gens = #[])
    (obj : s1.heap.get? a = some { cls := .type "list", data := .seq vs.toArray }) (rin : IntsAre vs ns) (few : ns.length ≤ sizeLine)
    (F : ∀ base : Heap, K.In base → base.Ns mainGlobals mg → FnA P w K mg base fa fd [x] sp) (bind : ∀ (s : Shared) (u : Value), BindsTo s fd ⟨[u], []⟩ [(x, u)])
    (want : ∀ H : Hp, Only H → SqL K H a (ns.map V.int) → sp [.ref a] H (fun v _ => v = .bl true) fun _ _ _ => False) :
    codeAny (model P w) callerA (.call (.ref fa) ⟨[.ref a], []⟩) (fun r s' => r = .ok (.ret (.bool true)) ∧ OldK s1.heap s'.heap ∧ s'.os = s1.os ∧ AllBare s'.gens) s1 := by
  have rel := vals_ints rin
  have nv := rin.length
  have main : ∀ H : Hp, Only H → SqL K H a (ns.map V.int) → HOk P w H s1.heap → (∀ b, H b ≠ none → b = a) → (H a ≠ none → K.lookup a = none) →
      codeAny (model P w) callerA (.call (.ref fa) ⟨[.ref a], []⟩) (fun r s' => r = .ok (.ret (.bool true)) ∧ OldK s1.heap s'.heap ∧ s'.os = s1.os ∧ AllBare s'.gens) s1 := by
    intro H only sq ok onlyA outK
    have keep : ∀ {b : Addr} {o : Obj}, s1.heap.get? b = some o → H b = none → (hidT s1.heap H).get? b = some o := fun z n => hidT_get z n
    have dictFree : ∀ {b : Addr} {o : Obj} {es : Array DictEntry} {ep : Nat}, s1.heap.get? b = some o → o.data = .dict es ep → H b = none := by
      intro b o es ep z hd
      rcases hq : H b with _ | u
      · rfl
      · have z2 := onlyA b (by rw [hq]; simp)
        subst z2
        rw [obj] at z
        cases z
        exact absurd hd (fun y => nomatch y)
    have space : ∀ {b : Addr} {m : Str → Option Value}, s1.heap.Ns b m → (hidT s1.heap H).Ns b m := by
      rintro b m ⟨o, es, ep, z, hd, r⟩
      exact ⟨o, es, ep, keep z (dictFree z hd), hd, r⟩
    have inB : K.In (hidT s1.heap H) := by
      intro b o z
      refine keep (inS b o z) ?_
      rcases hq : H b with _ | u
      · rfl
      · have z2 := onlyA b (by rw [hq]; simp)
        subst z2
        rw [outK (by rw [hq]; simp)] at z
        cases z
    have modl : Mod K mg (hidT s1.heap H) := by
      refine ⟨inB, space nsM, ⟨mb, space nsB, boot⟩, ?_⟩
      obtain ⟨mc, y1, y2⟩ := noLim
      exact ⟨mc, space y1, y2⟩
    have env : Env0 P w K mg (hidT s1.heap H) callerA [] s1 H := ⟨rfl, modl, fun b o z => of_hidT z, Nat.le_of_eq (hidT_size _ _), trivial, fun b hb => (nomatch hb), ok, .of_eq gens⟩
    refine codeAny_mono ((F _ inB (space nsM)).go [] s1 H ⟨[.ref a], []⟩ [.ref a] [.ref a] _ _ env (bind s1 (.ref a)) (.cons rfl .nil) (want H only sq)) fun r s' res => ?_
    rcases r with e | fl
    · exact absurd res (fun y => y)
    · cases fl with
      | next => exact res.elim
      | brk => exact res.elim
      | cont => exact res.elim
      | ret u =>
        obtain ⟨v, H', os, bare, un, ok', rv, qv⟩ := res
        have qv : v = .bl true := qv
        subst qv
        have ru : u = Value.bool true := rv
        subst ru
        refine ⟨rfl, OldK.of_keep fun b o z => ?_, os, bare⟩
        rcases hq : H b with _ | u
        · exact un.keep b o z hq (fun y => nomatch y) (by simp)
        · rcases only b with y | ⟨ob, xs, y⟩
          · rw [hq] at y; cases y
          · obtain ⟨e1, _⟩ := ok b _ y
            obtain ⟨e2, _⟩ := ok' b _ (un.frzs b ob _ y)
            rw [z] at e1
            cases e1
            exact e2
  rcases hk : K.lookup a with _ | o
  · have at1 : ∀ b : Addr, b = a → (if b = a then some (HO.frz { cls := .type "list", data := .seq vs.toArray } (.lst (ns.map V.int))) else none) = some (HO.frz { cls := .type "list", data := .seq vs.toArray } (.lst (ns.map V.int))) := fun b z => if_pos z
    have at0 : ∀ b : Addr, b ≠ a → (if b = a then some (HO.frz { cls := .type "list", data := .seq vs.toArray } (.lst (ns.map V.int))) else none) = none := fun b z => if_neg z
    refine main (fun b => if b = a then some (.frz { cls := .type "list", data := .seq vs.toArray } (.lst (ns.map V.int))) else none) (fun b => ?_) (.inl (.inr ⟨_, at1 a rfl⟩)) (fun b u z => ?_) (fun b z => ?_) fun _ => hk
    · by_cases y : b = a
      · exact .inr ⟨_, _, at1 b y⟩
      · exact .inl (at0 b y)
    · by_cases y : b = a
      · have z2 := (at1 b y).symm.trans z
        cases z2
        subst y
        exact ⟨obj, by rw [List.length_map]; exact few, vs, _, rel, obj⟩
      · have z2 := (at0 b y).symm.trans z
        cases z2
    · by_cases y : b = a
      · exact y
      · exact absurd (at0 b y) z
  · have z := inS a o hk
    rw [obj] at z
    cases z
    exact main (fun _ => none) (fun _ => .inl rfl) (.inr ⟨_, vs.toArray, _, hk, rfl, rfl, rfl, by rw [List.size_toArray, nv]; exact few, by simpa using rel⟩) (fun b u z => by have z2 : (none : Option HO) = some u := z; cases z2) (fun b z => absurd rfl z) fun z => absurd rfl z
theorem walk_outer {l : PySem.W.OpenLaw} {n : Nat} {q : Program} {loose : List Str} {XP : (Str → Option Value) → Heap → Prop} {YP : World → Heap → Prop} {d : DefRec} {K : Params → PySem.W.Frag} {sp : World → Sp} {x : Str}
    (hn : l.most = some n) (hn2 : n ≤ sizeLine) (hdf : d.params.defaults = []) (hY : ∀ (w : World) (h : Heap), YP w h → (K w.params).In h)
    (F : ∀ (w : World) (mg : Str → Option Value) (fa : Addr) (h : Heap), (K w.params).In h → h.Ns mainGlobals mg → mg d.name = some (.ref fa) →
      ∃ fd : FuncData, (∀ (s : Shared) (u : Value), BindsTo s fd ⟨[u], []⟩ [(x, u)]) ∧ ∀ base : Heap, (K w.params).In base → base.Ns mainGlobals mg → FnA l.prog w (K w.params) mg base fa fd [x] (sp w))
    (hsp : ∀ (w : World) (H : Hp) (a : Addr) (ns : List Int), ns.length ≤ n → Only H → SqL (K w.params) H a (ns.map V.int) → sp w [.ref a] H (fun v _ => v = .bl true) fun _ _ _ => False) :
    PySem.W.WalkO q loose XP YP l.row.toRowW d [] (fun f vs => PySem.call f vs) := by
  refine Att.attach_call hn hdf fun w s0 s1 mg mb fa o pm cd doc a vs ns G Y ho hd hcd hmg hobj hints hlen hg => ?_
  have inS := hY w _ Y
  obtain ⟨fd, hb, hF⟩ := F w mg fa _ inS G.T.g hmg
  exact outer_call inS G.T.g G.T.b G.T.builtins G.T.nolimit hg hobj hints (Nat.le_trans hlen hn2) hF hb (fun H hO hS => hsp w H a ns hlen hO hS)
/-- a law's own def, at the outermost call -/
structure CalA (P : Program) (w : World) (K : PySem.W.Frag) (mg : Str → Option Value) (base : Heap) (x : Str) (st : Stmt) (ps : List Str) (sp : Sp) : Prop where
  ex : ∃ (f : Addr) (fd : FuncData), FnA P w K mg base f fd ps sp ∧ L2.Fun K x x st f fd ∧ mg x = some (.ref f)
theorem cal_mkA {P : Program} {w : World} {K : PySem.W.Frag} {mg : Str → Option Value} {base : Heap} {x : Str} {st : Stmt} {N ps : List Str} {k n : Nat} {R : List Sl → List MO → Sl → List MO → Prop} (D : Df K mg x st ps) (S : FnScope N ps (defScope st)) (hn : ps.length = n) (hrm : Room (k + 1) callerA)
    (hb : ∀ (f : Addr) (cdv : Value) (outer : List Env) (s : Shared) (H : Hp) (E : XK), Room k (callerA.deeper (envOfC x (defScope st) s.heap.objs.size f cdv)) → ∀ ss M r M', R ss M r M' →
      ∃ t X, PSs (cxOf CX0 P w K mg base N x (defScope st) f cdv callerA outer s H E).nox (defBody st) t ∧ EvS K t (start N.length ss) M (.rt r (M' ++ X)) ∧ M.length ≤ M'.length ∧ ∀ j, r = .o j → j < M'.length) :
    CalA P w K mg base x st ps (SpR K n R) := by
  obtain ⟨f, fd, F, hm, b⟩ := D.ex
  obtain ⟨oc, od, kV, doc, pm, an, cdv, ct, osl, rfl, lk, hcd⟩ := F.ex
  refine ⟨f, _, fn_outer lk hcd S hrm (fun vs H Q E h => ?_) (fun outer s H vs Q E hr h => ?_), F, hm⟩
  · obtain ⟨_, _, _, _, _, _, _, _, _, _, e, _⟩ := h
    rw [e, hn]
  · obtain ⟨F', B, as, ss, M, r, M', hR, ow, sl, _, q⟩ := h
    obtain ⟨t, X, ht, he, hl, hr'⟩ := hb f cdv outer s H E hr ss M r M' hR
    exact ⟨t, ht.nox, run_body (X := X) he hl hr' ow sl q⟩
end DJ
namespace DJ
open PySem PySem.Spec PyProof.Rows L2
section
variable {K : PySem.W.Frag} {F B H : Hp} {as : List Addr} {G G1 : List (Option Sl)} {M M1 : List MO} {te : TE}
/-! ### two clauses in one comprehension, nothing owned changes -/
theorem flat_take {β γ : Type} (f : β → List γ) (xs : List β) (i : Nat) (h : i < xs.length) : (xs.take (i + 1)).flatMap f = (xs.take i).flatMap f ++ f xs[i] := by
  rw [← List.take_append_getElem h, List.flatMap_append, List.flatMap_cons, List.flatMap_nil, List.append_nil]
theorem flat_len {β γ : Type} (f : β → List γ) (xs : List β) (i : Nat) : ((xs.take i).flatMap f).length ≤ (xs.flatMap f).length := by
  have h : xs.flatMap f = (xs.take i).flatMap f ++ (xs.drop i).flatMap f := by rw [← List.flatMap_append, List.take_append_drop]
  rw [h, List.length_append]
  omega
theorem yes_ite {σ : L2.St} {H : Hp} {p q : Hp → Prop} (h : p H) : tYes σ H (fun b H' => if b = true then p H' else q H') := h
theorem ev_lc2 {β γ : Type} {wi wi1 : TI} {g g1 : TG} {vs vs1 : List Nat} (xs : List β) (en : β → Dt) (ys : β → List γ) (en1 : γ → Dt) (f : β → γ → Dt) (hI : EvI K wi G M (xs.map en) M) (hx : (xs.flatMap fun x => (ys x).map (f x)).length ≤ 100000)
    (hw : ∀ v σ H Q, g v (wipe σ vs) H (fun σ2 H2 => wipe σ2 vs = wipe σ vs → Q σ2 H2) → g v (wipe σ vs) H Q) (hw1 : ∀ v σ H Q, g1 v (wipe σ vs1) H (fun σ2 H2 => wipe σ2 vs1 = wipe σ vs1 → Q σ2 H2) → g1 v (wipe σ vs1) H Q)
    (turn : ∀ x, x ∈ xs → ∃ G1, EvG K g (wipeG G vs) (.d (en x)) G1 ∧ EvI K wi1 G1 M ((ys x).map en1) M ∧ ∀ y, y ∈ ys x → ∃ G2, EvG K g1 (wipeG G1 vs1) (.d (en1 y)) G2 ∧ EvE K te G2 M (.d (f x y)) M) :
    EvE K (tLc2 wi g tYes wi1 g1 tYes te vs vs1) G M (.d (.lst (xs.flatMap fun x => (ys x).map (f x)))) M := fun F B as σ H ow sl Q k => by
  refine hI F B as σ H ow sl _ fun J B1 as1 H1 g1' p1 o1 yl => fun D hD => ?_
  obtain ⟨fD, bD, aD⟩ := o1.fresh hD
  have kD : ∀ us : List V, Kp ((upd F D (.lst us)) D) := fun us => by rw [upd_same]; exact kp_lst
  have ow0 : Ow K (upd F D (.lst [])) B1 as1 M (upd H1 D (.lst [])) := o1.frame hD _
  refine ⟨fun i n H' => ∃ B' as' us, n = xs.length - i ∧ i ≤ xs.length ∧ Gr F B1 B' ∧ B' D = none ∧ Px as1 as' ∧ Ow K (upd F D (.lst us)) B' as' M H' ∧ H' D = some (.lst us) ∧ RpL K B' ((xs.take i).flatMap fun x => (ys x).map (f x)) us,
    ⟨xs.length, B1, as1, [], by simp, Nat.zero_le _, Gr.refl F B1, bD, Px.refl as1, ow0, upd_same, rfl⟩, fun i n H' w => ?_⟩
  obtain ⟨B', as', us, rfl, hi, g', bD', p', o', hD', r'⟩ := w
  obtain ⟨y1, y2⟩ := yl _ B' as' _ H' i g'.1 o'
  by_cases hlt : i < xs.length
  · have hxi : xs[i]? = some xs[i] := List.getElem?_eq_getElem hlt
    obtain ⟨go, yld⟩ := y1 (en xs[i]) (by rw [List.getElem?_map, hxi] <;> rfl)
    refine .inr ⟨go, fun H2 => ∃ B' as' us, i + 1 ≤ xs.length ∧ Gr F B1 B' ∧ B' D = none ∧ Px as1 as' ∧ Ow K (upd F D (.lst us)) B' as' M H2 ∧ H2 D = some (.lst us) ∧ RpL K B' ((xs.take (i + 1)).flatMap fun x => (ys x).map (f x)) us, fun H2 n2 => ?_, fun v H2 yv => ?_⟩
    · obtain ⟨B2, as2, us2, q1, q2, q3, q4, q5, q6, q7⟩ := n2
      exact ⟨xs.length - (i + 1), by omega, B2, as2, us2, rfl, q1, q2, q3, q4, q5, q6, q7⟩
    · obtain ⟨B2, g2, o2, r2⟩ := yld v H2 yv
      obtain ⟨G1, hg, hI1, ht⟩ := turn xs[i] (List.getElem_mem hlt)
      have bD2 : B2 D = none := g2.2 D (kD us) bD'
      refine hw v σ H2 _ ?_
      refine hg _ B2 as' M (wipe σ vs) H2 v o2 ((slt_wipe (sl.mono ((g1'.1.trans g'.1).trans g2.1) (p1.trans p')) vs)) r2 _ fun B3 as3 σ3 H3 g3 p3 o3 s3 => fun hwp => ⟨hwp, ?_⟩
      refine yes_ite ?_
      have bD3 : B3 D = none := g3.2 D (kD us) bD2
      refine hI1 _ B3 as3 σ3 H3 o3 s3 _ fun J1 B4 as4 H4 g4 p4 o4 yl4 => ?_
      have bD4 : B4 D = none := g4.2 D (kD us) bD3
      have gg : Gr F B' B4 := (g2.trans (g3.trans g4)).of_side
      refine ⟨fun j m H' => ∃ B' as' us', m = (ys xs[i]).length - j ∧ j ≤ (ys xs[i]).length ∧ Gr F B4 B' ∧ B' D = none ∧ Px as4 as' ∧ Ow K (upd F D (.lst us')) B' as' M H' ∧ H' D = some (.lst us') ∧ RpL K B' (((xs.take i).flatMap fun x => (ys x).map (f x)) ++ ((ys xs[i]).take j).map (f xs[i])) us',
        ⟨(ys xs[i]).length, B4, as4, us, by simp, Nat.zero_le _, Gr.refl F B4, bD4, Px.refl as4, o4, o4.fb D _ upd_same, by rw [List.take_zero, List.map_nil, List.append_nil]; exact RpL.mono gg.1 _ _ r'⟩, fun j m H5 w5 => ?_⟩
      obtain ⟨B5, as5, us5, rfl, hj, g5, bD5, p5, o5, hD5, r5⟩ := w5
      obtain ⟨z1, z2⟩ := yl4 _ B5 as5 _ H5 j g5.1 o5
      by_cases hjl : j < (ys xs[i]).length
      · have hyj : (ys xs[i])[j]? = some (ys xs[i])[j] := List.getElem?_eq_getElem hjl
        obtain ⟨go1, yld1⟩ := z1 (en1 (ys xs[i])[j]) (by rw [List.getElem?_map, hyj] <;> rfl)
        refine .inr ⟨go1, fun H2 => ∃ B' as' us', j + 1 ≤ (ys xs[i]).length ∧ Gr F B4 B' ∧ B' D = none ∧ Px as4 as' ∧ Ow K (upd F D (.lst us')) B' as' M H2 ∧ H2 D = some (.lst us') ∧ RpL K B' (((xs.take i).flatMap fun x => (ys x).map (f x)) ++ ((ys xs[i]).take (j + 1)).map (f xs[i])) us', fun H2 n2 => ?_, fun v5 H6 yv5 => ?_⟩
        · obtain ⟨B2, as2, us2, q1, q2, q3, q4, q5, q6, q7⟩ := n2
          exact ⟨(ys xs[i]).length - (j + 1), by omega, B2, as2, us2, rfl, q1, q2, q3, q4, q5, q6, q7⟩
        · obtain ⟨B6, g6, o6, r6⟩ := yld1 v5 H6 yv5
          obtain ⟨G2, hg1, hte⟩ := ht (ys xs[i])[j] (List.getElem_mem hjl)
          have bD6 : B6 D = none := g6.2 D (kD us5) bD5
          refine hw1 v5 σ3 H6 _ ?_
          refine hg1 _ B6 as5 M (wipe σ3 vs1) H6 v5 o6 (slt_wipe (s3.mono ((g4.1.trans g5.1).trans g6.1) (p4.trans p5)) vs1) r6 _ fun B7 as7 σ7 H7 g7 p7 o7 s7 => fun hwp1 => ⟨hwp1, ?_⟩
          refine yes_ite ?_
          have bD7 : B7 D = none := g7.2 D (kD us5) bD6
          refine hte _ B7 as7 σ7 H7 o7 s7 _ fun w8 B8 as8 H8 g8 p8 o8 r8 => ?_
          have bD8 : B8 D = none := g8.2 D (kD us5) bD7
          have sm := (g6.1.trans g7.1).trans g8.1
          have hl : us5.length < sizeLine := by
            rw [r5.len, List.length_append, List.length_map, List.length_take]
            have e1 := flat_len (fun x => (ys x).map (f x)) xs (i + 1)
            rw [flat_take _ xs i hlt, List.length_append, List.length_map] at e1
            exact Nat.lt_of_le_of_lt (show _ ≤ 100000 by omega) (by decide)
          have on : Ow K F B8 as8 M (upd H8 D (.lst (us5 ++ [w8]))) := o8.aside fD bD8
          have on2 : Ow K (upd F D (.lst (us5 ++ [w8]))) B8 as8 M (upd H8 D (.lst (us5 ++ [w8]))) := on.side upd_same fD o8.out
          refine ⟨us5, o8.fb D _ upd_same, hl, B8, as8, us5 ++ [w8], hjl, g5.trans ((g6.trans (g7.trans g8)).of_side), bD8, p5.trans (p7.trans p8), on2, upd_same, ?_⟩
          rw [← List.take_append_getElem hjl, List.map_append, List.map_cons, List.map_nil, ← List.append_assoc]
          exact RpL.append (RpL.mono sm _ _ r5) (RpL.one r8)
      · have e : j = (ys xs[i]).length := by omega
        subst e
        refine .inl ⟨z2 (by rw [List.length_map]; exact Nat.le_refl _), B5, as5, us5, hlt, g'.trans (gg.trans g5), bD5, p'.trans (p3.trans (p4.trans p5)), o5, hD5, ?_⟩
        rw [flat_take _ xs i hlt]
        rw [List.take_length] at r5
        exact r5
  · have e : i = xs.length := by omega
    subst e
    rw [List.take_length] at r'
    have sm : Same B' (upd B' D (.lst us)) := fun c u e => by rw [upd_ne (ne_of_none e bD')]; exact e
    refine .inl ⟨y2 (by rw [List.length_map]; exact Nat.le_refl _), k _ (upd B' D (.lst us)) as' H' ⟨(g1'.trans g').1.trans sm, fun c z n => ?_⟩ (p1.trans p') ⟨?_, ?_, o'.len, o'.nd, o'.al, ?_, ?_⟩ ⟨D, us, rfl, .inl (.inl upd_same), RpL.mono sm _ _ r'⟩⟩
    · rw [upd_ne (fun e : c = D => z.1 (by rw [e]; exact fD))]; exact (g1'.trans g').2 c z n
    · exact fun c u e => o'.fb c u (by rw [upd_ne (ne_of_none e fD)]; exact e)
    · intro c u e
      by_cases z : c = D
      · rw [z, upd_same] at e; rw [z, ← e]; exact hD'
      · rw [upd_ne z] at e; exact o'.bb c u e
    · intro c hc
      have q1 := o'.fa c hc
      rw [upd_ne (fun e : c = D => o'.out (e ▸ hc))] at q1
      exact q1
    · intro k a m e1 e2 hm
      obtain ⟨q1, q2, q3⟩ := o'.own k a m e1 e2 hm
      have ne : a ≠ D := fun e => by rw [e, upd_same] at q1; cases q1
      rw [upd_ne ne] at q1
      exact ⟨q1, by rw [upd_ne ne]; exact q2, MoR.mono sm rfl q3⟩
/-! ### what was owned, joined on -/
theorem ev_freezeX {k : Nat} {xs : List Dt} (h : EvE K te G M (.o k) M1) (hm : M1[k]? = some (.lst xs)) : EvE K te G M (.d (lstX K xs)) (M1.set k .gone) := fun F B as σ H ow sl Q q =>
  h F B as σ H ow sl _ fun v B1 as1 H1 g p o1 r => by
    obtain ⟨a, ha, rfl⟩ := r
    obtain ⟨_, _, vs, hv, hr⟩ := o1.own k a _ ha hm (fun z => nomatch z)
    have e2 : (M1.set k (.hob (.lst vs)))[k]? = some (.hob (.lst vs)) := List.getElem?_set_self (List.getElem?_eq_some_iff.mp hm).1
    have o2 : Ow K F B1 as1 (M1.set k (.hob (.lst vs))) H1 := by
      have := o1.put (o := .lst vs) (m' := .hob (.lst vs)) ha hm (fun z => nomatch z) ⟨upd_same, fun _ z => nomatch z⟩
      rwa [show upd H1 a (.lst vs) = H1 from funext fun b => by
        by_cases e : b = a
        · rw [e, upd_same, hv]
        · rw [upd_ne e]] at this
    obtain ⟨g', ow'⟩ := o2.freezeO ha e2
    rw [List.set_set] at ow'
    exact q _ _ as1 H1 (g.trans g') p ow' fun H' s => ⟨a, vs, rfl, s _ _ upd_same, RpL.mono (g'.1.trans s) _ _ hr⟩
end
/-! ### isinstance(x, int), isinstance(x, bool), of whole numbers -/
abbrev tyInt : Dt := .raw (.ty "int")
abbrev tyBool : Dt := .raw (.ty "bool")
section
variable {K : PySem.W.Frag} {i : Int}
theorem rc_intI : RC K (rIsi K) [.int i, tyInt] (.bl true) := fun F B as M H vs Q ow r q => by
  obtain ⟨v, r1, e1, h1, w, r2, e2, h2, e3⟩ := r
  have h1 : v = V.int i := h1
  have h2 : w = V.ty "int" := h2
  have e3 : r2 = [] := e3
  subst e3; subst e2; subst e1; subst h2; subst h1
  exact ⟨_, _, _, _, true, rfl, .ty "int", .base (.int i), kit_ty (by decide +kernel), q _ B H (Gr.refl F B) ow rfl⟩
theorem rc_intNB : RC K (rIsi K) [.int i, tyBool] (.bl false) := fun F B as M H vs Q ow r q => by
  obtain ⟨v, r1, e1, h1, w, r2, e2, h2, e3⟩ := r
  have h1 : v = V.int i := h1
  have h2 : w = V.ty "bool" := h2
  have e3 : r2 = [] := e3
  subst e3; subst e2; subst e1; subst h2; subst h1
  exact ⟨_, _, _, _, false, rfl, .ty "bool", .base (.int i), kit_ty (by decide +kernel), q _ B H (Gr.refl F B) ow rfl⟩
end
/-! ### defs with defaults -/
structure DfD (K : PySem.W.Frag) (mg : Str → Option Value) (x : Str) (st : Stmt) (dvs : List V) : Prop where
  ex : ∃ (f : Addr) (fd : FuncData), L2.FunD K x x (defArgs st) (defBody st) (defScope st) dvs [] f fd ∧ mg x = some (.ref f)
theorem cal_mkD {P : Program} {w : World} {K : PySem.W.Frag} {mg : Str → Option Value} {base : Heap} {x : Str} {st : Stmt} {N ps : List Str} {dvs : List V} {k n : Nat} {R : List Sl → List MO → Sl → List MO → Prop} (D : DfD K mg x st dvs) (S : FnScope N ps (defScope st)) (hn : ps.length = n)
    (hb : ∀ (f : Addr) (cdv : Value) (A : Around) (outer : List Env) (s : Shared) (H : Hp) (E : XK), Room k (A.deeper (envOfC x (defScope st) s.heap.objs.size f cdv)) → ∀ ss M r M', R ss M r M' →
      ∃ t X, PSs (cxOf CX0 P w K mg base N x (defScope st) f cdv A outer s H E).nox (defBody st) t ∧ EvS K t (start N.length ss) M (.rt r (M' ++ X)) ∧ M.length ≤ M'.length ∧ ∀ j, r = .o j → j < M'.length)
    (j : Nat) (hj : n - (dvs.length - j) + (dvs.length - j) = n) (hd : dvs ≠ [])
    (hbind : ∀ (T : Addr) (kV doc pm : Value) (an : Option Addr) (cdv ct : Value) (us its : List Value), us.length = n - (dvs.length - j) → its.length = dvs.length →
      ∃ k, bindArgs (PySem.W.fnOf x x (defArgs st) (defBody st) (defScope st) (.ref T) kV doc pm an cdv ct) ⟨us, []⟩ = seqItems? (.ref T) >>= k ∧ k (some its.toArray) = pure (ps.zip (us ++ its.drop j))) :
    Cal P w K mg base (k + 1) x (SpR K n R) (dvs.drop j) := by
  obtain ⟨f, fd, F, hm⟩ := D.ex
  obtain ⟨ds, hv, hbb⟩ := F.binds1 (ps := ps) (n - (dvs.length - j)) j hd (by rw [hn]; exact hj) hbind
  refine ⟨f, fd, ps, ds, F.ok S (fun vs H Q E h => ?_) (fun cdv A outer s H vs Q E hr h => ?_), hm, F.kp, hbb, hv⟩
  · obtain ⟨_, _, _, _, _, _, _, _, _, _, e, _⟩ := h
    rw [e, hn]
  · obtain ⟨F', B, as, ss, M, r, M', hR, ow, sl, _, q⟩ := h
    obtain ⟨t, X, ht, he, hl, hr'⟩ := hb f cdv A outer s H E hr ss M r M' hR
    exact ⟨t, ht.nox, run_body (X := X) he hl hr' ow sl q⟩
end DJ
namespace DJ
open PySem PySem.Spec PyProof.Rows L2
/-! ### what the top leaves of a def with defaults -/
/-- these values are these whole numbers -/
def intsOf : List Int → List Value → Bool
  | [], [] => true
  | l :: ls, .int x _ :: vs => decide (x = l) && intsOf ls vs
  | _, _ => false
theorem vals_ints : ∀ {ls : List Int} {vs : List Value}, intsOf ls vs = true → Vals (ls.map V.int) vs
  | [], [], _ => .nil
  | l :: ls, .int x t :: vs, h => by
    have h : (decide (x = l) && intsOf ls vs) = true := h
    rw [Bool.and_eq_true, decide_eq_true_eq] at h
    exact .cons ⟨t, by rw [h.1]⟩ (vals_ints h.2)
  | [], _ :: _, h => by cases h
  | _ :: _, [], h => by cases h
  | _ :: _, .none :: _, h => by cases h
  | _ :: _, .bool _ :: _, h => by cases h
  | _ :: _, .str _ _ :: _, h => by cases h
  | _ :: _, .ref _ :: _, h => by cases h
theorem dfd_mk {K : PySem.W.Frag} {mg : Str → Option Value} {h : Heap} {x : Str} {st : Stmt} {f T : Addr} {oc tc : Value} {od an tod : Option Addr} {osl tsl : Array (Option Value)} {kV doc pm cdv ct : Value} {its : Array Value} {n : Nat} {ls : List Int}
    (X : K.In h) (G : h.Ns mainGlobals mg) (a : PySem.W.nsIn K mainGlobals x = some (some (.ref f)))
    (l : K.lookup f = some ⟨oc, od, .func (PySem.W.fnOf x x (defArgs st) (defBody st) (defScope st) (.ref T) kV doc pm an cdv ct), osl⟩) (c : PySem.W.codeIn K cdv x = true) (k : PySem.W.keepIn K (.ref f) = true)
    (lT : K.lookup T = some ⟨tc, tod, .seq its n, tsl⟩) (hs : intsOf ls its.toList = true) (hd : ls ≠ []) : DfD K mg x st (ls.map V.int) :=
  ⟨f, _, ⟨⟨oc, od, _, kV, doc, pm, an, cdv, ct, osl, rfl, l, c, .inr ⟨fun e => hd (List.map_eq_nil_iff.mp e), T, _, its.toList, n, rfl, lT, rfl, vals_ints hs⟩, .inl rfl⟩, k⟩, PySem.W.mg_of X G a⟩
end DJ
namespace DJ
open PySem PySem.Spec PyProof.Rows L2
/-! ### the limit on figures stands as it was: what K tells -/
abbrev DgK (K : PySem.W.Frag) : Prop := PySem.W.nsIn K cStatics "sys.int_max_str_digits" = some none
theorem mc_none {K : PySem.W.Frag} {h : Heap} {mc : Str → Option Value} {a : Addr} {n : Str} (X : K.In h) (G : h.Ns a mc) (e : PySem.W.nsIn K a n = some none) : mc n = none := by
  obtain ⟨o, es, ep, ho, hd, _, hf⟩ := G
  unfold PySem.W.nsIn at e
  split at e
  · rename_i c d es' n' sl q
    have := X _ _ q
    rw [ho] at this
    cases this
    cases hd
    split at e
    · cases e
    · rename_i he
      rw [← hf]
      unfold nsFind findBy
      rw [← Array.find?_toList, he]
      rfl
  · cases e
theorem nodig {X : Cx} {pins : List (Addr × Obj)} {σ : L2.St} {H : Hp} {s : Shared} (I : Inv X pins σ H s) (e : DgK X.K) : s.heap.NoDigits :=
  let ⟨mc, h1, _⟩ := I.nolimit
  ⟨mc, h1, mc_none I.kIn h1 e⟩
/-! ### str(n), n of at most 4,300 figures -/
def rStrL : List V → Hp → VK → Prop := fun xs H Q => ∃ i : Int, xs = [.int i] ∧ i.natAbs < 10 ^ 4300 ∧ Q (.str (toString i)) H
theorem call_str_long {X : Cx} (hc : X.calm = true) (e : DgK X.K) : CallR X (.type "str") rStrL := by
  intro pins s σ H xs us Q I r h
  obtain ⟨i, rfl, hz, q⟩ := h
  obtain ⟨u, rfl, t, rfl⟩ := vals1 r
  exact str_of_int_or (I.ok.hd hc) (nodig I e) (fun _ => ⟨.str _, H, I.tok _, ⟨_, rfl⟩, q⟩) (fun h => absurd h (Nat.not_le.mpr hz))
def intL (i : Int) : List Nat := if i < 0 then 45 :: TL.numL i.natAbs else TL.numL i.natAbs
theorem tx_int (i : Int) : (Str.ofString (toString i)) = tx (intL i) := by
  cases i with
  | ofNat n =>
    have e : intL (Int.ofNat n) = TL.numL n := if_neg (Int.not_lt.mpr (Int.natCast_nonneg n))
    rw [e]
    exact TL.ext_tl (TL.tl_num n)
  | negSucc n =>
    have e : intL (Int.negSucc n) = 45 :: TL.numL (n + 1) := if_pos (Int.negSucc_lt_zero n)
    rw [e]
    refine TL.ext_tl ?_
    have e2 : toString (Int.negSucc n) = "-" ++ toString (((n + 1 : Nat) : Int)) := rfl
    have e3 := TL.tl_num (n + 1)
    rw [TL.tl_ofString] at e3 ⊢
    rw [e2, String.toList_append, List.map_append, e3]
    rfl
section
variable {K : PySem.W.Frag} {i : Int}
theorem rc_strL (h : i.natAbs < 10 ^ 4300) : RC K rStrL [.int i] (.str (intL i)) := fun F B as M H vs Q ow r q => by
  obtain ⟨v, r1, e1, h1, e2⟩ := r
  have h1 : v = V.int i := h1
  have e2 : r1 = [] := e2
  subst e2; subst e1; subst h1
  exact ⟨i, rfl, h, q _ B H (Gr.refl F B) ow (by
    show V.str _ = V.str _
    rw [← tx_int])⟩
end
/-! ### int(text, 8) and int(text, 16) of any length -/
theorem dig_any {M : Model} {A : Around} {E : Value → Shared → Prop} {s : Shared} {Q : Nat → Shared → Prop} (hn : s.heap.NoDigits) (h : Q 4300 s) : wpAny M A Builtin.intMaxStrDigits Q E s := by
  obtain ⟨mc, hns, hnone⟩ := hn
  unfold Builtin.intMaxStrDigits
  refine wpAny_bind (wpAny_nsGet hns ?_)
  rw [hnone]
  exact wpAny_pure h
theorem wp_textL {M : Model} {A : Around} {E : Value → Shared → Prop} {s : Shared} {Q : Value → Shared → Prop} {v : Value} {text : List Nat} {B : Nat} {n : Int} (hn : s.heap.NoDigits)
    (hr : ∀ k, (int_private% "readNumeral") k B (text.takeWhile (· != 0)) = (int_private% "Numeral.value") n)
    (ha : ((text.takeWhile (· != 0)).length == text.length) = true) (h : Q (.int n s.toks) { s with toks := s.toks + 1 }) :
    wpAny M A ((int_private% "intFromText") v text B) Q E s := by
  by_cases hs : (text.takeWhile (· != 0)).length ≤ 640
  · exact Hx.wp_textB hs (hr 0) ha h
  · have hr := hr 4300
    obtain ⟨hp, g, d, tk, os⟩ := s
    repeat (any_goals (first
      | assumption
      | (with_reducible refine wpAny_ite_false (decide_eq_false hs) ?_)
      | ((with_reducible show wpAny _ _ Builtin.intMaxStrDigits _ _ _); refine dig_any hn ?_)
      | (with_reducible refine wpAny_ite_true (decide_eq_true ha) ?_)
      | wp_step))
    all_goals (try rw [hr])
    all_goals (try dsimp only)
    repeat (any_goals (first
      | assumption
      | (with_reducible refine wpAny_ite_true (decide_eq_true ha) ?_)
      | wp_step))
open PySem.NumText in
theorem read_octL (k : Nat) {cs : List Nat} (h : ∀ c ∈ cs, Oct c) (hne : cs ≠ []) : (int_private% "readNumeral") k 8 cs = (int_private% "Numeral.value") ((octNum cs : Nat) : Int) := by
  have hr : ∀ c ∈ cs.reverse, Hx.IsHex c := fun c hc => (h c (List.mem_reverse.mp hc)).hex
  have hb : based 8 cs = (8, false, cs) := based_oct h
  refine (readNumeral_eq k 8 cs).trans ?_
  rw [Hx.dropB fun c hc => (h c hc).hex, Hx.signH fun c hc => (h c hc).hex]
  show judge k false (based 8 cs).1 (based 8 cs).2.1 (digits? (based 8 cs).1 (((based 8 cs).2.2.reverse.dropWhile blank).reverse)) = _
  rw [hb]
  show judge k false 8 false (digits? 8 ((cs.reverse.dropWhile blank).reverse)) = _
  rw [Hx.dropB hr, List.reverse_reverse, digits_oct h hne]
  show (int_private% "Numeral.value") (((cs.foldl (fun acc c => acc.push (Hx.hv c)) (#[] : Array Nat)).foldl (fun acc d => acc * 8 + d) 0 : Nat) : Int) = _
  rw [push_oct]
  rfl
open PySem.NumText in
theorem read_hexL (k : Nat) {cs : List Nat} (h : ∀ c ∈ cs, Hx.IsHex c) (hne : cs ≠ []) : (int_private% "readNumeral") k 16 cs = (int_private% "Numeral.value") ((Hx.hexNum cs : Nat) : Int) := by
  have hr : ∀ c ∈ cs.reverse, Hx.IsHex c := fun c hc => h c (List.mem_reverse.mp hc)
  refine (readNumeral_eq k 16 cs).trans ?_
  rw [Hx.dropB h, Hx.signH h]
  show judge k false (based 16 cs).1 (based 16 cs).2.1 (digits? (based 16 cs).1 (((based 16 cs).2.2.reverse.dropWhile blank).reverse)) = _
  rw [Hx.basedH h]
  show judge k false 16 false (digits? 16 ((cs.reverse.dropWhile blank).reverse)) = _
  rw [Hx.dropB hr, List.reverse_reverse, Hx.digits_hex h hne]
  show (int_private% "Numeral.value") (((cs.foldl (fun acc c => acc.push (Hx.hv c)) (#[] : Array Nat)).foldl (fun acc d => acc * 16 + d) 0 : Nat) : Int) = _
  rw [Hx.push_hex]
  rfl
theorem core_based {B : Nat} {x : PySem.Str} {u t : Tok} {n : Int} (hB : B = 8 ∨ B = 16) (h : ∀ c ∈ x.cps.toList, Hx.IsHex c) (hr0 : ∀ k, (int_private% "readNumeral") k B x.cps.toList = (int_private% "Numeral.value") n)
    {M : Model} {A : Around} {E : Value → Shared → Prop} {s : Shared} {Q : Value → Shared → Prop} (hn : s.heap.NoDigits) (hQ : Q (.int n s.toks) { s with toks := s.toks + 1 }) :
    wpAny M A (Builtin.«int.__new__» ⟨[.type "int", .str x u, .int (B : Nat) t], []⟩) (fun fin s' => ∃ v, fin = .done (.ret v) ∧ Q v s') E s := by
  have g1 := F.conv_sub_int
  have g2 := F.madeHere_int
  have g6 : typeOf (.str x u) = pure (.type "str") := rfl
  have e12 := Hx.seen_hex (x := x) h
  have hr : ∀ k, (int_private% "readNumeral") k B (numSeenOf x) = (int_private% "Numeral.value") n := by
    rw [e12.2]
    exact hr0
  have ha : ((numSeenOf x).length == (numTextOf x).length) = true := by
    rw [e12.1, e12.2]
    exact beq_self_eq_true _
  have hk := Hx.Hid.mk (And.intro hn (And.intro hr ha))
  obtain ⟨hp, g, d, tk, os⟩ := s
  clear hr ha e12 hr0 h hn
  rcases hB with e | e
  all_goals
    subst e
    repeat (any_goals (first
      | assumption
      | ((with_reducible show wpAny _ _ ((int_private% "intFromText") _ _ _) _ _ _); refine wp_textL hk.out.1 hk.out.2.1 hk.out.2.2 ?_)
      | wp_step))
    all_goals first | exact ⟨_, rfl, hQ⟩ | skip
theorem meets_based {B : Nat} {x : PySem.Str} {u t : Tok} {n : Int} (hB : B = 8 ∨ B = 16) (h : ∀ c ∈ x.cps.toList, Hx.IsHex c) (hr0 : ∀ k, (int_private% "readNumeral") k B x.cps.toList = (int_private% "Numeral.value") n) :
    Meets (Builtin.«int.__new__» ⟨[.type "int", .str x u, .int (B : Nat) t], []⟩) (fun _ R s => s.heap.NoDigits ∧ R (.ok (.ret (.int n s.toks))) { s with toks := s.toks + 1 }) := fun prog w A R s hS =>
  wpAny_mono (core_based (Q := fun v s' => R (.ok (.ret v)) s') hB h hr0 hS.1 hS.2) (fun fin s' h' => by obtain ⟨v, rfl, hv⟩ := h'; exact hv) fun _ _ x => x
def rIntOctL : List V → Hp → VK → Prop := fun xs H Q => ∃ l : List Nat, xs = [.str (SX.S l), .int 8] ∧ l ≠ [] ∧ (∀ c ∈ l, Oct c) ∧ Q (.int ((octNum l : Nat) : Int)) H
def rIntHexL : List V → Hp → VK → Prop := fun xs H Q => ∃ l : List Nat, xs = [.str (SX.S l), .int 16] ∧ l ≠ [] ∧ (∀ c ∈ l, Hx.IsHex c) ∧ Q (.int ((Hx.hexNum l : Nat) : Int)) H
theorem call_int_octL {X : Cx} (e : DgK X.K) : CallR X (.type "int") rIntOctL := by
  intro pins s σ H xs us Q I r h
  obtain ⟨l, rfl, hne, hx, q⟩ := h
  obtain ⟨u, w', rfl, r1, r2⟩ := vals2 r
  obtain ⟨t1, rfl⟩ := r1
  obtain ⟨t2, rfl⟩ := r2
  exact callType_new F.called_int F.newNe_int (Hx.typeCall_int_2 _ _) (Hx.newCall_int_2 _ _) (fun obj => F.initArgs_range_2 obj _ _) F.entry_int_new
    (meets_based (B := 8) (x := SX.S l) (n := ((octNum l : Nat) : Int)) (.inl rfl) (fun c hc => (hx c hc).hex) (fun k => read_octL k hx hne)) ⟨nodig I e, rfl, ⟨.int ((octNum l : Nat) : Int), H, I.tok _, ⟨_, rfl⟩, q⟩⟩
theorem call_int_hexL {X : Cx} (e : DgK X.K) : CallR X (.type "int") rIntHexL := by
  intro pins s σ H xs us Q I r h
  obtain ⟨l, rfl, hne, hx, q⟩ := h
  obtain ⟨u, w', rfl, r1, r2⟩ := vals2 r
  obtain ⟨t1, rfl⟩ := r1
  obtain ⟨t2, rfl⟩ := r2
  exact callType_new F.called_int F.newNe_int (Hx.typeCall_int_2 _ _) (Hx.newCall_int_2 _ _) (fun obj => F.initArgs_range_2 obj _ _) F.entry_int_new
    (meets_based (B := 16) (x := SX.S l) (n := ((Hx.hexNum l : Nat) : Int)) (.inr rfl) hx (fun k => read_hexL k hx hne)) ⟨nodig I e, rfl, ⟨.int ((Hx.hexNum l : Nat) : Int), H, I.tok _, ⟨_, rfl⟩, q⟩⟩
section
variable {K : PySem.W.Frag} {l : List Nat}
theorem rc_intOctL (hne : l ≠ []) (h : ∀ c ∈ l, Oct c) : RC K rIntOctL [.str l, .int 8] (.int ((octNum l : Nat) : Int)) := fun F B as M H vs Q ow r q => by
  obtain ⟨v, r1, e1, h1, w, r2, e2, h2, e3⟩ := r
  have h1 : v = V.str (tx l) := h1
  have h2 : w = V.int 8 := h2
  have e3 : r2 = [] := e3
  subst e3; subst e2; subst e1; subst h1; subst h2
  exact ⟨l, rfl, hne, h, q _ B H (Gr.refl F B) ow rfl⟩
theorem rc_intHexL (hne : l ≠ []) (h : ∀ c ∈ l, Hx.IsHex c) : RC K rIntHexL [.str l, .int 16] (.int ((Hx.hexNum l : Nat) : Int)) := fun F B as M H vs Q ow r q => by
  obtain ⟨v, r1, e1, h1, w, r2, e2, h2, e3⟩ := r
  have h1 : v = V.str (tx l) := h1
  have h2 : w = V.int 16 := h2
  have e3 : r2 = [] := e3
  subst e3; subst e2; subst e1; subst h1; subst h2
  exact ⟨l, rfl, hne, h, q _ B H (Gr.refl F B) ow rfl⟩
end
end DJ
namespace DJ
open PySem PySem.Spec PyProof.Rows L2
section
variable {K : PySem.W.Frag} {ta tb : TE} {G : List (Option Sl)} {M M1 M2 : List MO}
/-! ### an owned list == data; an owned list joined on, owned again -/
theorem ev_eqO {k : Nat} {xs : List Dt} {e : Dt} (ha : EvE K ta G M (.o k) M1) (hb : EvE K tb G M1 (.d e) M2) (hm : M2[k]? = some (.lst xs)) (h1 : plD (.lst xs) = true) (h2 : plD e = true) (n1 : dpD (.lst xs) ≤ 64) (n2 : dpD e ≤ 64) :
    EvE K (tOp (rEqD K) ta tb) G M (.d (.bl (eqD (.lst xs) e))) M2 := fun F B as σ H ow sl Q q => ha F B as σ H ow sl _ fun v B1 as1 H1 g1 p1 o1 r1 => by
  obtain ⟨a, ha, rfl⟩ := r1
  refine hb F B1 as1 σ H1 o1 (sl.mono g1.1 p1) _ fun u B2 as2 H2 g2 p2 o2 r2 => ?_
  obtain ⟨_, _, vs, hv, hr⟩ := o2.own k a _ (p2.get ha) hm (fun z => nomatch z)
  exact ⟨_, _, dp_of (.lst xs) (.ref a) h1 ⟨a, vs, rfl, .inl (.inl hv), RpL.mono o2.bb _ _ hr⟩, dp_of e u h2 (Rp.mono o2.bb _ _ r2), shp_of h1 n1, shp_of h2 n2, q _ B2 as2 H2 (g1.trans g2) (p1.trans p2) o2 rfl⟩
theorem ev_catO {xs ys : List Dt} (ha : EvE K ta G M (.d (lstX K xs)) M1) (hb : EvE K tb G M1 (.d (lstX K ys)) M2) (h : xs.length + ys.length ≤ 100000) :
    EvE K (tOp rCat ta tb) G M (.o M2.length) (M2 ++ [.lst (xs ++ ys)]) := fun F B as σ H ow sl Q q => ha F B as σ H ow sl _ fun v B1 as1 H1 g1 p1 o1 r1 => by
  refine hb F B1 as1 σ H1 o1 (sl.mono g1.1 p1) _ fun u B2 as2 H2 g2 p2 o2 r2 => ?_
  obtain ⟨a, vs, rfl, hv, hr⟩ := r1 B2 g2.1
  obtain ⟨b, us, rfl, hu, hs⟩ := r2 B2 (Same.refl _)
  refine ⟨a, b, vs, us, rfl, rfl, o2.bb _ _ hv, o2.bb _ _ hu, by rw [hr.len, hs.len]; exact Nat.le_trans h (by decide), fun p hp => ?_⟩
  refine q _ B2 (as2 ++ [p]) _ (g1.trans g2) ((p1.trans p2).trans ⟨[p], rfl⟩) (o2.newO hp ⟨vs ++ us, upd_same, RpL.append hr hs⟩) ⟨p, ?_, rfl⟩
  rw [← o2.len, List.getElem?_append_right (Nat.le_refl _), Nat.sub_self]
  rfl
end
end DJ
namespace DJ
open PySem PySem.Spec PyProof.Rows L2
section
variable {K : PySem.W.Frag} {i j : Int}
/-! ### // by long numbers; int of 1 and noughts -/
theorem ro_fdivW (h : CDivW i j) : RO K (rI CDivW fun i j => .int (i / j)) (.int i) (.int j) (.int (i / j)) := ro_I h fun _ _ => rfl
theorem log_short {n : Int} (h0 : 0 < n) (h : n < 1073741824) : n.natAbs.log2 < 9000 := by
  have h1 : n.natAbs < 2 ^ 30 := by omega
  have h2 : n.natAbs.log2 < 30 := (Nat.log2_lt (by omega)).mpr h1
  omega
theorem ten_val (k : Nat) : NumText.digitsVal (49 :: List.replicate k 48) = 10 ^ k := by
  show (49 :: List.replicate k 48).foldl (fun acc c => acc * 10 + (c - 48)) 0 = 10 ^ k
  have key : ∀ (k a : Nat), (List.replicate k 48).foldl (fun acc c => acc * 10 + (c - 48)) a = a * 10 ^ k := by
    intro k
    induction k with
    | zero => intro a; simp
    | succ k ih =>
      intro a
      rw [List.replicate_succ, List.foldl_cons, ih, Nat.pow_succ]
      show (a * 10 + 0) * 10 ^ k = _
      rw [Nat.add_zero, Nat.mul_assoc, Nat.mul_comm 10]
  rw [List.foldl_cons, key]
  show (0 * 10 + 1) * 10 ^ k = _
  omega
theorem rc_ten {k : Nat} (h : k ≤ 639) : RC K (fun xs H Q => ∃ a n, xs = [.str a] ∧ PySem.intText? a = some n ∧ a.length ≤ 640 ∧ Q (.int n) H) [.str (49 :: List.replicate k 48)] (.int ((10 ^ k : Nat) : Int)) := by
  have := rc_intS (K := K) (l := 49 :: List.replicate k 48) (by
    rw [List.all_cons, List.all_replicate]
    cases k <;> simp) (List.cons_ne_nil _ _) (by rw [List.length_cons, List.length_replicate]; omega)
  rw [ten_val] at this
  exact this
end
end DJ
namespace DJ
open PySem PySem.Spec PyProof.Rows L2
/-! ### exceptions: what is raised, and where it leaves -/
structure Ex where
  cls : Value
  fx : Option (Str × Dt)
def XR (K : PySem.W.Frag) (B : Hp) (x : Ex) (cls : Value) (d : Option Addr) : Prop :=
  cls = x.cls ∧ match x.fx with
    | none => d = none
    | some (f, y) => ∃ dd v, d = some dd ∧ B dd = some (.xd [(f, v)]) ∧ Rp K B y v
def EvR (K : PySem.W.Frag) (t : TS) (W : WX) (G : List (Option Sl)) (M : List MO) (x : Ex) (G' : List (Option Sl)) (M' : List MO) : Prop :=
  ∀ F B as σ H, Ow K F B as M H → Slt K B as G σ → (∀ B' as' σ' H' cls d, Gr F B B' → Px as as' → Ow K F B' as' M' H' → Slt K B' as' G' σ' → XR K B' x cls d → W cls d σ' H') → ∀ D : Ends, t D σ H
def EvX (K : PySem.W.Frag) (te : TE) (W : WX) (G : List (Option Sl)) (M : List MO) (x : Ex) (M' : List MO) : Prop :=
  ∀ F B as σ H, Ow K F B as M H → Slt K B as G σ → (∀ B' as' H' cls d, Gr F B B' → Px as as' → Ow K F B' as' M' H' → XR K B' x cls d → W cls d σ H') → ∀ Q : VK, te σ H Q
section
variable {K : PySem.W.Frag} {G G1 G2 G3 : List (Option Sl)} {M M1 M2 M3 : List MO} {t u : TS} {te : TE} {tt : TT} {W : WX} {x : Ex} {b : Bool} {s : Sl} {o : Out}
theorem er_pre (l : Lg G G1) (h : EvR K t W G1 M x G2 M2) : EvR K t W G M x G2 M2 := fun F B as σ H ow sl q D => h F B as σ H ow (sl.weak l) q D
theorem er_weak (h : EvR K t W G M x G1 M1) (l : Lg G1 G2) : EvR K t W G M x G2 M1 := fun F B as σ H ow sl q D => h F B as σ H ow sl (fun B' as' σ' H' cls d g p o' s' r => q B' as' σ' H' cls d g p o' (s'.weak l) r) D
theorem er_seq1 (h : EvR K t W G M x G1 M1) : EvR K (tSeq t u) W G M x G1 M1 := fun F B as σ H ow sl q D => h F B as σ H ow sl q _
theorem er_seq2 (h : EvS K t G M (.nx G1 M1)) (h2 : EvR K u W G1 M1 x G2 M2) : EvR K (tSeq t u) W G M x G2 M2 := fun F B as σ H ow sl q D =>
  h F B as σ H ow sl { D with nx := u D } fun B1 as1 σ1 H1 g p o1 s1 => h2 F B1 as1 σ1 H1 o1 s1 (fun B' as' σ' H' cls d g' p' => q B' as' σ' H' cls d (g.trans g') (p.trans p')) D
theorem er_if (h : EvT K tt G M b M1) (h1 : b = true → EvR K t W G M1 x G2 M2) (h2 : b = false → EvR K u W G M1 x G2 M2) : EvR K (tIfS tt t u) W G M x G2 M2 := fun F B as σ H ow sl q D =>
  h F B as σ H ow sl _ fun B1 as1 H1 g p o1 => by
    cases b with
    | true => exact h1 rfl F B1 as1 σ H1 o1 (sl.mono g.1 p) (fun B' as' σ' H' cls d g' p' => q B' as' σ' H' cls d (g.trans g') (p.trans p')) D
    | false => exact h2 rfl F B1 as1 σ H1 o1 (sl.mono g.1 p) (fun B' as' σ' H' cls d g' p' => q B' as' σ' H' cls d (g.trans g') (p.trans p')) D
/-- a passed test, then what raises -/
theorem er_pass (h : EvT K tt G M false M1) (h2 : EvR K u W G M1 x G2 M2) : EvR K (tSeq (tIfS tt t tNext) u) W G M x G2 M2 := fun F B as σ H ow sl q D =>
  h F B as σ H ow sl _ fun B1 as1 H1 g p o1 => h2 F B1 as1 σ H1 o1 (sl.mono g.1 p) (fun B' as' σ' H' cls d g' p' => q B' as' σ' H' cls d (g.trans g') (p.trans p')) D
theorem er_ret (h : EvX K te W G M x M1) : EvR K (tRet te) W G M x G M1 := fun F B as σ H ow sl q D => h F B as σ H ow sl (fun B' as' H' cls d g p o' r => q B' as' σ H' cls d g p o' (sl.mono g.1 p) r) _
theorem er_asg {g : TG} (h : EvX K te W G M x M1) : EvR K (tAsg te g) W G M x G M1 := fun F B as σ H ow sl q D => h F B as σ H ow sl (fun B' as' H' cls d g p o' r => q B' as' σ H' cls d g p o' (sl.mono g.1 p) r) _
theorem er_drop (h : EvX K te W G M x M1) : EvR K (tDrop te) W G M x G M1 := fun F B as σ H ow sl q D => h F B as σ H ow sl (fun B' as' H' cls d g p o' r => q B' as' σ H' cls d g p o' (sl.mono g.1 p) r) _
theorem er_nG {G' : List (Option Sl)} (e : G = G') (h : EvR K t W G' M x G2 M2) : EvR K t W G M x G2 M2 := e ▸ h
/-- a for in which turn i raises -/
theorem er_for {β : Type} {wi : TI} {g : TG} {tb : TS} (xs : List β) (en : β → Dt) (Gn : Nat → List (Option Sl)) (Mn : Nat → List MO) (n : Nat) (y : β) (hn : xs[n]? = some y) (hI : EvI K wi G M (xs.map en) (Mn 0)) (h0 : Lg G (Gn 0))
    (turn : ∀ (i : Nat) (z : β), i < n → xs[i]? = some z → ∃ G1, EvG K g (Gn i) (.d (en z)) G1 ∧ (EvS K tb G1 (Mn i) (.nx (Gn (i + 1)) (Mn (i + 1))) ∨ EvS K tb G1 (Mn i) (.ct (Gn (i + 1)) (Mn (i + 1)))))
    (last : ∃ G1, EvG K g (Gn n) (.d (en y)) G1 ∧ EvR K tb W G1 (Mn n) x G2 M2) : EvR K (tFor wi g tb) W G M x G2 M2 := fun F B as σ H ow sl q D => by
  refine hI F B as σ H ow sl _ fun J B1 as1 H1 g1 p1 o1 yl => ?_
  have hnl : n < xs.length := (List.getElem?_eq_some_iff.mp hn).1
  refine ⟨fun i m σ' H' => ∃ B' as', m = xs.length - i ∧ i ≤ n ∧ Gr F B1 B' ∧ Px as1 as' ∧ Ow K F B' as' (Mn i) H' ∧ Slt K B' as' (Gn i) σ', ⟨xs.length, B1, as1, by simp, Nat.zero_le _, Gr.refl F B1, Px.refl as1, o1, (sl.mono g1.1 p1).weak h0⟩, fun i m σ' H' w => ?_⟩
  obtain ⟨B', as', rfl, hi, g', p', o', s'⟩ := w
  obtain ⟨y1, y2⟩ := yl F B' as' (Mn i) H' i g'.1 o'
  have hlt : i < xs.length := Nat.lt_of_le_of_lt hi hnl
  have hx : xs[i]? = some xs[i] := List.getElem?_eq_getElem hlt
  obtain ⟨go, yld⟩ := y1 (en xs[i]) (by rw [List.getElem?_map, hx] <;> rfl)
  refine .inr ⟨go, fun σ2 H2 => ∃ B' as', i + 1 ≤ n ∧ Gr F B1 B' ∧ Px as1 as' ∧ Ow K F B' as' (Mn (i + 1)) H2 ∧ Slt K B' as' (Gn (i + 1)) σ2, fun σ2 H2 n2 => ?_, fun v H2 yv => ?_⟩
  · obtain ⟨B2, as2, q1, q3, q4, q5, q6⟩ := n2
    exact ⟨xs.length - (i + 1), by omega, B2, as2, rfl, q1, q3, q4, q5, q6⟩
  · obtain ⟨B2, g2, o2, r2⟩ := yld v H2 yv
    rcases Nat.lt_or_eq_of_le hi with hlt2 | he
    · obtain ⟨G1, hg, ht⟩ := turn i xs[i] hlt2 hx
      refine hg F B2 as' (Mn i) σ' H2 v o2 (s'.mono g2.1 (Px.refl as')) r2 _ fun B3 as3 σ3 H3 g3 p3 o3 s3 => ?_
      have gg : Gr F B1 B3 := g'.trans (g2.trans g3)
      have pp : Px as1 as3 := p'.trans p3
      rcases ht with ht | ht
      · exact ht F B3 as3 σ3 H3 o3 s3 _ fun B4 as4 σ4 H4 g4 p4 o4 s4 => ⟨B4, as4, hlt2, gg.trans g4, pp.trans p4, o4, s4⟩
      · exact ht F B3 as3 σ3 H3 o3 s3 _ fun B4 as4 σ4 H4 g4 p4 o4 s4 => ⟨B4, as4, hlt2, gg.trans g4, pp.trans p4, o4, s4⟩
    · subst he
      obtain ⟨G1, hg, ht⟩ := last
      rw [hx] at hn
      cases hn
      refine hg F B2 as' (Mn i) σ' H2 v o2 (s'.mono g2.1 (Px.refl as')) r2 _ fun B3 as3 σ3 H3 g3 p3 o3 s3 => ?_
      exact ht F B3 as3 σ3 H3 o3 s3 (fun B' as' σ' H' cls d g4 p4 => q B' as' σ' H' cls d (g1.trans (g'.trans (g2.trans (g3.trans g4)))) (p1.trans (p'.trans (p3.trans p4)))) _
/-! ### raise -/
def tRaise0 (W : WX) (C : Addr) : TS := fun _ σ H => W (.ref C) none σ H
theorem er_raise0 {C : Addr} : EvR K (tRaise0 W C) W G M ⟨.ref C, none⟩ G M := fun F B as σ H ow sl q D => q B as σ H _ _ (Gr.refl F B) (Px.refl as) ow sl ⟨rfl, rfl⟩
/-! ### try, the clause without a name, and with one -/
variable {tb : WX → TS} {ts : Addr → Value → Option Addr → TS} {Wout : WX} {c : Value}
theorem es_tryO (h : ∀ W, EvS K (tb W) G M o) : EvS K (fun D σ H => tb (wOnly K c ts Wout D) D σ H) G M o := fun F B as σ H ow sl D gd => h _ F B as σ H ow sl D gd
theorem es_tryOX (h : ∀ W, EvR K (tb W) W G M x G1 M1) (e : PySem.W.exmOne K x.cls c = some true) (h2 : ∀ a d, EvS K (ts a x.cls d) G1 M1 o) : EvS K (fun D σ H => tb (wOnly K c ts Wout D) D σ H) G M o := fun F B as σ H ow sl D gd =>
  h _ F B as σ H ow sl (fun B' as' σ' H' cls d g p o' s' r => by
    obtain ⟨rfl, _⟩ := r
    exact ⟨true, e, fun _ a _ => h2 a d F B' as' σ' H' o' s' D (gd.later g p), fun z => nomatch z⟩) D
theorem es_tryA {i : Nat} (h : ∀ W, EvS K (tb W) G M o) : EvS K (fun D σ H => tb (wAs K c i ts Wout D) D σ H) G M o := fun F B as σ H ow sl D gd => h _ F B as σ H ow sl D gd
/-- what an except suite knows of its error -/
def XfR (K : PySem.W.Frag) (a : Addr) (d : Option Addr) (f : Str) (y : Dt) : Dt := .ext fun H v => v = .ref a ∧ ∃ dd u, d = some dd ∧ H dd = some (.xd [(f, u)]) ∧ Rp K H y u
theorem es_tryAX {i : Nat} {C : Value} {f : Str} {y : Dt} {r : Sl} (h : ∀ W, EvR K (tb W) W G M ⟨C, some (f, y)⟩ G1 M1) (e : PySem.W.exmOne K C c = some true)
    (h2 : ∀ a d, EvS K (ts a C d) (G1.set i (some (.d (XfR K a d f y)))) M1 (.rt r M2)) : EvS K (fun D σ H => tb (wAs K c i ts Wout D) D σ H) G M (.rt r M2) := fun F B as σ H ow sl D gd =>
  h _ F B as σ H ow sl (fun B' as' σ' H' cls d g p o' s' r => by
    obtain ⟨rfl, dd, v, ed, eb, rv⟩ := r
    refine ⟨true, e, fun _ a na => ?_, fun z => nomatch z⟩
    refine h2 a d F B' as' _ H' o' (s'.set i (s := .d (XfR K a d f y)) (v := .ref a) ?_) _ fun v' B2 as2 H2 g2 p2 => gd v' B2 as2 H2 (g.trans g2) (p.trans p2)
    exact fun H2 sm => ⟨rfl, dd, v, ed, sm _ _ eb, Rp.mono sm _ _ rv⟩) D
/-- err.f -/
theorem ev_xf {C a : Addr} {d : Option Addr} {f : Str} {y : Dt} (h : EvE K te G M (.d (XfR K a d f y)) M1) : EvE K (tXf a (.ref C) d C f te) G M (.d y) M1 := fun F B as σ H ow sl Q q =>
  h F B as σ H ow sl _ fun v B1 as1 H1 g p o1 r => by
    obtain ⟨rfl, dd, u, ed, eb, _⟩ := r H1 o1.bb
    obtain ⟨_, dd', u', ed', eb', rv⟩ := r B1 (Same.refl B1)
    rw [ed] at ed'
    cases ed'
    have : u' = u := by
      have z := (o1.bb _ _ eb').symm.trans eb
      cases z
      rfl
    subst this
    exact ⟨rfl, rfl, dd, _, u', ed, eb, by simp [List.lookup], q _ B1 as1 H1 g p o1 rv⟩
end
/-! ### defs that may raise -/
def SpX (K : PySem.W.Frag) (n : Nat) (R : List Sl → List MO → Sl → List MO → Prop) (RX : List Sl → List MO → Ex → List MO → Prop) : Sp := fun vs H Q E =>
  ∃ F B as ss M, Ow K F B as M H ∧ SlL K B as ss vs ∧ vs.length = n ∧ ((∃ r M', R ss M r M' ∧ ∀ v B' as' H', Gr F B B' → Px as as' → Ow K F B' as' M' H' → SlR K B' as' r v → Q v H') ∨
    (∃ x M', RX ss M x M' ∧ ∀ cls d B' as' H', Gr F B B' → Px as as' → Ow K F B' as' M' H' → XR K B' x cls d → E cls d H'))
structure CalX (P : Program) (w : World) (K : PySem.W.Frag) (mg : Str → Option Value) (base : Heap) (k : Nat) (x : Str) (sp : Sp) (dvs : List V) : Prop where
  ex : ∃ (f : Addr) (fd : FuncData) (ps : List Str) (ds : List Value), FnOk P w K mg base (L2.CX P w) k f fd ps sp ∧ mg x = some (.ref f) ∧ PySem.W.keepIn K (.ref f) = true ∧ Binds K fd ps ds ∧ Vals dvs ds
section
variable {K : PySem.W.Frag} {F B B1 H : Hp} {as as1 : List Addr} {G G1 G2 G' : List (Option Sl)} {M M1 M2 M' X : List MO} {te : TE} {ta tk : TA} {s r : Sl} {t : TS} {E : XK} {W : WX} {x : Ex}
theorem run_bodyX {N : List Str} {ss : List Sl} {vs : List V} {D : Ends} (h : EvR K t (fun cls d _ H => E cls d H) (start N.length ss) M x G' (M' ++ X)) (hm : M.length ≤ M'.length) (ow : Ow K F B as M H) (sl : SlL K B as ss vs)
    (q : ∀ cls d B' as' H', Gr F B B' → Px as as' → Ow K F B' as' M' H' → XR K B' x cls d → E cls d H') : t D (L2.start N vs) H := by
  have sl' : Slt K B as (start N.length ss) (L2.start N vs) := by
    have e := sl.len
    unfold start L2.start
    rw [e]
    exact slt_args sl
  refine h F B as _ H ow sl' (fun B' as' σ' H' cls d g p o' s' r' => q cls d B' (as'.take M'.length) H' g ?_ o'.drop r') D
  obtain ⟨tl, rfl⟩ := p
  refine ⟨tl.take (M'.length - as.length), ?_⟩
  rw [List.take_append, List.take_of_length_le (by rw [ow.len]; exact hm)]
theorem call_coreX {n : Nat} {R : List Sl → List MO → Sl → List MO → Prop} {RX : List Sl → List MO → Ex → List MO → Prop} {ds : List Dt} {vs : List V} {Q : VK} (hn : ds.length = n) (o : Ow K F B as M H) (r : RpL K B ds vs)
    (h : (∃ z N, R (ds.map Sl.d) [] z N ∧ ∀ v B' as' H', Gr H B B' → Ow K H B' as' N H' → SlR K B' as' z v → Q v H') ∨ (∃ x N, RX (ds.map Sl.d) [] x N ∧ ∀ cls d B' as' H', Gr H B B' → Ow K H B' as' N H' → XR K B' x cls d → E cls d H')) : SpX K n R RX vs H Q E := by
  refine ⟨H, B, [], ds.map Sl.d, [], ⟨Same.refl H, o.bb, rfl, List.nodup_nil, fun _ h => (nomatch h), fun _ h => (nomatch h), fun k a m e => by simp at e⟩, SlL.of_data r, by rw [r.len]; exact hn, ?_⟩
  rcases h with ⟨z, N, hR, q⟩ | ⟨x, N, hR, q⟩
  · exact .inl ⟨z, N, hR, fun v B' as' H' g _ o' r' => q v B' as' H' g o' r'⟩
  · exact .inr ⟨x, N, hR, fun cls d B' as' H' g _ o' r' => q cls d B' as' H' g o' r'⟩
theorem ev_callX {n : Nat} {R : List Sl → List MO → Sl → List MO → Prop} {RX : List Sl → List MO → Ex → List MO → Prop} {ds : List Dt} {z : Dt} {dvs : List V} {es : List Dt} {E : L2.St → XK} (h : EvA K ta G M (ds.map Sl.d) M1) (hR : R ((ds ++ es).map Sl.d) [] (.d z) []) (hn : (ds ++ es).length = n) (hd : ∀ B, RpL K B es dvs) :
    EvE K (tCallSD (SpX K n R RX) dvs E ta) G M (.d z) M1 := fun F B as σ H ow sl Q q =>
  h F B as σ H ow sl _ fun vs B1 as1 H1 g1 p1 o1 r1 => call_coreX hn o1 (RpL.append (SlL.data r1) (hd B1)) (.inl ⟨_, _, hR, fun v B' as' H' g o' r' => by
    obtain ⟨g2, o2⟩ := back0 o1 g o'
    exact q v B' as1 H' (g1.trans g2) p1 o2 r'⟩)
theorem ex_callX {n : Nat} {R : List Sl → List MO → Sl → List MO → Prop} {RX : List Sl → List MO → Ex → List MO → Prop} {ds : List Dt} {dvs : List V} {es : List Dt} (h : EvA K ta G M (ds.map Sl.d) M1) (hR : RX ((ds ++ es).map Sl.d) [] x []) (hn : (ds ++ es).length = n) (hd : ∀ B, RpL K B es dvs) :
    EvX K (tCallSD (SpX K n R RX) dvs (WE W) ta) W G M x M1 := fun F B as σ H ow sl q Q =>
  h F B as σ H ow sl _ fun vs B1 as1 H1 g1 p1 o1 r1 => call_coreX hn o1 (RpL.append (SlL.data r1) (hd B1)) (.inr ⟨_, _, hR, fun cls d B' as' H' g o' r' => by
    obtain ⟨g2, o2⟩ := back0 o1 g o'
    exact q B' as1 H' cls d (g1.trans g2) p1 o2 r'⟩)
end
section
variable {P : Program} {w : World} {K : PySem.W.Frag} {mg : Str → Option Value} {base : Heap}
/-- the context of a def's body, which may raise -/
abbrev cxX (P : Program) (w : World) (K : PySem.W.Frag) (mg : Str → Option Value) (base : Heap) (N : List Str) (x : Str) (st : Stmt) (f : Addr) (cdv : Value) (A : Around) (outer : List Env) (s : Shared) (H : Hp) (E : XK) : Cx := cxOf (L2.CX P w) P w K mg base N x (defScope st) f cdv A outer s H E
theorem cal_mkX {x : Str} {st : Stmt} {N ps : List Str} {k n : Nat} {R : List Sl → List MO → Sl → List MO → Prop} {RX : List Sl → List MO → Ex → List MO → Prop} (D : Df K mg x st ps) (S : FnScope N ps (defScope st)) (hn : ps.length = n)
    (hb : ∀ (f : Addr) (cdv : Value) (A : Around) (outer : List Env) (s : Shared) (H : Hp) (E : XK), Room k (A.deeper (envOfC x (defScope st) s.heap.objs.size f cdv)) → Takes (cxX P w K mg base N x st f cdv A outer s H E) (fun cls d _ H => E cls d H) → PassesOwn (model P w) (cxX P w K mg base N x st f cdv A outer s H E).A (cxX P w K mg base N x st f cdv A outer s H E).env (cxX P w K mg base N x st f cdv A outer s H E).xe →
      (∀ ss M r M', R ss M r M' → ∃ t X, PSs (cxX P w K mg base N x st f cdv A outer s H E) (defBody st) t ∧ ((EvS K t (start N.length ss) M (.rt r (M' ++ X)) ∧ ∀ j, r = .o j → j < M'.length) ∨ (∃ G1, EvS K t (start N.length ss) M (.nx G1 (M' ++ X)) ∧ r = .d .non)) ∧ M.length ≤ M'.length) ∧
      (∀ ss M x' M', RX ss M x' M' → ∃ t X G', PSs (cxX P w K mg base N x st f cdv A outer s H E) (defBody st) t ∧ EvR K t (fun cls d _ H => E cls d H) (start N.length ss) M x' G' (M' ++ X) ∧ M.length ≤ M'.length)) :
    CalX P w K mg base (k + 1) x (SpX K n R RX) [] := by
  obtain ⟨f, fd, F, hm, b⟩ := D.ex
  refine ⟨f, fd, ps, [], F.okX S (fun vs H Q E h => ?_) (fun cdv A outer s H vs Q E hr h => ?_), hm, F.kp, b, .nil⟩
  · obtain ⟨_, _, _, _, _, _, _, e, _⟩ := h
    rw [e, hn]
  · obtain ⟨F', B, as, ss, M, ow, sl, _, q⟩ := h
    obtain ⟨h1, h2⟩ := hb f cdv A outer s H E hr (takes_of rfl rfl rfl rfl) (passes_of rfl)
    rcases q with ⟨r, M', hR, q⟩ | ⟨x', M', hR, q⟩
    · obtain ⟨t, X, ht, he, hl⟩ := h1 ss M r M' hR
      rcases he with ⟨he, hr'⟩ | ⟨G1, he, hr'⟩
      · exact ⟨t, ht, run_body (X := X) he hl hr' ow sl q⟩
      · subst hr'
        exact ⟨t, ht, run_bodyN (X := X) he hl ow sl q⟩
    · obtain ⟨t, X, G', ht, he, hl⟩ := h2 ss M x' M' hR
      exact ⟨t, ht, run_bodyX (X := X) he hl ow sl q⟩
/-- .. with defaults -/
theorem cal_mkDX {x : Str} {st : Stmt} {N ps : List Str} {dvs : List V} {k n : Nat} {R : List Sl → List MO → Sl → List MO → Prop} {RX : List Sl → List MO → Ex → List MO → Prop} (D : DfD K mg x st dvs) (S : FnScope N ps (defScope st)) (hn : ps.length = n)
    (hb : ∀ (f : Addr) (cdv : Value) (A : Around) (outer : List Env) (s : Shared) (H : Hp) (E : XK), Room k (A.deeper (envOfC x (defScope st) s.heap.objs.size f cdv)) → Takes (cxX P w K mg base N x st f cdv A outer s H E) (fun cls d _ H => E cls d H) → PassesOwn (model P w) (cxX P w K mg base N x st f cdv A outer s H E).A (cxX P w K mg base N x st f cdv A outer s H E).env (cxX P w K mg base N x st f cdv A outer s H E).xe →
      (∀ ss M r M', R ss M r M' → ∃ t X, PSs (cxX P w K mg base N x st f cdv A outer s H E) (defBody st) t ∧ ((EvS K t (start N.length ss) M (.rt r (M' ++ X)) ∧ ∀ j, r = .o j → j < M'.length) ∨ (∃ G1, EvS K t (start N.length ss) M (.nx G1 (M' ++ X)) ∧ r = .d .non)) ∧ M.length ≤ M'.length) ∧
      (∀ ss M x' M', RX ss M x' M' → ∃ t X G', PSs (cxX P w K mg base N x st f cdv A outer s H E) (defBody st) t ∧ EvR K t (fun cls d _ H => E cls d H) (start N.length ss) M x' G' (M' ++ X) ∧ M.length ≤ M'.length))
    (j : Nat) (hj : n - (dvs.length - j) + (dvs.length - j) = n) (hd : dvs ≠ [])
    (hbind : ∀ (T : Addr) (kV doc pm : Value) (an : Option Addr) (cdv ct : Value) (us its : List Value), us.length = n - (dvs.length - j) → its.length = dvs.length →
      ∃ k, bindArgs (PySem.W.fnOf x x (defArgs st) (defBody st) (defScope st) (.ref T) kV doc pm an cdv ct) ⟨us, []⟩ = seqItems? (.ref T) >>= k ∧ k (some its.toArray) = pure (ps.zip (us ++ its.drop j))) :
    CalX P w K mg base (k + 1) x (SpX K n R RX) (dvs.drop j) := by
  obtain ⟨f, fd, F, hm⟩ := D.ex
  obtain ⟨ds, hv, hbb⟩ := F.binds1 (ps := ps) (n - (dvs.length - j)) j hd (by rw [hn]; exact hj) hbind
  refine ⟨f, fd, ps, ds, F.ok S (fun vs H Q E h => ?_) (fun cdv A outer s H vs Q E hr h => ?_), hm, F.kp, hbb, hv⟩
  · obtain ⟨_, _, _, _, _, _, _, e, _⟩ := h
    rw [e, hn]
  · obtain ⟨F', B, as, ss, M, ow, sl, _, q⟩ := h
    obtain ⟨h1, h2⟩ := hb f cdv A outer s H E hr (takes_of rfl rfl rfl rfl) (passes_of rfl)
    rcases q with ⟨r, M', hR, q⟩ | ⟨x', M', hR, q⟩
    · obtain ⟨t, X, ht, he, hl⟩ := h1 ss M r M' hR
      rcases he with ⟨he, hr'⟩ | ⟨G1, he, hr'⟩
      · exact ⟨t, ht, run_body (X := X) he hl hr' ow sl q⟩
      · subst hr'
        exact ⟨t, ht, run_bodyN (X := X) he hl ow sl q⟩
    · obtain ⟨t, X, G', ht, he, hl⟩ := h2 ss M x' M' hR
      exact ⟨t, ht, run_bodyX (X := X) he hl ow sl q⟩
end
section
variable {X : Cx} {k j : Nat} {x : Str} {sp : Sp} {dvs : List V} {p pos apos : Pos} {e o : Expr} {es : List Expr} {ta te to : TE} {t : TA} {W : WX}
theorem pe_cX (c : CalX X.prog X.w X.K X.mg X.base k x sp dvs) (tk : Takes X W) (hr : Room j X.A) (hk : k ≤ j) (hg : Gl X x) (ha : PA X (e :: es) t)
    (hdb : (x == ("__debug__" : Str)) = false := by decide) (he : starEach (e :: es) X.env = (false, eval e X.env) :: starEach es X.env := by rfl) (hpl : (backTo pos (starEach es X.env)).any (·.1) = false := by rfl) :
    PE X (.Call (.Name x p) (e :: es) [] pos) (tCallSD sp dvs (WE W) t) := by
  obtain ⟨f, fd, ps, ds, F, hm, kp, b, d⟩ := c.ex
  exact pe_callSD F (hr.mono hk) hg hm kp b d (fun σ => passAt tk σ) ha hdb he hpl
end
/-! ### an own class without __init__, made without arguments -/
def bmVE : List Value := [.type "ValueError", .type "Exception", .type "BaseException", .type "object"]
structure Xc (K : PySem.W.Frag) (mg : Str → Option Value) (x : Str) (C : Addr) : Prop where
  gC : mg x = some (.ref C)
  kC : PySem.W.keepIn K (.ref C) = true
  xC : PySem.W.excIn K C bmVE "ValueError.__new__" = true
  sC : PySem.W.subIn K (.ref C) (.type "BaseException") = some true
  tC : PySem.W.typeIn K (.ref C) = some (.type "type")
  te : PySem.W.exmOne K (.ref C) (.ref C) = some true
theorem ps_raise0 {X : Cx} {W : WX} {x : Str} {C : Addr} {p pos pos2 : Pos} (hc : X.calm = true) (tk : Takes X W) (T : Xc X.K X.mg x C) (hg : Gl X x) (hdb : (x == ("__debug__" : Str)) = false := by decide) :
    PS X (.Raise (some (.Call (.Name x p) [] [] pos)) none pos2) (tRaise0 W C) := by
  refine ps_raise hc tk (t := fun _ H Q => Q (.ref C) none H) ?_
  intro pins s σ H Q I h
  refine wpAny_Call_Name_kw (ld_glob I hg T.gC ?_ hdb)
  refine PySem.W.callWith_K0 I.kIn T.kC ?_
  show wpAny _ _ (call (.ref C) []) _ _ _
  obtain ⟨bm, N, nm, qn, bs, hdct, sn, sub, ab, col, dd, k0, k1, k2, k3, k5, mN, hC, hN, hni, TT⟩ := exc_obj I.kIn T.xC
  refine wpAny_call_exc_subT PySem.F.excBase_ValueError TT hC hN hni (fun h' e hm => ?_) (by rw [sizeLine_eq]; exact Nat.zero_le _)
  exact mk_of I hm (raises_own T.sC T.tC) h (I.hok.gone hm.new)
theorem exm_self {K : PySem.W.Frag} {S : Addr} (h1 : PySem.W.subIn K (.ref S) (.type "BaseException") = some true) (h2 : PySem.W.isClsIn K S = true) (h3 : PySem.W.typeIn K (.ref S) = some (.type "type")) (h4 : PySem.W.subIn K (.ref S) (.ref S) = some true) :
    PySem.W.exmOne K (.ref S) (.ref S) = some true := by
  have e1 : (PySem.W.subIn K (.ref S) (.type "BaseException") == some true) = true := by rw [h1] <;> rfl
  have e2 : ((PySem.W.clsIn K S).isSome && PySem.W.typeIn K (.ref S) == some (.type "type")) = true := by
    have h2' : (PySem.W.clsIn K S).isSome = true := h2
    rw [h2', h3] <;> rfl
  show (if (PySem.W.subIn K (.ref S) (.type "BaseException") == some true) = true then (if ((PySem.W.clsIn K S).isSome && PySem.W.typeIn K (.ref S) == some (.type "type")) = true then PySem.W.subIn K (.ref S) (.ref S) else none) else none) = some true
  rw [if_pos e1, if_pos e2]
  exact h4
end DJ
namespace DJ
open PySem PySem.Spec PyProof.Rows L2
/-! ### own errors that keep one thing -/
def spInit (K : PySem.W.Frag) (f : Str) : Sp := fun vs H Q _ => ∃ (a C : Addr) (y : V), vs = [.ref a, y] ∧ OexC K C ∧ PySem.W.findIn K (.ref C) f = some none ∧ H a = some (exo a C none) ∧ ∀ dx, H dx = none → dx ≠ a → Q .non (upd (upd H dx (exd dx [(f, y)])) a (exo a C (some dx)))
/-- the __init__ that stands in a class -/
def initS (s : Stmt) : Stmt := inClass s 0
structure Xi (P : Program) (w : World) (K : PySem.W.Frag) (mg : Str → Option Value) (base : Heap) (x f : Str) (C : Addr) : Prop where
  gC : mg x = some (.ref C)
  ox : OexC K C
  no : PySem.W.findIn K (.ref C) f = some none
  te : PySem.W.exmOne K (.ref C) (.ref C) = some true
  xf : XfC K C
  it : ∃ (fI : Addr) (fd : FuncData), PySem.W.findIn K (.ref C) "__init__" = some (some (.ref fI)) ∧ PySem.W.typeIn K (.ref fI) = some (.type "function") ∧ FnOk P w K mg base CX0 1 fI fd ["self", f] (spInit K f) ∧ Binds K fd ["self", f] []
section
variable {X : Cx} {C : Addr} {x f : Str} {j : Nat} {p pos pos2 : Pos} {e : Expr} {ta : TA} {W : WX}
theorem ps_raiseI (hc : X.calm = true) (tk : Takes X W) (T : Xi X.prog X.w X.K X.mg X.base x f C) (hr : Room j X.A) (hj : 2 ≤ j) (hg : Gl X x) (ha : PA X (e :: []) ta) (hdb : (x == ("__debug__" : Str)) = false := by decide)
    (he : starEach (e :: []) X.env = (false, eval e X.env) :: starEach [] X.env := by rfl) (hpl : (backTo pos (starEach [] X.env)).any (·.1) = false := by rfl) :
    PS X (.Raise (some (.Call (.Name x p) [e] [] pos)) none pos2) (fun _ σ H => tMkO C (spInit X.K f) [] ta σ H fun cls d H' => W cls d σ H') := by
  obtain ⟨fI, fd, h1, h2, h3, h4⟩ := T.it
  exact ps_raise hc tk (pmk_oex T.ox h1 h2 h3 (hr.mono hj) h4 .nil (fun _ _ _ _ _ _ _ z => z.elim) hg T.gC ha hdb he hpl)
end
section
variable {K : PySem.W.Frag} {G : List (Option Sl)} {M M1 : List MO} {W : WX} {ta : TA} {C : Addr} {f : Str} {y : Dt}
theorem er_raiseI (hx : OexC K C) (hn : PySem.W.findIn K (.ref C) f = some none) (h : EvA K ta G M [.d y] M1) : EvR K (fun _ σ H => tMkO C (spInit K f) [] ta σ H fun cls d H' => W cls d σ H') W G M ⟨.ref C, some (f, y)⟩ G M1 := fun F B as σ H ow sl q D => by
  refine h F B as σ H ow sl _ fun vs B1 as1 H1 g p o1 r => ?_
  obtain ⟨v, r1, e1, h1, e2⟩ := r
  have e2 : r1 = [] := e2
  subst e2; subst e1
  refine ⟨show 1 ≤ 1000 by decide, fun a na => ⟨a, C, v, rfl, hx, hn, upd_same, fun dx nd ne => ⟨rfl, dx, [(f, v)], upd_same, ?_, ?_, ?_⟩⟩⟩
  · rw [upd_ne ne, upd_same]
  · rw [upd_ne ne] at nd
    exact nd
  · rw [upd_ne ne] at nd
    have eh : upd (del (upd (upd (upd H1 a (exo a C none)) dx (exd dx [(f, v)])) a (exo a C (some dx))) a) dx (.xd [(f, v)]) = upd H1 dx (.xd [(f, v)]) := by
      funext b
      by_cases z : b = dx
      · rw [z, upd_same, upd_same]
      · rw [upd_ne z, upd_ne z]
        by_cases z2 : b = a
        · rw [z2, del_same, na]
        · rw [del_ne z2, upd_ne z2, upd_ne z, upd_ne z2]
    rw [eh]
    have g2 := o1.gr nd (.xd [(f, v)])
    exact q _ as1 σ _ _ _ (g.trans g2) p (o1.new nd _) ((sl.mono g.1 p).mono g2.1 (Px.refl as1)) ⟨rfl, dx, v, rfl, upd_same, Rp.mono g2.1 _ _ h1⟩
end
section
variable {P : Program} {w : World} {K : PySem.W.Frag} {mg : Str → Option Value} {base : Heap}
theorem init_ok {qn f : Str} {st : Stmt} {fI : Addr} {fd : FuncData} (F : FunD K "__init__" qn (defArgs st) (defBody st) (defScope st) [.non] [] fI fd) (S : FnScope ["self", f] ["self", f] (defScope st))
    (hps : ∀ (cdv : Value) (A : Around) (outer : List Env) (s : Shared) (H : Hp) (E : XK), PSs (cxOf CX0 P w K mg base ["self", f] qn (defScope st) fI cdv A outer s H E) (defBody st) (tOst K f (tVar 0) (tVar 1))) : FnOk P w K mg base CX0 1 fI fd ["self", f] (spInit K f) := by
  refine F.ok S (fun vs H Q E h => ?_) (fun cdv A outer s H vs Q E hr h => ⟨tOst K f (tVar 0) (tVar 1), hps cdv A outer s H E, ?_⟩)
  · obtain ⟨a, C, y, rfl, _⟩ := h
    rfl
  · obtain ⟨a, C, y, rfl, ho, hn, ha, q⟩ := h
    exact ⟨y, rfl, .ref a, rfl, a, C, rfl, ho, hn, .inl ⟨ha, fun dx nd ne => q dx nd ne⟩⟩
theorem xi_mk {h : Heap} {x f qn : Str} {st : Stmt} {C fI : Addr} {fd : FuncData} (X : K.In h) (G : h.Ns mainGlobals mg) (a : PySem.W.nsIn K mainGlobals x = some (some (.ref C)))
    {nm q : Str} {N : Addr} {bs bm : List Value} {sn : List Str} {sub : List Value} {ab : Bool} {col : Option Bool} {dd : Option Addr} {m0 m1 m2 m3 m5 : Option Value}
    (l : K.lookup C = some (excClassObj nm q C N bs bm true sn sub ab col dd m0 m1 m2 m3 m5 "ValueError.__new__")) (hv : PySem.HandSPX.refsVE bm = true)
    (sa : PySem.W.findIn K (.ref C) "__setattr__" = some (some (.builtin "object.__setattr__"))) (sC : PySem.W.subIn K (.ref C) (.type "BaseException") = some true) (tC : PySem.W.typeIn K (.ref C) = some (.type "type")) (kC : PySem.W.keepIn K (.ref C) = true)
    (no : PySem.W.findIn K (.ref C) f = some none) (iC : PySem.W.isClsIn K C = true) (ss : PySem.W.subIn K (.ref C) (.ref C) = some true)
    (ga : PySem.W.findIn K (.ref C) "__getattribute__" = some (some (.builtin "BaseException.__getattribute__"))) (gg : PySem.W.findIn K (.ref C) "__getattr__" = some none) (hd : PySem.W.hasDictIn K C = true)
    (i1 : PySem.W.findIn K (.ref C) "__init__" = some (some (.ref fI))) (i2 : PySem.W.typeIn K (.ref fI) = some (.type "function"))
    (F : FunD K "__init__" qn (defArgs st) (defBody st) (defScope st) [.non] [] fI fd) (S : FnScope ["self", f] ["self", f] (defScope st))
    (hps : ∀ (cdv : Value) (A : Around) (outer : List Env) (s : Shared) (H : Hp) (E : XK), PSs (cxOf CX0 P w K mg base ["self", f] qn (defScope st) fI cdv A outer s H E) (defBody st) (tOst K f (tVar 0) (tVar 1)))
    (hbind : ∀ (T : Addr) (kV doc pm : Value) (an : Option Addr) (cdv ct : Value) (us its : List Value), us.length = 2 → its.length = 1 →
      ∃ k, bindArgs (PySem.W.fnOf "__init__" qn (defArgs st) (defBody st) (defScope st) (.ref T) kV doc pm an cdv ct) ⟨us, []⟩ = seqItems? (.ref T) >>= k ∧ k (some its.toArray) = pure ((["self", f] : List Str).zip (us ++ its.drop 1))) :
    Xi P w K mg base x f C := by
  obtain ⟨ds, hv2, hbb⟩ := F.binds1 (ps := ["self", f]) 2 1 (List.cons_ne_nil _ _) rfl hbind
  have e : ds = [] := by cases hv2; rfl
  subst e
  exact ⟨PySem.W.mg_of X G a, ⟨⟨nm, q, N, bs, bm, sn, sub, ab, col, dd, m0, m1, m2, m3, m5, l, hv⟩, sa, sC, tC, kC⟩, no, exm_self sC iC tC ss, ⟨ga, gg, sC, hd⟩, fI, fd, i1, i2, init_ok F S hps, hbb⟩
end
end DJ
namespace LJ
open PySem PySem.Spec PyProof.Rows L2 LamX DJ
/-! ### a lambda is made: without parameters, or with one that has a whole number as default -/
def TbK (q : Str) (g : Addr → Option HO) (ps : Array Value) : Prop :=
  TriplesOk ps.toList ∧ ∀ (at_ : Pos) (u : Value), codeAmong at_ ps.toList = some u → ∃ c, u = .ref c ∧ g c = some (CodeO c q)
inductive LStep (q : Str) (P : Addr) (ps : Array Value) (at_ : Pos) (H : Hp) : Addr → Hp → Prop where
  | hit {c : Addr} (h : H c = some (CodeO c q)) (ha : codeAmong at_ ps.toList = some (.ref c)) : LStep q P ps at_ H c H
  | new {c : Addr} (h : H c = none) : LStep q P ps at_ H c (upd (upd H P (.tbl (ps ++ #[rawInt at_.line, rawInt at_.col, .ref c]))) c (CodeO c q))
theorem LStep.code {q : Str} {P : Addr} {ps : Array Value} {at_ : Pos} {H H1 : Hp} {c : Addr} (h : LStep q P ps at_ H c H1) : H1 c = some (CodeO c q) := by
  cases h with
  | hit h _ => exact h
  | new h => exact upd_same
theorem LStep.stay {q : Str} {P : Addr} {ps : Array Value} {at_ : Pos} {H H1 : Hp} {c b : Addr} (h : LStep q P ps at_ H c H1) (hb : H b = none) (hp : b ≠ P) (hc : b ≠ c) : H1 b = none := by
  cases h with
  | hit h _ => exact hb
  | new h => rw [upd_ne hc, upd_ne hp]; exact hb
/-- the function object -/
abbrev lamO (q : Str) (pr : Arguments) (bd : Expr) (sc : Scope) (cl : List (Str × Addr)) (dV dc pm : Value) (c : Addr) (ct : Value) : Obj := PySem.W.kdv_obj "<lambda>" q pr (.expr bd) sc cl dV dc pm c ct
/-- its default, if there is one -/
def DvAt (g : Addr → Option Obj) (H : Hp) (fr : List Addr) (dV : Value) : Option Int → Prop
  | none => dV = .none
  | some i => ∃ (T : Addr) (t : Tok), dV = .ref T ∧ g T = some (PySem.W.kdv_tup [.int i t]) ∧ H T = none ∧ T ∉ fr
section
variable {X : Cx} {pins : List (Addr × Obj)} {σ : L2.St} {H : Hp} {s : Shared} {c P : Addr} {pr : Arguments} {bd : Expr} {sc : Scope} {at_ : Pos} {ps : Array Value} {A : Around} {E Q : Value → Shared → Prop}
theorem nofr (I : Inv X pins σ H s) {f : Addr} (hf : s.heap.objs.size ≤ f) : f ∉ frs X.stack := fun z => by
  rcases List.mem_cons.mp (I.stkSub _ z) with e | e
  · have lt := I.lt
    rw [← e] at lt
    exact absurd (Nat.lt_of_lt_of_le lt hf) (Nat.lt_irrefl _)
  · exact I.nofs hf e
theorem lam_tail {dV : Value} (I : Inv X pins σ H s) (TB : TabB X.base X.mg c P) (hcode : X.env.code = .ref c) (hP : H P = some (.tbl ps)) (hk : TbK (X.env.qual ++ "<lambda>") H ps) (hfree : ∀ y ∈ sc.names, y.2 = .free → ∃ c, X.env.cells.lookup y.1 = some c)
    (h : ∀ (f c' : Addr) (dc pm ct : Value) (H1 : Hp) (s' : Shared), Inv X pins σ H1 s' → LStep (X.env.qual ++ "<lambda>") P ps at_ H c' H1 → s'.heap.get? f = some (lamO (X.env.qual ++ "<lambda>") pr bd sc (cloFrom X.env.cells sc.names []) dV dc pm c' ct) →
      s.heap.objs.size ≤ f → H1 f = none → (∀ b o, b ≠ P → s.heap.get? b = some o → s'.heap.get? b = some o ∧ b ≠ f) → (∀ b o, s.heap.get? b = some o → H b = none → H1 b = none) → Q (.ref f) s') :
    wpAny (model X.prog X.w) A (makeTail "<lambda>" (X.env.qual ++ "<lambda>") pr (.expr bd) sc X.env dV .none none at_ at_.line) Q E s := by
  obtain ⟨k1, k2⟩ := hk
  have atP : s.heap.get? P = some { cls := .none, data := .fields ps } := I.hok P _ hP
  have bmP : s.heap.BuiltinsAt X.mg P := TB.bm.keeps I.bk
  cases hc : codeAmong at_ ps.toList with
  | some u =>
    obtain ⟨c', rfl, hco⟩ := k2 at_ u hc
    refine PySem.W.kdv_makeTailHit (mg := X.mg) (c := c) (P := P) (ps := ps) (closure_ok hfree) I.ok.glob (I.mod.glob.keeps I.bk) hcode (TB.code.keeps I.bk) atP k1 hc bmP fun ct dc h' tk kp hsz => ?_
    have J : Inv X pins σ H { s with heap := h'.push (lamO (X.env.qual ++ "<lambda>") pr bd sc (cloFrom X.env.cells sc.names []) dV dc ((X.mg "__name__").getD .none) c' ct), toks := tk } := I.kept fun b o e => Heap.get?_push_of_some _ (kp b o e)
    exact h _ c' dc _ ct H _ J (.hit hco hc) (Heap.get?_push_size _ rfl) hsz (I.hok.fresh hsz) (fun b o _ e => ⟨Heap.get?_push_of_some _ (kp b o e), Nat.ne_of_lt (Nat.lt_of_lt_of_le (Heap.lt_size e) hsz)⟩) fun _ _ _ n => n
  | none =>
    refine PySem.W.kdv_makeTail (mg := X.mg) (c := c) (P := P) (ps := ps) (closure_ok hfree) I.ok.glob (I.mod.glob.keeps I.bk) hcode (TB.code.keeps I.bk) atP k1 hc TB.gP bmP fun c' ct dc h' tk xb ge lt rec tb => ?_
    obtain ⟨c2, oc, vs, t, e2, hoc, hd, hv⟩ := rec
    cases e2
    have sz : s.heap.objs.size ≤ h'.objs.size := Nat.le_trans ge (Nat.le_of_lt lt)
    have nC : H c' = none := I.hok.fresh ge
    have J := inv_table (q := X.env.qual ++ "<lambda>") (t' := tk) (more := #[rawInt at_.line, rawInt at_.col, .ref c']) (h' := h'.push (lamO (X.env.qual ++ "<lambda>") pr bd sc (cloFrom X.env.cells sc.names []) dV dc ((X.mg "__name__").getD .none) c' ct)) I hP
      (fun b o hb e => Heap.get?_push_of_some _ (xb b o hb e)) (Heap.get?_push_of_some _ tb) ge ⟨oc, vs, t, Heap.get?_push_of_some _ hoc, hd, hv⟩
    have neP : h'.objs.size ≠ P := Nat.ne_of_gt (Nat.lt_of_lt_of_le (Heap.lt_size atP) sz)
    have st : LStep (X.env.qual ++ "<lambda>") P ps at_ H c' _ := .new nC
    refine h _ c' dc _ ct _ _ J st (Heap.get?_push_size _ rfl) sz (st.stay (I.hok.fresh sz) neP (Nat.ne_of_gt lt)) (fun b o hb e => ⟨Heap.get?_push_of_some _ (xb b o hb e), Nat.ne_of_lt (Nat.lt_of_lt_of_le (Heap.lt_size e) sz)⟩) fun b o e n => st.stay n (fun z => ?_) (Nat.ne_of_lt (Nat.lt_of_lt_of_le (Heap.lt_size e) ge))
    rw [z, hP] at n
    cases n
/-- the parameters: none, or one with a default -/
inductive Dfl (pr : Arguments) (env : Env) : Option Int → Prop where
  | no (h : defaultsOf pr env = ([], [])) : Dfl pr env none
  | one {i : Int} {j : Nat} {p : Pos} (h1 : pr.defaults = [.Constant (.int i) j p]) (h2 : pr.kw_defaults = []) : Dfl pr env (some i)
theorem lam_eval {dfl : Option Int} (df : Dfl pr X.env dfl) (I : Inv X pins σ H s) (TB : TabB X.base X.mg c P) (hcode : X.env.code = .ref c) (hP : H P = some (.tbl ps)) (hk : TbK (X.env.qual ++ "<lambda>") H ps) (hfree : ∀ y ∈ sc.names, y.2 = .free → ∃ c, X.env.cells.lookup y.1 = some c)
    (h : ∀ (f c' : Addr) (dV dc pm ct : Value) (H1 : Hp) (s' : Shared), Inv X pins σ H1 s' → LStep (X.env.qual ++ "<lambda>") P ps at_ H c' H1 → s'.heap.get? f = some (lamO (X.env.qual ++ "<lambda>") pr bd sc (cloFrom X.env.cells sc.names []) dV dc pm c' ct) →
      H1 f = none → f ∉ frs X.stack → DvAt s'.heap.get? H1 (frs X.stack) dV dfl → Q (.ref f) s') :
    wpAny (model X.prog X.w) A (eval (.Lambda pr bd sc at_) X.env) Q E s := by
  cases df with
  | no hd =>
    refine PySem.W.kla_eval hd ?_
    rw [makeFunction_eq]
    simp only [List.zip_nil_right, List.filterMap_nil, List.isEmpty_nil, if_true, pure_bind]
    exact lam_tail I TB hcode hP hk hfree fun f c' dc pm ct H1 s' J st e ge n _ _ => h f c' .none dc pm ct H1 s' J st e n (nofr I ge) rfl
  | @one i j p h1 h2 =>
    refine PySem.W.kdv_lam (by rw [h1] <;> rfl) h2 ?_
    rw [h1]
    refine PySem.W.kdv_all1 (wpAny_Constant_int (PySem.W.kdv_all0 ?_))
    rw [makeFunction_eq]
    simp only [List.zip_nil_right, List.filterMap_nil, List.isEmpty_nil, if_true, pure_bind, List.isEmpty_cons, Bool.false_eq_true, if_false]
    refine wpAny_bind (wpAny_newTextTuple ?_)
    have J0 := I.tok (s.toks + 1)
    have atT : ({ s with heap := s.heap.push (PySem.W.kdv_tup [.int i s.toks]), toks := s.toks + 1 } : Shared).heap.get? s.heap.objs.size = some (PySem.W.kdv_tup [.int i s.toks]) := Heap.get?_push_size _ rfl
    have nT : H s.heap.objs.size = none := I.hok.fresh (Nat.le_refl _)
    have J1 : Inv X pins σ H { s with heap := s.heap.push (PySem.W.kdv_tup [.int i s.toks]), toks := s.toks + 1 } := I.kept fun b o e => Heap.get?_push_of_some _ e
    have neP : s.heap.objs.size ≠ P := fun z => by rw [z, hP] at nT; cases nT
    exact lam_tail J1 TB hcode hP hk hfree fun f c' dc pm ct H1 s' J st e ge n kp fr => h f c' _ dc pm ct H1 s' J st e n (nofr J1 ge) ⟨_, _, rfl, (kp _ _ neP atT).1, fr _ _ atT nT, nofr I (Nat.le_refl _)⟩
end
end LJ
namespace LJ
open PySem PySem.Spec PyProof.Rows L2 LamX DJ
/-! ### a lambda is entered: what it sees are the maker's slots -/
structure LamN (N : List Str) (o sc : Scope) : Prop where
  kind : sc.kind = .function
  co : sc.isCoroutine = false
  gen : sc.isGenerator = false
  own : ∀ y ∈ sc.names, y.2 ≠ .cell ∧ (y.2 = .local → y.1 ∉ N)
  free : ∀ y ∈ sc.names, y.2 = .free → o.names.lookup y.1 = some .cell ∨ o.names.lookup y.1 = some .free
def lamNB (N : List Str) (o sc : Scope) : Bool :=
  decide (sc.kind = .function) && (!sc.isCoroutine && (!sc.isGenerator && sc.names.all fun y => !decide (y.2 = .cell) && ((!decide (y.2 = .local) || !decide (y.1 ∈ N)) && (!decide (y.2 = .free) || (decide (o.names.lookup y.1 = some .cell) || decide (o.names.lookup y.1 = some .free))))))
theorem lamN_by {N : List Str} {o sc : Scope} (h : lamNB N o sc = true) : LamN N o sc := by
  unfold lamNB at h
  simp only [Bool.and_eq_true, Bool.or_eq_true, Bool.not_eq_true', decide_eq_true_eq, decide_eq_false_iff_not, List.all_eq_true] at h
  obtain ⟨a1, a2, a3, a4⟩ := h
  refine ⟨a1, a2, a3, fun y hy => ⟨(a4 y hy).1, fun e => ?_⟩, fun y hy e => ?_⟩
  · rcases (a4 y hy).2.1 with z | z
    · exact absurd e z
    · exact z
  · rcases (a4 y hy).2.2 with z | z
    · exact absurd e z
    · exact z
theorem LamN.has {X : Cx} {sc : Scope} (L : LamN X.N X.env.scope sc) (ok : X.Ok) : ∀ y ∈ sc.names, y.2 = .free → ∃ c, X.env.cells.lookup y.1 = some c := fun y hy e => ok.has _ (L.free y hy e)
section
variable {X : Cx} {pins : List (Addr × Obj)} {σ : L2.St} {H HZ : Hp} {s s1 : Shared} {sc : Scope}
theorem lam_enter {A : Around} {outer : List Env} {E : XK} {f c' : Addr} {h1 : Heap} {tk : Nat} {bs : List (Str × Value)} (I : Inv X pins σ H s) (L : LamN X.N X.env.scope sc) (e0 : Env0 X.prog X.w X.K X.mg X.base A outer s1 HZ) (hd : A.handled = none)
    (un : Un (frs X.stack) [] H HZ s.heap s1.heap) (hns : h1.Ns s1.heap.objs.size fun y => bs.reverse.lookup y) (kp : ∀ b o, s1.heap.get? b = some o → h1.get? b = some o) :
    Inv (lamCx X A outer s1 HZ E sc f c') [] σ HZ { s1 with heap := h1, toks := tk } := by
  have has := L.has I.ok
  have inn : ∀ {y c}, (cloFrom X.env.cells sc.names []).lookup y = some c → X.env.cells.lookup y = some c := by
    intro y c e
    rcases cloFrom_mem (PySem.mem_of_lookup e) with z | ⟨z1, z2⟩
    · cases z
    · obtain ⟨c1, hc⟩ := has _ z1 rfl
      have hc : X.env.cells.lookup y = some c1 := hc
      have : c = c1 := by rw [z2, hc] <;> rfl
      rw [this]; exact hc
  have out : ∀ {y}, sc.names.lookup y = some .free → ∃ c, (cloFrom X.env.cells sc.names []).lookup y = some c := fun {y} z =>
    mem_lookup (cloFrom_has (cells := X.env.cells) (acc := []) (show (y, NameKind.free) ∈ sc.names from PySem.mem_of_lookup z))
  have isC : ∀ {c : Addr} {v : Option Value}, H c = none → s.heap.IsCell c v → h1.IsCell c v := by
    rintro c v n ⟨o, ho, hdt⟩
    obtain ⟨sl, q⟩ := un.any ho n (by simp)
    exact ⟨_, kp _ _ q, hdt⟩
  have noX : ∀ b : Addr, b ∉ (lamCx X A outer s1 HZ E sc f c').ex := fun b z => absurd (show b ∈ ([] : List Addr) from z) (by simp)
  constructor
  · exact ⟨e0.mod, L.kind, rfl, rfl, Nat.le_refl _, fun y z c q1 q2 => I.ok.inj y z c (inn q1) (inn q2), fun y hy => by
      have hy : sc.names.lookup y = some .cell ∨ sc.names.lookup y = some .free := hy
      rcases hy with z | z
      · exact absurd rfl (L.own _ (PySem.mem_of_lookup z)).1
      · exact out z, fun y c z _ => (nomatch (show false = true from z)), fun _ => hd, Around.frames_deeper e0.frames, .inr ⟨rfl, rfl⟩, fun b z => absurd z (noX b), e0.bs, e0.bsz, fun b _ _ => noX b, fun b z => absurd z (noX b), e0.funs, e0.frf⟩
  · rfl
  · exact e0.bare
  · exact Un.kept kp
  · refine ⟨_, hns, fun i y v q1 q2 q3 => ?_⟩
    have q3 : Vis sc y := q3
    rcases q3 with k | k | k
    · exact absurd (List.mem_of_getElem? q1) ((L.own _ (PySem.mem_of_lookup k)).2 rfl)
    · exact absurd rfl (L.own _ (PySem.mem_of_lookup k)).1
    · obtain ⟨m, _, hl⟩ := I.loc
      have vis : Vis X.env.scope y := (L.free _ (PySem.mem_of_lookup k) rfl).elim (fun z => .inr (.inl z)) (fun z => .inr (.inr z))
      obtain ⟨w', r, q⟩ := hl i y v q1 q2 vis
      obtain ⟨c2, h2⟩ := out k
      refine ⟨w', r, .inr ⟨.inr k, c2, h2, ?_⟩⟩
      have c1 := inn h2
      rcases q with ⟨k', _⟩ | ⟨_, c3, e', z⟩
      · have k' : X.env.scope.names.lookup y = some .local := k'
        rcases L.free _ (PySem.mem_of_lookup k) rfl with z | z <;> rw [show X.env.scope.names.lookup y = _ from z] at k' <;> cases k'
      · rw [c1] at e'
        cases e'
        exact isC (I.freeC y _ c1) z
  · intro y c e
    obtain ⟨w', z⟩ := I.cell y c (inn e)
    exact ⟨w', isC (I.freeC y c (inn e)) z⟩
  · exact e0.hok.fresh (Nat.le_refl _)
  · intro y c e
    obtain ⟨v, o, ho, _⟩ := I.cell y c (inn e)
    exact un.free c o ho (I.freeC y c (inn e)) (by simp)
  · intro q hq
    exact absurd (show q ∈ ([] : List (Addr × Obj)) ++ [] from hq) (by simp)
  · exact e0.hok.kept kp
  · exact I.len
/-- how it binds nothing -/
inductive LamB (pr : Arguments) (bd : Expr) (sc : Scope) : Option Int → Prop where
  | no (h : ∀ (q : Str) (cl : List (Str × Addr)) (dc pm cv ct : Value), bindArgs (PySem.W.kdv_fn "<lambda>" q pr (.expr bd) sc cl .none dc pm cv ct) ⟨[], []⟩ = pure []) : LamB pr bd sc none
  | one {i : Int} {nm : Str} (hl : sc.names.lookup nm = some .local)
      (h : ∀ (q : Str) (cl : List (Str × Addr)) (T : Addr) (dc pm cv ct : Value), ∃ kk, bindArgs (PySem.W.kdv_fn "<lambda>" q pr (.expr bd) sc cl (.ref T) dc pm cv ct) ⟨[], []⟩ = seqItems? (.ref T) >>= kk ∧ ∀ v, kk (some #[v]) = pure [(nm, v)]) : LamB pr bd sc (some i)
/-- a(), in the def that got the lambda -/
theorem pe_ask {CXg : CXT} {Eg : XK} {Ng : List Str} {qg : Str} {sg : Scope} {g f c' : Addr} {cdg dV dc pm ct : Value} {pr : Arguments} {bd : Expr} {dfl : Option Int} {k i : Nat} {a : Str} {pn : List (Addr × Obj)} {xe : Value → Shared → Prop} {W : WX} {E : XK} {tb : TE} {p1 p2 : Pos}
    (I : Inv X pins σ H s) (L : LamN X.N X.env.scope sc) (hf : s.heap.get? f = some (lamO (X.env.qual ++ "<lambda>") pr bd sc (cloFrom X.env.cells sc.names []) dV dc pm c' ct)) (hfn : H f = none) (hfr : f ∉ frs X.stack) (dv : DvAt s.heap.get? H (frs X.stack) dV dfl) (hb : LamB pr bd sc dfl)
    (tk : Takes ((cxOf CXg X.prog X.w X.K X.mg X.base Ng qg sg g cdg X.A X.stack s H Eg).tr pn xe) W) (hr : Room (k + 1) (X.A.deeper (envOfC qg sg s.heap.objs.size g cdg)))
    (hbody : ∀ (A : Around) (outer : List Env) (s : Shared) (H : Hp), Room k (A.deeper (lamEnv X sc s.heap.objs.size f c')) → PE (lamCx X A outer s H E sc f c') bd tb)
    (hN : Ng[i]? = some a) (hv : Vis sg a) (hd : (a == ("__debug__" : Str)) = false := by decide) (hcd : (a == ("__classdict__" : Str)) = false := by decide) :
    PE ((cxOf CXg X.prog X.w X.K X.mg X.base Ng qg sg g cdg X.A X.stack s H Eg).tr pn xe) (.Call (.Name a p1) [] [] p2)
      (fun σZ HZ Q => σZ[i]? = some (some (.ref f)) ∧ HZ c' = some (CodeO c' (X.env.qual ++ "<lambda>")) ∧ (∀ cls d H', E cls d H' → W cls d σZ H') ∧ tb σ HZ Q) := by
  constructor
  intro pinsZ sZ σZ HZ Q IZ want
  obtain ⟨w1, w2, hW, w3⟩ := want
  refine wpAny_Call_Name_kw (thn ((pe_var (pos := p1) (i := i) hN hv hd hcd).run pinsZ sZ σZ HZ (fun v H1 => v = .ref f ∧ H1 = HZ) IZ ⟨.ref f, w1, rfl, rfl⟩) fun u s1 got => ?_)
  obtain ⟨v, H1, I1, r1, ev, eH⟩ := got
  subst ev
  rw [eH] at I1
  have eu : u = Value.ref f := r1
  subst eu
  have un : Un (frs X.stack) [] H HZ s.heap s1.heap := I1.base
  have of1 := un.keep f _ hf hfn hfr (by simp)
  refine PySem.W.callWith_F0 ⟨_, _, _, _, of1⟩ ?_
  obtain ⟨⟨oc, vs, t, hoc, hdc, hvc⟩, _, _⟩ := I1.hok c' _ w2
  have bnd : ∃ bs, BindsTo s1 (PySem.W.kdv_fn "<lambda>" (X.env.qual ++ "<lambda>") pr (.expr bd) sc (cloFrom X.env.cells sc.names []) dV dc pm (.ref c') ct) ⟨[], []⟩ bs ∧ ∀ y ∈ bs, sc.names.lookup y.1 = some .local := by
    cases hb with
    | no h =>
      have dv : dV = .none := dv
      subst dv
      exact ⟨[], .of_eq (h _ _ _ _ _ _), fun y hy => absurd hy (by simp)⟩
    | @one i0 nm hl h =>
      obtain ⟨T, t0, rfl, gT, nT, fT⟩ := dv
      obtain ⟨kk, z1, z2⟩ := h (X.env.qual ++ "<lambda>") (cloFrom X.env.cells sc.names []) T dc pm (.ref c') ct
      refine ⟨[(nm, .int i0 t0)], .of_defaults (T := T) rfl (un.keep T _ gT nT fT (by simp)) rfl z1 (z2 _), fun y hy => ?_⟩
      rw [List.mem_singleton] at hy
      subst hy
      exact hl
  obtain ⟨bs, bt, bl⟩ := bnd
  have go : codeAny (model X.prog X.w) (X.A.deeper (envOfC qg sg s.heap.objs.size g cdg)) (.call (.ref f) ⟨[], []⟩) (CR (L2.CX X.prog X.w) (envOfC qg sg s.heap.objs.size g cdg :: X.stack) X.prog X.w HZ s1 Q E) s1 := by
    refine PySem.W.kla_callFunE hr.depth of1 rfl L.co L.gen rfl ⟨c', oc, vs, t, rfl, hoc, hdc, hvc⟩ (bt _ _ _ _ ?_)
    refine wpAny_newFunctionEnv (fun y hy => (L.own y hy).1) bl (fun h1 hns hsb => ⟨I1.nolimit.fresh _ hsb, ?_⟩) L.kind
    have keep1 : ∀ b o, s1.heap.get? b = some o → h1.get? b = some o := fun b o e => hsb.extBut b o (Nat.ne_of_lt (Heap.lt_size e)) (Heap.get?_push_of_some _ e)
    have J := lam_enter (E := E) (f := f) (c' := c') (tk := s1.toks + bs.length) I L I1.env0 hr.hd un hns keep1
    refine PySem.W.kla_codeExpr (wpAny_mono ((hbody _ _ s1 HZ (hr.deeper _)).run [] _ _ HZ Q J w3) (fun v s' res => ?_) fun _ _ z => z)
    obtain ⟨w', H', J', rv, q⟩ := res
    exact ⟨w', H', J'.os, J'.bare, J'.base, J'.hok, rv, q⟩
  refine wpAny_call (codeAny_mono go fun r s' res => ?_)
  cases r with
  | error e => exact tk e s' (XE.of_call (X := (cxOf CXg X.prog X.w X.K X.mg X.base Ng qg sg g cdg X.A X.stack s H Eg).tr pn xe) I1 (fun cls d H' z => hW cls d H' z) res)
  | ok fl =>
    cases fl with
    | ret u => exact I1.after res
    | next => exact (show False from res).elim
    | brk => exact (show False from res).elim
    | cont => exact (show False from res).elim
end
/-! ### x(lambda: body, ..) -/
/-- the def that calls what it got -/
def GivesG (X : Cx) (Ng : List Str) (x : Str) (sg : Scope) (g : Addr) (cdg : Value) (bg : List Stmt) (a : Str) (q : Str) (TT : (XK → Hp → VK → Prop) → Addr → List V → Hp → VK → Prop) : Prop :=
  ∀ (f c' : Addr) (s : Shared) (H : Hp) (Q : VK) (vs : List V) (tl : XK → Hp → VK → Prop),
    (∀ (W : WX) (pn : List (Addr × Obj)) (xe : Value → Shared → Prop) (E : XK) (p1 p2 : Pos), Takes ((cxOf CX0 X.prog X.w X.K X.mg X.base Ng x sg g cdg X.A X.stack s H E0).tr pn xe) W →
      PE ((cxOf CX0 X.prog X.w X.K X.mg X.base Ng x sg g cdg X.A X.stack s H E0).tr pn xe) (.Call (.Name a p1) [] [] p2) (fun σZ HZ Q => σZ[0]? = some (some (.ref f)) ∧ HZ c' = some (CodeO c' q) ∧ (∀ cls d H', E cls d H' → W cls d σZ H') ∧ tl E HZ Q)) →
    TT tl c' vs H Q → ∃ t, PSs (cxOf CX0 X.prog X.w X.K X.mg X.base Ng x sg g cdg X.A X.stack s H E0) bg t ∧ t { nx := fun _ H' => Q .non H', rt := Q } (L2.start Ng (.ref f :: vs)) H
def tLamG (q : Str) (P : Addr) (at_ : Pos) (TT : (XK → Hp → VK → Prop) → Addr → List V → Hp → VK → Prop) (ta : TA) (t : XK → TE) : TE := fun σ H Q =>
  ∃ ps, H P = some (.tbl ps) ∧ TbK q H ps ∧ ∀ c' H1, LStep q P ps at_ H c' H1 → ta σ H1 fun vs H2 => TT (fun E H' Q' => t E σ H' Q') c' vs H2 Q
/-- what stays is pinned -/
theorem pinned {pins : List (Addr × Obj)} {σ : L2.St} {H : Hp} {s : Shared} {o : Obj} {b : Addr} (I : Inv X pins σ H s) (e : s.heap.get? b = some o) (n : H b = none) (fr : b ∉ frs X.stack) (nd : ∀ es ep, o.data ≠ .dict es ep) (nc : ∀ v, o.data ≠ .cell v) : Inv X ((b, o) :: pins) σ H s := by
  refine ⟨I.ok, I.os, I.bare, I.base, I.loc, I.cell, I.free, I.freeC, fun q hq => ?_, I.hok, I.len⟩
  have hq : q = (b, o) ∨ q ∈ X.pn ++ pins := by
    rcases List.mem_append.mp hq with z | z
    · exact .inr (List.mem_append_left _ z)
    · rcases List.mem_cons.mp z with z | z
      · exact .inl z
      · exact .inr (List.mem_append_right _ z)
  rcases hq with rfl | hq
  · refine ⟨e, n, fun z => ?_, fun z => fr ?_, nc⟩
    · obtain ⟨m, ⟨ob, es, ep, ho, hd, _⟩, _⟩ := I.loc
      have z : b = X.env.locals := z
      rw [← z, e] at ho
      cases ho
      exact nd _ _ hd
    · rcases I.ok.stk with k | ⟨k, _⟩
      · rw [k]; exact z
      · rw [k]
        obtain ⟨en, h1, h2⟩ := List.mem_filterMap.mp z
        exact List.mem_filterMap.mpr ⟨en, List.mem_cons_of_mem _ h1, h2⟩
  · exact I.pin q hq
theorem unpin {X : Cx} {pins : List (Addr × Obj)} {σ : L2.St} {H : Hp} {s : Shared} {q : Addr × Obj} (I : Inv X (q :: pins) σ H s) : Inv X pins σ H s :=
  ⟨I.ok, I.os, I.bare, I.base, I.loc, I.cell, I.free, I.freeC, fun p hp => I.pin p (by
    rcases List.mem_append.mp hp with z | z
    · exact List.mem_append_left _ z
    · exact List.mem_append_right _ (List.mem_cons_of_mem _ z)), I.hok, I.len⟩
theorem pin_at {X : Cx} {pins : List (Addr × Obj)} {σ : L2.St} {H : Hp} {s : Shared} {b : Addr} {o : Obj} (I : Inv X ((b, o) :: pins) σ H s) : s.heap.get? b = some o ∧ H b = none := by
  obtain ⟨h1, h2, _⟩ := I.pin (b, o) (List.mem_append_right _ List.mem_cons_self)
  exact ⟨h1, h2⟩
section
variable {X : Cx}
theorem pe_lamG {TT : (XK → Hp → VK → Prop) → Addr → List V → Hp → VK → Prop} {x a : Str} {g c P : Addr} {k n : Nat} {pg : Arguments} {bg : List Stmt} {sg : Scope} {dV kV doc pm cdv ct oc : Value} {an od : Option Addr} {osl : Array (Option Value)} {Ng ps : List Str}
    {pr : Arguments} {bd : Expr} {sc : Scope} {es : List Expr} {ta : TA} {t : XK → TE} {dfl : Option Int} {p lpos pos : Pos} (hg : Gl X x) (hm : X.mg x = some (.ref g)) (hk : PySem.W.keepIn X.K (.ref g) = true)
    (lk : X.K.lookup g = some ⟨oc, od, .func (PySem.W.fnOf x x pg bg sg dV kV doc pm an cdv ct), osl⟩) (hcg : PySem.W.codeIn X.K cdv x = true) (hb : L2.Binds X.K (PySem.W.fnOf x x pg bg sg dV kV doc pm an cdv ct) ps []) (Sg : FnScope Ng ps sg) (hNg : Ng[0]? = some a) (hva : Vis sg a)
    (hlen : ∀ tl c' vs H Q, TT tl c' vs H Q → (V.ref c' :: vs).length = ps.length)
    (hG : GivesG X Ng x sg g cdv bg a (X.env.qual ++ "<lambda>") TT)
    (TB : TabB X.base X.mg c P) (hcode : X.env.code = .ref c) (hr : Room (k + 2) X.A) (L : LamN X.N X.env.scope sc) (df : Dfl pr X.env dfl) (lb : LamB pr bd sc dfl) (ha : PA X es ta)
    (hbody : ∀ (A : Around) (outer : List Env) (s : Shared) (H : Hp) (E : XK) (f c' : Addr), Room k (A.deeper (lamEnv X sc s.heap.objs.size f c')) → PE (lamCx X A outer s H E sc f c') bd (t E))
    (hdb : (x == ("__debug__" : Str)) = false := by decide) (hd : (a == ("__debug__" : Str)) = false := by decide) (hcd : (a == ("__classdict__" : Str)) = false := by decide)
    (hst : starEach (.Lambda pr bd sc lpos :: es) X.env = (false, eval (.Lambda pr bd sc lpos) X.env) :: starEach es X.env := by rfl) (hpl : (backTo pos (starEach es X.env)).any (·.1) = false := by rfl)
    (hbt : backTo pos ((false, eval (.Lambda pr bd sc lpos) X.env) :: starEach es X.env) = (false, eval (.Lambda pr bd sc lpos) X.env) :: backTo pos (starEach es X.env) := by rfl) :
    PE X (.Call (.Name x p) (.Lambda pr bd sc lpos :: es) [] pos) (tLamG (X.env.qual ++ "<lambda>") P lpos TT ta t) := by
  constructor
  intro pins s σ H Q I want
  obtain ⟨tb, hP, hkn, want⟩ := want
  refine wpAny_Call_Name_kw (ld_glob I hg hm ?_ hdb)
  refine PySem.W.callWith_K (h₀ := X.base) I.ok.mod.kin hk ?_ hst hpl
  rw [hst, hbt]
  refine Calls.spliced_cons (lam_eval df I TB hcode hP hkn (L.has I.ok) fun f c' dV' dc' pm' ct' H1 s' I1 st hf hfn hfr dv => ?_)
  have fin : ∀ {pins' : List (Addr × Obj)}, Inv X pins' σ H1 s' → (∀ H2 s2, Inv X pins' σ H2 s2 → Inv X pins σ H2 s2 ∧ s2.heap.get? f = some (lamO (X.env.qual ++ "<lambda>") pr bd sc (cloFrom X.env.cells sc.names []) dV' dc' pm' c' ct') ∧ H2 f = none ∧ DvAt s2.heap.get? H2 (frs X.stack) dV' dfl) →
      wpAny (model X.prog X.w) X.A (spliced (backTo pos (starEach es X.env))) (fun us s2 => X.K.In s2.heap ∧ wpAny (model X.prog X.w) X.A (call (.ref g) ([] ++ (.ref f :: us))) (EP X pins σ Q) X.xe s2) X.xe s' := by
    intro pins' J keep
    refine wpAny_mono (ha.run pos pins' s' σ H1 _ J (want c' H1 st)) (fun us s2 res => ?_) fun _ _ z => z
    obtain ⟨vs, H2, I2, rv, tt⟩ := res
    obtain ⟨I3, gf, nf, dv2⟩ := keep H2 s2 I2
    refine ⟨I3.kIn, ?_⟩
    have ln : (Value.ref f :: us).length = ps.length := by
      have e := hlen _ _ _ _ _ tt
      rw [List.length_cons] at e ⊢
      rw [← rv.length]; exact e
    have ln2 : (V.ref f :: vs).length = ps.length := by
      have e := hlen _ _ _ _ _ tt
      rw [List.length_cons] at e ⊢
      exact e
    have run : codeAny (model X.prog X.w) X.A (.call (.ref g) ⟨.ref f :: us, []⟩) (CR CX0 X.stack X.prog X.w H2 s2 Q E0) s2 := by
      refine run_ofS (N := Ng) (ps := ps) (us := .ref f :: us) (vs := .ref f :: vs) lk hcg Sg hr I3.env0 (by
        have z := hb s2 (.ref f :: us) I3.kIn (by rw [List.append_nil]; exact ln)
        rw [List.append_nil] at z
        exact z) (.cons rfl rv) ln2 fun hr' => ?_
      exact hG f c' s2 H2 Q vs _ (fun W pn xe E p1 p2 tk => pe_ask (i := 0) I3 L gf nf hfr dv2 lb tk hr' (fun A outer s H hr2 => hbody A outer s H E f c' hr2) hNg hva hd hcd) tt
    refine wpAny_call (codeAny_mono run fun r s3 res => ?_)
    cases r with
    | error e => exact (show False from res).elim
    | ok fl =>
      cases fl with
      | ret u => exact I3.after res
      | next => exact (show False from res).elim
      | brk => exact (show False from res).elim
      | cont => exact (show False from res).elim
  have Jf := pinned I1 hf hfn hfr (fun _ _ z => nomatch z) (fun _ z => nomatch z)
  cases dfl with
  | none => exact fin Jf fun H2 s2 I2 => ⟨unpin I2, (pin_at I2).1, (pin_at I2).2, dv⟩
  | some i =>
    obtain ⟨T, t0, e1, e2, e3, e4⟩ := dv
    have JT := pinned Jf e2 e3 e4 (fun _ _ z => nomatch z) (fun _ z => nomatch z)
    exact fin JT fun H2 s2 I2 => ⟨unpin (unpin I2), (pin_at (unpin I2)).1, (pin_at (unpin I2)).2, T, t0, e1, (pin_at I2).1, (pin_at I2).2, e4⟩
end
end LJ
namespace LJ
open PySem PySem.Spec PyProof.Rows L2 LamX DJ
/-! ### the same at the layer of data -/
/-- a table of code objects, owned -/
def tabM (P : Addr) (q : Str) : MO := .abx fun B a o => a = P ∧ ∃ ps, o = .tbl ps ∧ TbK q B ps
theorem tab_gone {P : Addr} {q : Str} : tabM P q ≠ .gone := fun z => nomatch z
theorem TbK.mono {q : Str} {B B' : Hp} {ps : Array Value} (e : Same B B') (h : TbK q B ps) : TbK q B' ps := ⟨h.1, fun p u k => let ⟨c, a, b⟩ := h.2 p u k; ⟨c, a, e _ _ b⟩⟩
/-- what a lambda's reading gives, from data -/
def TlR (K : PySem.W.Frag) (tl : XK → Hp → VK → Prop) (B0 : Hp) (z : Dt) : Prop :=
  ∀ F B as M H E Q, Ow K F B as M H → Same B0 B → (∀ v B' H', Gr F B B' → Ow K F B' as M H' → Rp K B' z v → Q v H') → tl E H Q
def TlX (K : PySem.W.Frag) (tl : XK → Hp → VK → Prop) (B0 : Hp) (x : Ex) : Prop :=
  ∀ F B as M H (E : XK) Q, Ow K F B as M H → Same B0 B → (∀ cls d B' H', Gr F B B' → Ow K F B' as M H' → XR K B' x cls d → E cls d H') → tl E H Q
/-- try: return a() / except C as e: suite; what is told of an error that keeps y is okz ds y -/
def TTold (K : PySem.W.Frag) (q : Str) (C : Addr) (fld : Str) (n : Nat) (okz : List Dt → Dt → Dt → Prop) : (XK → Hp → VK → Prop) → Addr → List V → Hp → VK → Prop := fun tl c' vs H Q =>
  H c' = some (CodeO c' q) ∧ vs.length = n ∧ ∃ F B as M ds, Ow K F B as M H ∧ RpL K B ds vs ∧ ((∃ z, TlR K tl B z ∧ ∀ v B' H', Gr F B B' → Ow K F B' as M H' → Rp K B' z v → Q v H') ∨
    (∃ y z, okz ds y z ∧ TlX K tl B ⟨.ref C, some (fld, y)⟩ ∧ ∀ v B' H', Gr F B B' → Ow K F B' as M H' → Rp K B' z v → Q v H'))
section
variable {K : PySem.W.Frag} {G : List (Option Sl)} {M : List MO}
/-- the slots that hold data -/
def dO : Option Sl → Option Sl
  | some (.d x) => some (.d x)
  | _ => none
theorem slt_data {B : Hp} {as as' : List Addr} {σ : L2.St} (h : Slt K B as G σ) : Slt K B as' (G.map dO) σ := by
  refine ⟨by rw [List.length_map]; exact h.1, fun i s q => ?_⟩
  rw [List.getElem?_map] at q
  cases e : G[i]? with
  | none => rw [e] at q; cases q
  | some o =>
    rw [e] at q
    have q : dO o = some s := Option.some.inj q
    cases o with
    | none => cases q
    | some c =>
      cases c with
      | o k => cases q
      | d x =>
        cases q
        exact h.2 i _ e
theorem ev_told {q : Str} {P C : Addr} {fld : Str} {n kT : Nat} {okz : List Dt → Dt → Dt → Prop} {ta : TA} {t : XK → TE} {at_ : Pos} {ds : List Dt} {z : Dt} (hT : M[kT]? = some (tabM P q)) (ha : EvA K ta G M (ds.map Sl.d) M) (hn : ds.length = n)
    (h : (∀ E M', EvE K (t E) (G.map dO) M' (.d z) M') ∨ (∃ y, okz ds y z ∧ ∀ (E : XK) M', EvX K (t E) (fun cls d _ H => E cls d H) (G.map dO) M' ⟨.ref C, some (fld, y)⟩ M')) :
    EvE K (tLamG q P at_ (TTold K q C fld n okz) ta t) G M (.d z) M := fun F B as σ H ow sl Q qq => by
  have hk : kT < as.length := by rw [ow.len]; exact (List.getElem?_eq_some_iff.mp hT).1
  obtain ⟨a, ea⟩ : ∃ a, as[kT]? = some a := ⟨_, List.getElem?_eq_getElem hk⟩
  obtain ⟨fa, ba, o, ho, nt, hφ⟩ := ow.own kT a _ ea hT tab_gone
  obtain ⟨rfl, ps, rfl, hb⟩ := hφ B (Same.refl B)
  refine ⟨ps, ho, hb.mono ow.bb, fun c' H1 st => ?_⟩
  have nx : ∃ B1, Gr F B B1 ∧ Ow K F B1 as M H1 ∧ B1 c' = some (CodeO c' q) := by
    cases st with
    | hit h1 h2 =>
      obtain ⟨c, e1, e2⟩ := hb.2 at_ _ h2
      cases e1
      exact ⟨B, Gr.refl F B, ow, e2⟩
    | new h1 =>
      have g1 := ow.gr h1 (CodeO c' q)
      have o1 := ow.new h1 (CodeO c' q)
      refine ⟨_, g1, ?_, upd_same⟩
      have hs : M.set kT (tabM a q) = M := by
        refine List.ext_getElem? fun j => ?_
        by_cases e : kT = j
        · subst e
          rw [List.getElem?_set_self (List.getElem?_eq_some_iff.mp hT).1, hT]
        · rw [List.getElem?_set_ne e]
      have key : TbK q (upd B c' (CodeO c' q)) (ps ++ #[rawInt at_.line, rawInt at_.col, .ref c']) := by
        have eL : (ps ++ #[rawInt at_.line, rawInt at_.col, .ref c']).toList = ps.toList ++ [rawInt at_.line, rawInt at_.col, .ref c'] := by simp
        refine ⟨by rw [eL]; exact PySem.TriplesOk_snoc _ _ _ _ hb.1, fun p u k => ?_⟩
        rw [eL] at k
        rcases among_app _ hb.1 k with k | k
        · obtain ⟨c, e1, e2⟩ := hb.2 p u k
          exact ⟨c, e1, g1.1 _ _ e2⟩
        · exact ⟨c', k, upd_same⟩
      have o2 := o1.put (k := kT) (a := a) (m' := tabM a q) (o := .tbl (ps ++ #[rawInt at_.line, rawInt at_.col, .ref c'])) ea hT tab_gone ⟨_, upd_same, (fun _ z => nomatch z), fun B' e => ⟨rfl, _, rfl, key.mono e⟩⟩
      rw [hs] at o2
      have ne : a ≠ c' := fun e => by rw [e, h1] at ho; cases ho
      have eh : upd (upd H c' (CodeO c' q)) a (.tbl (ps ++ #[rawInt at_.line, rawInt at_.col, .ref c'])) = upd (upd H a (.tbl (ps ++ #[rawInt at_.line, rawInt at_.col, .ref c']))) c' (CodeO c' q) := by
        funext b
        by_cases e1 : b = a
        · rw [e1, upd_same, upd_ne ne, upd_same]
        · by_cases e2 : b = c'
          · rw [e2, upd_ne (fun z => ne z.symm), upd_same, upd_same]
          · rw [upd_ne e1, upd_ne e2, upd_ne e2, upd_ne e1]
      rw [eh] at o2
      exact o2
  obtain ⟨B1, g1, o1, b1⟩ := nx
  refine ha F B1 as σ H1 o1 (sl.mono g1.1 (Px.refl as)) _ fun vs B2 as2 H2 g2 p2 o2 r2 => ?_
  refine ⟨o2.bb _ _ (g2.1 _ _ b1), by rw [r2.len, List.length_map]; exact hn, F, B2, as2, M, ds, o2, SlL.data r2, ?_⟩
  have g12 := g1.trans g2
  rcases h with h | ⟨y, hy, h⟩
  · exact .inl ⟨z, fun F' B' as' M' H' E Q' ow' sm q' => h E M' F' B' as' σ H' ow' (slt_data ((sl.mono g12.1 p2).mono sm (Px.refl as2))) Q' fun v B3 as3 H3 g3 p3 o3 r3 => q' v B3 H3 g3 (by
        have : as3 = as' := by
          obtain ⟨tl, rfl⟩ := p3
          have e1 := o3.len
          have e2 := ow'.len
          rw [List.length_append] at e1
          have : tl = [] := List.eq_nil_of_length_eq_zero (by omega)
          rw [this, List.append_nil]
        rw [← this]; exact o3) r3, fun v B' H' g' o' r' => qq v B' as2 H' (g12.trans g') p2 o' r'⟩
  · exact .inr ⟨y, z, hy, fun F' B' as' M' H' E Q' ow' sm q' => h E M' F' B' as' σ H' ow' (slt_data ((sl.mono g12.1 p2).mono sm (Px.refl as2))) (fun B3 as3 H3 cls d g3 p3 o3 r3 => q' cls d B3 H3 g3 (by
        have : as3 = as' := by
          obtain ⟨tl, rfl⟩ := p3
          have e1 := o3.len
          have e2 := ow'.len
          rw [List.length_append] at e1
          have : tl = [] := List.eq_nil_of_length_eq_zero (by omega)
          rw [this, List.append_nil]
        rw [← this]; exact o3) r3) Q', fun v B' H' g' o' r' => qq v B' as2 H' (g12.trans g') p2 o' r'⟩
end
/-- told's own body: try: return a() / except C as e: suite (e in slot i) -/
theorem told_gives {X : Cx} {Ng : List Str} {x a e q fld : Str} {sg : Scope} {g C : Addr} {cdg : Value} {i n : Nat} {p1 p2 p3 p4 p7 p8 : Pos} {b0 : Stmt} {suite : List Stmt} {ts : Addr → Value → Option Addr → TS} {okz : List Dt → Dt → Dt → Prop} {nm : Str}
    (hge : sg.names.lookup e = some .globalImplicit) (hme : X.mg e = some (.ref C)) (hde : (e == ("__debug__" : Str)) = false) (hNd : Ng.Nodup) (hi : Ng[i]? = some nm) (hln : sg.names.lookup nm = some .local) (hl : Ng.length = n + 2) (hin : i = n + 1)
    (te : PySem.W.exmOne X.K (.ref C) (.ref C) = some true)
    (hsu : ∀ (A : Around) (s : Shared) (H : Hp) (a : Addr) (oe : Obj) (cls : Value) (d : Option Addr) (pn : List (Addr × Obj)), Zc cls d oe → (∃ vs, oe.data = .fields vs) → PSs ((cxOf CX0 X.prog X.w X.K X.mg X.base Ng x sg g cdg X.A X.stack s H E0).suite a ((a, oe) :: pn)) (b0 :: suite) (ts a cls d))
    (hst : ∀ (ds : List Dt) (y z : Dt), ds.length = n → okz ds y z → ∀ (fv : V) a d M, EvS X.K (ts a (.ref C) d) ((some (.d (.raw fv)) :: ds.map (fun d => some (.d d))) ++ [some (.d (XfR X.K a d fld y))]) M (.rt (.d z) M)) :
    GivesG X Ng x sg g cdg [.Try [.Return (some (.Call (.Name a p1) [] [] p2)) p3] [.ExceptHandler (some (.Name e p4)) (some nm) (b0 :: suite) p7] [] [] p8] a q (TTold X.K q C fld n okz) := by
  intro f c' s H Q vs tl act tt
  obtain ⟨hc, hvl, F, B, as, M, ds, ow, rds, tt⟩ := tt
  refine ⟨_, pss_one (ps_try_as (X := cxOf CX0 X.prog X.w X.K X.mg X.base Ng x sg g cdg X.A X.stack s H E0) (i := i) (c := .ref C) (ts := ts) (Wout := fun _ _ _ _ => False)
    (tb := fun W D σ H => ∃ E : XK, σ[0]? = some (some (.ref f)) ∧ H c' = some (CodeO c' q) ∧ (∀ cls d H', E cls d H' → W cls d σ H') ∧ tl E H D.rt) rfl rfl hNd hi hln ⟨hge, hde, .inl hme⟩ L2.takes0 (fun W pn xe tk _ => ?_) (fun a oe cls d pn hz hf => hsu X.A s H a oe cls d pn hz hf)), ?_⟩
  · refine ⟨fun pins s' σ H' D I h' => ?_⟩
    obtain ⟨E, w1, w2, w3, w4⟩ := h'
    exact (pss_one (ps_ret (pos := p3) (act W pn xe E p1 p2 tk))).run pins s' σ H' D I ⟨w1, w2, w3, w4⟩
  · refine ⟨fun cls d H' => wAs X.K (.ref C) i ts (fun _ _ _ _ => False) _ cls d _ H', rfl, hc, fun _ _ _ z => z, ?_⟩
    rcases tt with ⟨z, h1, h2⟩ | ⟨y, z, hy, h1, h2⟩
    · exact h1 F B as M H _ _ ow (Same.refl B) h2
    · refine h1 F B as M H _ _ ow (Same.refl B) fun cls d B' H' g o' r => ?_
      obtain ⟨rfl, dd, v, ed, eb, rv⟩ := r
      refine ⟨true, te, fun _ a na => ?_, fun z => nomatch z⟩
      have dl : ds.length = n := by rw [← rds.len]; exact hvl
      refine hst ds y z dl hy (.ref f) a d M F B' as _ H' o' ?_ _ fun v' B2 as2 H2 g2 p2 o2 r2 => h2 v' B2 H2 (g.trans g2) (by
        have : as2 = as := by
          obtain ⟨tl', rfl⟩ := p2
          have e1 := o2.len
          have e2 := o'.len
          rw [List.length_append] at e1
          have : tl' = [] := List.eq_nil_of_length_eq_zero (by omega)
          rw [this, List.append_nil]
        rw [← this]; exact o2) r2
      have sl0 : SlL X.K B' as (.d (.raw (.ref f)) :: ds.map Sl.d) (.ref f :: vs) := ⟨_, _, rfl, rfl, SlL.of_data (RpL.mono g.1 _ _ rds)⟩
      have sl1 := slt_args (n := 1) sl0
      have e1 : L2.start Ng (V.ref f :: vs) = (V.ref f :: vs).map some ++ List.replicate 1 none := by
        unfold L2.start
        congr 2
        rw [hl, List.length_cons, hvl]
        omega
      show Slt X.K B' as _ ((L2.start Ng (V.ref f :: vs)).set i (some (.ref a)))
      rw [e1]
      have key := sl1.set (s := .d (XfR X.K a d fld y)) (v := .ref a) i (fun H2 sm => ⟨rfl, dd, v, ed, sm _ _ eb, Rp.mono sm _ _ rv⟩)
      have eg : ((Sl.d (.raw (.ref f)) :: ds.map Sl.d).map some ++ List.replicate 1 none).set i (some (.d (XfR X.K a d fld y))) = (some (.d (.raw (.ref f))) :: ds.map (fun d => some (.d d))) ++ [some (.d (XfR X.K a d fld y))] := by
        subst hin
        rw [show (n + 1) = ((Sl.d (.raw (.ref f)) :: ds.map Sl.d).map some).length by simp [dl]]
        rw [List.set_append_right _ _ (Nat.le_refl _), Nat.sub_self]
        simp
      rw [eg] at key
      exact key
end LJ
namespace LJ
open PySem PySem.Spec PyProof.Rows L2 LamX DJ
/-! ### defs that may raise, with keyword-only parameters -/
structure DfK (K : PySem.W.Frag) (mg : Str → Option Value) (x : Str) (st : Stmt) (kws : List (Str × V)) : Prop where
  ex : ∃ (f : Addr) (fd : FuncData), L2.FunD K x x (defArgs st) (defBody st) (defScope st) [] kws f fd ∧ mg x = some (.ref f)
structure CalFX (P : Program) (w : World) (K : PySem.W.Frag) (mg : Str → Option Value) (base : Heap) (k : Nat) (x : Str) (st : Stmt) (ps : List Str) (kws : List (Str × V)) (sp : Sp) : Prop where
  ex : ∃ (f : Addr) (fd : FuncData), FnOk P w K mg base (L2.CX P w) k f fd ps sp ∧ L2.FunD K x x (defArgs st) (defBody st) (defScope st) [] kws f fd ∧ mg x = some (.ref f)
/-- called with n things by place and the others by their names -/
structure CalKX (P : Program) (w : World) (K : PySem.W.Frag) (mg : Str → Option Value) (base : Heap) (k : Nat) (x : Str) (n : Nat) (ks : List Str) (g : List Value → List Value → List Value) (gV : List V → List V → List V) (sp : Sp) : Prop where
  ex : ∃ (f : Addr) (fd : FuncData) (ps : List Str), FnOk P w K mg base (L2.CX P w) k f fd ps sp ∧ mg x = some (.ref f) ∧ PySem.W.keepIn K (.ref f) = true ∧ KBn K fd ps n ks g gV
section
variable {P : Program} {w : World} {K : PySem.W.Frag} {mg : Str → Option Value} {base : Heap}
theorem cal_mkKX {x : Str} {st : Stmt} {N ps : List Str} {kws : List (Str × V)} {k n : Nat} {R : List Sl → List MO → Sl → List MO → Prop} {RX : List Sl → List MO → Ex → List MO → Prop} (D : DfK K mg x st kws) (S : FnScope N ps (defScope st)) (hn : ps.length = n)
    (hb : ∀ (f : Addr) (cdv : Value) (A : Around) (outer : List Env) (s : Shared) (H : Hp) (E : XK), Room k (A.deeper (envOfC x (defScope st) s.heap.objs.size f cdv)) → Takes (cxX P w K mg base N x st f cdv A outer s H E) (fun cls d _ H => E cls d H) → PassesOwn (model P w) (cxX P w K mg base N x st f cdv A outer s H E).A (cxX P w K mg base N x st f cdv A outer s H E).env (cxX P w K mg base N x st f cdv A outer s H E).xe →
      (∀ ss M r M', R ss M r M' → ∃ t X, PSs (cxX P w K mg base N x st f cdv A outer s H E) (defBody st) t ∧ ((EvS K t (start N.length ss) M (.rt r (M' ++ X)) ∧ ∀ j, r = .o j → j < M'.length) ∨ (∃ G1, EvS K t (start N.length ss) M (.nx G1 (M' ++ X)) ∧ r = .d .non)) ∧ M.length ≤ M'.length) ∧
      (∀ ss M x' M', RX ss M x' M' → ∃ t X G', PSs (cxX P w K mg base N x st f cdv A outer s H E) (defBody st) t ∧ EvR K t (fun cls d _ H => E cls d H) (start N.length ss) M x' G' (M' ++ X) ∧ M.length ≤ M'.length)) :
    CalFX P w K mg base (k + 1) x st ps kws (SpX K n R RX) := by
  obtain ⟨f, fd, F, hm⟩ := D.ex
  refine ⟨f, fd, F.ok S (fun vs H Q E h => ?_) (fun cdv A outer s H vs Q E hr h => ?_), F, hm⟩
  · obtain ⟨_, _, _, _, _, _, _, e, _⟩ := h
    rw [e, hn]
  · obtain ⟨F', B, as, ss, M, ow, sl, _, q⟩ := h
    obtain ⟨h1, h2⟩ := hb f cdv A outer s H E hr (takes_of rfl rfl rfl rfl) (passes_of rfl)
    rcases q with ⟨r, M', hR, q⟩ | ⟨x', M', hR, q⟩
    · obtain ⟨t, X, ht, he, hl⟩ := h1 ss M r M' hR
      rcases he with ⟨he, hr'⟩ | ⟨G1, he, hr'⟩
      · exact ⟨t, ht, run_body (X := X) he hl hr' ow sl q⟩
      · subst hr'
        exact ⟨t, ht, run_bodyN (X := X) he hl ow sl q⟩
    · obtain ⟨t, X, G', ht, he, hl⟩ := h2 ss M x' M' hR
      exact ⟨t, ht, run_bodyX (X := X) he hl ow sl q⟩
theorem CalFX.pos {k n : Nat} {x : Str} {st : Stmt} {ps : List Str} {kws : List (Str × V)} {sp : Sp} (c : CalFX P w K mg base k x st ps kws sp) (hk : kws ≠ []) (hn : n + kws.length = ps.length)
    (h : ∀ (D : Addr) (doc pm : Value) (an : Option Addr) (cdv ct : Value) (us ks : List Value), us.length = n → ks.length = kws.length →
      KwChain D ((kws.map (·.1)).zip ks) (bindArgs (PySem.W.fnOf x x (defArgs st) (defBody st) (defScope st) .none (.ref D) doc pm an cdv ct) ⟨us, []⟩) (ps.zip (us ++ ks))) : CalX P w K mg base k x sp (kws.map (·.2)) := by
  obtain ⟨f, fd, F, U, hm⟩ := c.ex
  obtain ⟨ds, hv, hb⟩ := U.binds0 (ps := ps) n hk hn h
  exact ⟨f, fd, ps, ds, F, hm, U.kp, hb, hv⟩
theorem CalFX.kw {k n : Nat} {x : Str} {st : Stmt} {ps ks : List Str} {kws : List (Str × V)} {sp : Sp} {g : List Value → List Value → List Value} {gV : List V → List V → List V} (c : CalFX P w K mg base k x st ps kws sp)
    (hrel : ∀ {vs : List V} {us : List Value} {zs : List V} {ws : List Value}, Vals vs us → Vals zs ws → Vals (gV vs zs) (g us ws))
    (h : ∀ (kV doc pm : Value) (an : Option Addr) (cdv ct : Value) (us ws : List Value), us.length = n → ws.length = ks.length → bindArgs (PySem.W.fnOf x x (defArgs st) (defBody st) (defScope st) .none kV doc pm an cdv ct) ⟨us, ks.zip ws⟩ = pure (ps.zip (g us ws))) : CalKX P w K mg base k x n ks g gV sp := by
  obtain ⟨f, fd, F, U, hm⟩ := c.ex
  refine ⟨f, fd, ps, F, hm, U.kp, fun s us ws _ l1 l2 => ?_, hrel⟩
  obtain ⟨oc, od, dV, kV, doc, pm, an, cdv, ct, osl, rfl, lk, hcd, hD, hK⟩ := U.ex
  rcases hD with ⟨_, rfl⟩ | ⟨e, _⟩
  · exact .of_eq (h kV doc pm an cdv ct us ws l1 l2)
  · exact absurd rfl e
end
def tCallNX (n m : Nat) (sp : Sp) (gV : List V → List V → List V) (E : L2.St → XK) (t tk : TA) : TE := fun σ H Q => t σ H fun vs H1 => tk σ H1 fun zs H2 => vs.length = n ∧ zs.length = m ∧ sp (gV vs zs) H2 Q (E σ)
section
variable {X : Cx} {k n j : Nat} {x : Str} {ks : List Str} {sp : Sp} {g : List Value → List Value → List Value} {gV : List V → List V → List V} {p pos : Pos} {e : Expr} {es : List Expr} {kws : List Keyword} {t tk : TA} {W : WX}
theorem run_NX {CX : CXT} {f : Addr} {fd : FuncData} {ps : List Str} {E : L2.St → XK} {pins : List (Addr × Obj)} {σ : L2.St} {H : Hp} {s : Shared} {Q : VK} {us ws : List Value} {vs zs : List V} (F : FnOk X.prog X.w X.K X.mg X.base CX k f fd ps sp) (hr : Room k X.A) (hb : KBn X.K fd ps n ks g gV) (hx : PassesAt CX X σ (E σ))
    (I : Inv X pins σ H s) (r : Vals vs us) (rz : Vals zs ws) (l1 : vs.length = n) (l2 : zs.length = ks.length) (h : sp (gV vs zs) H Q (E σ)) : wpAny (model X.prog X.w) X.A (call (.ref f) us (ks.zip ws)) (EP X pins σ Q) X.xe s := by
  have run := F.run X.A X.stack s H ⟨us, ks.zip ws⟩ (g us ws) (gV vs zs) Q (E σ) hr I.env0 (hb.to s us ws I.kIn (r.length.symm.trans l1) (rz.length.symm.trans l2)) (hb.rel r rz) h
  refine wpAny_call (codeAny_mono run fun r s' res => ?_)
  rcases r with e | fl
  · exact hx pins H s e s' I res
  · cases fl with
    | ret u => exact I.after res
    | next => exact (show False from res).elim
    | brk => exact (show False from res).elim
    | cont => exact (show False from res).elim
/-- f(e, .., k = v, ..) -/
theorem pe_cNX (c : CalKX X.prog X.w X.K X.mg X.base k x n ks g gV sp) (tkW : Takes X W) (hr : Room j X.A) (hk : k ≤ j) (hg : Gl X x) (ha : PA X (e :: es) t) (hkw : PK X kws tk)
    (hall : (backToKw pos (keywordEach kws X.env)).all (·.1.isSome) = true := by rfl) (hks : (backToKw pos (keywordEach kws X.env)).filterMap (·.1) = ks := by rfl)
    (hdb : (x == ("__debug__" : Str)) = false := by decide) (he : starEach (e :: es) X.env = (false, eval e X.env) :: starEach es X.env := by rfl)
    (hpl : ((backTo pos (starEach (e :: es) X.env)).any (·.1) || (backToKw pos (keywordEach kws X.env)).any (·.1.isNone)) = false := by rfl) :
    PE X (.Call (.Name x p) (e :: es) kws pos) (tCallNX n ks.length sp gV (WE W) t tk) := by
  obtain ⟨f, fd, ps, F, hm, kp, hb⟩ := c.ex
  constructor
  intro pins s σ H Q I h
  refine wpAny_Call_Name_kw (ld_glob I hg hm ?_ hdb)
  refine PySem.W.callWith_KW (h₀ := X.base) I.ok.mod.kin kp hall (thn (ha.run pos pins s σ H _ I h) fun us s1 got => ?_) hpl he
  obtain ⟨vs, H1, I1, r, q⟩ := got
  refine thn (hkw.run pos pins s1 σ H1 _ I1 q) fun ws s2 got2 => ?_
  obtain ⟨zs, H2, I2, rz, l1, l2, q2⟩ := got2
  refine ⟨I2.kIn, ?_⟩
  rw [hks]
  exact run_NX F (hr.mono hk) hb (passAt tkW σ) I2 r rz l1 l2 q2
/-- f(k = v, ..) -/
theorem pe_cNX0 (c : CalKX X.prog X.w X.K X.mg X.base k x 0 ks g gV sp) (tkW : Takes X W) (hr : Room j X.A) (hk : k ≤ j) (hg : Gl X x) (hkw : PK X kws tk)
    (hall : (backToKw pos (keywordEach kws X.env)).all (·.1.isSome) = true := by rfl) (hks : (backToKw pos (keywordEach kws X.env)).filterMap (·.1) = ks := by rfl)
    (hdb : (x == ("__debug__" : Str)) = false := by decide) (hpl : ((backTo pos (starEach [] X.env)).any (·.1) || (backToKw pos (keywordEach kws X.env)).any (·.1.isNone)) = false := by rfl) :
    PE X (.Call (.Name x p) [] kws pos) (tCallNX 0 ks.length sp gV (WE W) tNil tk) := by
  obtain ⟨f, fd, ps, F, hm, kp, hb⟩ := c.ex
  constructor
  intro pins s σ H Q I h
  refine wpAny_Call_Name_kw (ld_glob I hg hm ?_ hdb)
  refine PySem.W.callWith_KW0 (h₀ := X.base) I.ok.mod.kin kp hall (thn (hkw.run pos pins s σ H _ I h) fun ws s2 got2 => ?_) hpl
  obtain ⟨zs, H2, I2, rz, l1, l2, q2⟩ := got2
  refine ⟨I2.kIn, ?_⟩
  rw [hks]
  exact run_NX (us := []) (vs := []) F (hr.mono hk) hb (passAt tkW σ) I2 .nil rz l1 l2 q2
end
section
variable {K : PySem.W.Frag} {G : List (Option Sl)} {M M1 M2 : List MO} {ta tk : TA} {n m N : Nat} {gV : List V → List V → List V} {R : List Sl → List MO → Sl → List MO → Prop} {RX : List Sl → List MO → Ex → List MO → Prop} {ds es cs : List Dt} {x : Ex} {W : WX}
theorem ev_callNX {E : L2.St → XK} {z : Dt} (h1 : EvA K ta G M (ds.map Sl.d) M1) (h2 : EvA K tk G M1 (es.map Sl.d) M2) (hn : ds.length = n) (hm : es.length = m) (hg : ∀ B vs zs, RpL K B ds vs → RpL K B es zs → RpL K B cs (gV vs zs)) (hc : cs.length = N) (hR : R (cs.map Sl.d) [] (.d z) []) :
    EvE K (tCallNX n m (SpX K N R RX) gV E ta tk) G M (.d z) M2 := fun F B as σ H ow sl Q q =>
  h1 F B as σ H ow sl _ fun vs B1 as1 H1 g1 p1 o1 r1 => h2 F B1 as1 σ H1 o1 (sl.mono g1.1 p1) _ fun zs B2 as2 H2 g2 p2 o2 r2 => by
    have rv := RpL.mono g2.1 _ _ (SlL.data r1)
    have rz := SlL.data r2
    refine ⟨by rw [rv.len]; exact hn, by rw [rz.len]; exact hm, call_coreX hc o2 (hg B2 vs zs rv rz) (.inl ⟨_, _, hR, fun v B' as' H' g o' r' => ?_⟩)⟩
    obtain ⟨g3, o3⟩ := back0 o2 g o'
    exact q v B' as2 H' (g1.trans (g2.trans g3)) (p1.trans p2) o3 r'
theorem ex_callNX (h1 : EvA K ta G M (ds.map Sl.d) M1) (h2 : EvA K tk G M1 (es.map Sl.d) M2) (hn : ds.length = n) (hm : es.length = m) (hg : ∀ B vs zs, RpL K B ds vs → RpL K B es zs → RpL K B cs (gV vs zs)) (hc : cs.length = N) (hR : RX (cs.map Sl.d) [] x []) :
    EvX K (tCallNX n m (SpX K N R RX) gV (WE W) ta tk) W G M x M2 := fun F B as σ H ow sl q Q =>
  h1 F B as σ H ow sl _ fun vs B1 as1 H1 g1 p1 o1 r1 => h2 F B1 as1 σ H1 o1 (sl.mono g1.1 p1) _ fun zs B2 as2 H2 g2 p2 o2 r2 => by
    have rv := RpL.mono g2.1 _ _ (SlL.data r1)
    have rz := SlL.data r2
    refine ⟨by rw [rv.len]; exact hn, by rw [rz.len]; exact hm, call_coreX hc o2 (hg B2 vs zs rv rz) (.inr ⟨_, _, hR, fun cls d B' as' H' g o' r' => ?_⟩)⟩
    obtain ⟨g3, o3⟩ := back0 o2 g o'
    exact q B' as2 H' cls d (g1.trans (g2.trans g3)) (p1.trans p2) o3 r'
end
end LJ
namespace LJ
open PySem PySem.Spec PyProof.Rows L2 LamX DJ
/-! ### a, b, c = x, y, z -/
theorem es_par3 {K : PySem.W.Frag} {G : List (Option Sl)} {M M1 : List MO} {i j l : Nat} {t : TA} {x y z : Sl} (h : EvA K t G M [x, y, z] M1) : EvS K (tPar3 i j l t) G M (.nx (((G.set i (some x)).set j (some y)).set l (some z)) M1) := fun F B as σ H ow sl D gd =>
  h F B as σ H ow sl _ fun vs B' as' H' g p o' r => by
    obtain ⟨v, r1, e1, h1, w, r2, e2, h2, u, r3, e3, h3, e4⟩ := r
    have e4 : r3 = [] := e4
    subst e4; subst e3; subst e2; subst e1
    exact ⟨v, w, u, rfl, gd B' as' _ H' g p o' ((((sl.mono g.1 p).set i h1).set j h2).set l h3)⟩
end LJ
namespace LJ
open PySem PySem.Spec PyProof.Rows L2 LamX DJ
section
variable {K : PySem.W.Frag} {G : List (Option Sl)} {M : List MO}
/-- the second owned thing is handed on -/
theorem ev_w1 {E : XK} {n : Nat} {R : List Sl → List MO → Sl → List MO → Prop} {ta : TA} {ds : List Dt} {t m m' : MO} {z : Dt} (h : EvA K ta G M (.o 1 :: ds.map Sl.d) [t, m]) (hg : m ≠ .gone) (hR : R (.o 0 :: ds.map Sl.d) [m] (.d z) [m']) (hg' : m' ≠ .gone) (hn : ds.length + 1 = n) :
    EvE K (tCall (SpR K n R) [] E ta) G M (.d z) [t, m'] := by
  have e : (.o 1 :: ds.map Sl.d : List Sl).map (to0 1) = .o 0 :: ds.map Sl.d := by
    rw [List.map_cons, List.map_map]
    congr 1
  have := ev_call1 (k := 1) (es := []) (dvs := []) (E := E) (n := n) (R := R) (z := z) h rfl hg (fun s hs j e => ?_) (by rw [e, List.map_nil, List.append_nil]; exact hR) hg' (by rw [List.length_cons, List.length_map]; exact hn) (fun _ => rfl)
  · exact this
  · rcases List.mem_cons.mp hs with z | z
    · rw [e] at z; cases z; rfl
    · obtain ⟨d, _, hd⟩ := List.mem_map.mp z
      rw [e] at hd; cases hd
end
section
variable {P : Program} {w : World} {K : PySem.W.Frag} {mg : Str → Option Value} {base : Heap}
/-- a def whose code object is known -/
theorem fn_mkT {x : Str} {st : Stmt} {N ps : List Str} {k n : Nat} {R : List Sl → List MO → Sl → List MO → Prop} {f c : Addr} {oc : Value} {od an : Option Addr} {osl : Array (Option Value)} {kV doc pm ct : Value}
    (lk : K.lookup f = some ⟨oc, od, .func (PySem.W.fnOf x x (defArgs st) (defBody st) (defScope st) .none kV doc pm an (.ref c) ct), osl⟩) (hcd : PySem.W.codeIn K (.ref c) x = true) (S : FnScope N ps (defScope st)) (hn : ps.length = n)
    (hb : ∀ (A : Around) (outer : List Env) (s : Shared) (H : Hp) (E : XK), Room k (A.deeper (envOfC x (defScope st) s.heap.objs.size f (.ref c))) → ∀ ss M r M', R ss M r M' →
      ∃ t X, PSs (cxOf CX0 P w K mg base N x (defScope st) f (.ref c) A outer s H E).nox (defBody st) t ∧ EvS K t (DJ.start N.length ss) M (.rt r (M' ++ X)) ∧ M.length ≤ M'.length ∧ ∀ j, r = .o j → j < M'.length) :
    FnOk P w K mg base CX0 (k + 1) f (PySem.W.fnOf x x (defArgs st) (defBody st) (defScope st) .none kV doc pm an (.ref c) ct) ps (SpR K n R) := by
  refine fn_of lk hcd S (fun vs H Q E h => ?_) (fun A outer s H vs Q E hr h => ?_)
  · obtain ⟨_, _, _, _, _, _, _, _, _, _, e, _⟩ := h
    rw [e, hn]
  · obtain ⟨F', B, as, ss, M, r, M', hR, ow, sl, _, q⟩ := h
    obtain ⟨t, X, ht, he, hl, hr'⟩ := hb A outer s H E hr ss M r M' hR
    exact ⟨t, PSs.nox ht, run_body (X := X) he hl hr' ow sl q⟩
end
section
variable {X : Cx}
/-- x(lambda: body, ..), x a def of the row -/
theorem pe_lamD {TT : (XK → Hp → VK → Prop) → Addr → List V → Hp → VK → Prop} {x a : Str} {st : Stmt} {c P : Addr} {k : Nat} {Ng ps : List Str} {pr : Arguments} {bd : Expr} {sc : Scope} {es : List Expr} {ta : TA} {t : XK → TE} {dfl : Option Int} {p lpos pos : Pos}
    (D : Df X.K X.mg x st ps) (hg : Gl X x) (Sg : FnScope Ng ps (defScope st)) (hNg : Ng[0]? = some a) (hva : Vis (defScope st) a) (hlen : ∀ tl c' vs H Q, TT tl c' vs H Q → (V.ref c' :: vs).length = ps.length)
    (hG : ∀ (g : Addr) (cdg : Value), GivesG X Ng x (defScope st) g cdg (defBody st) a (X.env.qual ++ "<lambda>") TT)
    (TB : TabB X.base X.mg c P) (hcode : X.env.code = .ref c) (hr : Room (k + 2) X.A) (L : LamN X.N X.env.scope sc) (df : Dfl pr X.env dfl) (lb : LamB pr bd sc dfl) (ha : PA X es ta)
    (hbody : ∀ (A : Around) (outer : List Env) (s : Shared) (H : Hp) (E : XK) (f c' : Addr), Room k (A.deeper (lamEnv X sc s.heap.objs.size f c')) → PE (lamCx X A outer s H E sc f c') bd (t E))
    (hdb : (x == ("__debug__" : Str)) = false := by decide) (hd : (a == ("__debug__" : Str)) = false := by decide) (hcd : (a == ("__classdict__" : Str)) = false := by decide)
    (hst : starEach (.Lambda pr bd sc lpos :: es) X.env = (false, eval (.Lambda pr bd sc lpos) X.env) :: starEach es X.env := by rfl) (hpl : (backTo pos (starEach es X.env)).any (·.1) = false := by rfl)
    (hbt : backTo pos ((false, eval (.Lambda pr bd sc lpos) X.env) :: starEach es X.env) = (false, eval (.Lambda pr bd sc lpos) X.env) :: backTo pos (starEach es X.env) := by rfl) :
    PE X (.Call (.Name x p) (.Lambda pr bd sc lpos :: es) [] pos) (tLamG (X.env.qual ++ "<lambda>") P lpos TT ta t) := by
  obtain ⟨f, fd, F, hm, hb⟩ := D.ex
  obtain ⟨oc, od, kV, doc, pm, an, cdv, ct, osl, rfl, lk, hcd'⟩ := F.ex
  exact pe_lamG (n := 0) hg hm F.kp lk hcd' hb Sg hNg hva hlen (hG f cdv) TB hcode hr L df lb ha hbody hdb hd hcd hst hpl hbt
theorem lam_takes {A : Around} {outer : List Env} {s : Shared} {H : Hp} {E : XK} {sc : Scope} {f c' : Addr} : Takes (lamCx X A outer s H E sc f c') (fun cls d _ H => E cls d H) := takes_of rfl rfl rfl rfl
end
/-- the law's promise from a table that it owns -/
theorem sp_ofT {K : PySem.W.Frag} {R : List Sl → List MO → Sl → List MO → Prop} {H : Hp} {a P : Addr} {q : Str} {ns : List Int} {E : XK} (hP : H P = some (.tbl #[])) (hS : SqL K H a (ns.map V.int)) (hR : R [.d (.lst (ns.map .int))] [tabM P q] (.d (.bl true)) [tabM P q]) : SpR K 1 R [.ref a] H (fun v _ => v = .bl true) E := by
  have same : Same (del H P) H := fun b o e => by
    by_cases z : b = P
    · rw [z, del_same] at e; cases e
    · rwa [del_ne z] at e
  have hS' : SqL K (del H P) a (ns.map V.int) := by
    rcases hS with h | h
    · have ne : a ≠ P := fun z => by
        rw [z] at h
        rcases h with h | ⟨o, h⟩ <;> rw [hP] at h <;> cases h
      exact .inl (h.imp (fun h => by rwa [del_ne ne]) fun ⟨o, h⟩ => ⟨o, by rwa [del_ne ne]⟩)
    · exact .inr h
  have ri : ∀ ns : List Int, RpL K (del H P) (ns.map Dt.int) (ns.map V.int) := fun ns => by
    induction ns with
    | nil => rfl
    | cons n ns ih => exact ⟨_, _, rfl, rfl, ih⟩
  refine ⟨fun _ => none, del H P, [P], _, [tabM P q], _, [tabM P q], hR, ⟨fun _ _ e => (nomatch e), same, rfl, List.nodup_cons.mpr ⟨(fun z => nomatch z), List.nodup_nil⟩, fun b hb => ?_, fun _ _ => rfl, fun k b m e1 e2 _ => ?_⟩, ⟨.ref a, [], rfl, ⟨a, _, rfl, hS', ri ns⟩, rfl⟩, rfl, fun v B' as' H' _ _ _ r => r⟩
  · rw [List.mem_singleton.mp hb, hP]; exact fun z => nomatch z
  · cases k with
    | zero =>
      cases e1; cases e2
      exact ⟨rfl, del_same, _, hP, (fun _ z => nomatch z), (fun B' _ => ⟨rfl, _, rfl, trivial, (fun p u z => nomatch z)⟩)⟩
    | succ k => cases e1
end LJ
namespace LJ
open PySem PySem.Spec PyProof.Rows L2 LamX DJ
section
variable {K : PySem.W.Frag} {mg : Str → Option Value} {h : Heap}
/-- a def with one keyword-only parameter that has a whole number as default -/
theorem dfk_int {x y : Str} {st : Stmt} {i : Int} {t : Tok} {f D : Addr} {oc : Value} {od an : Option Addr} {osl : Array (Option Value)} {doc pm cdv ct : Value} (X : K.In h) (G : h.Ns mainGlobals mg) (a : PySem.W.nsIn K mainGlobals x = some (some (.ref f)))
    (l : K.lookup f = some ⟨oc, od, .func (PySem.W.fnOf x x (defArgs st) (defBody st) (defScope st) .none (.ref D) doc pm an cdv ct), osl⟩) (c : PySem.W.codeIn K cdv x = true) (k : PySem.W.keepIn K (.ref f) = true) (kw : PySem.W.nsIn K D y = some (some (.int i t))) : DfK K mg x st [(y, .int i)] :=
  ⟨f, _, ⟨⟨oc, od, .none, .ref D, doc, pm, an, cdv, ct, osl, rfl, l, c, .inl ⟨rfl, rfl⟩, .inr ⟨D, rfl, fun q hq => by
    rw [List.mem_singleton.mp hq]
    exact ⟨_, kw, ⟨_, rfl⟩⟩⟩⟩, k⟩, PySem.W.mg_of X G a⟩
/-- a class's __init__ with the default None -/
theorem init_none {qn : Str} {st : Stmt} {fI T : Addr} {oc : Value} {od an : Option Addr} {osl qs : Array (Option Value)} {qc : Value} {qo : Option Addr} {qi : Array Value} {qk : Nat} {kV doc pm cdv ct : Value}
    (l : K.lookup fI = some ⟨oc, od, .func (PySem.W.fnOf "__init__" qn (defArgs st) (defBody st) (defScope st) (.ref T) kV doc pm an cdv ct), osl⟩) (c : PySem.W.codeIn K cdv qn = true) (k : PySem.W.keepIn K (.ref fI) = true) (r : K.lookup T = some ⟨qc, qo, .seq qi qk, qs⟩) (e : qi = #[.none]) :
    FunD K "__init__" qn (defArgs st) (defBody st) (defScope st) [.non] [] fI (PySem.W.fnOf "__init__" qn (defArgs st) (defBody st) (defScope st) (.ref T) kV doc pm an cdv ct) := by
  subst e
  exact ⟨⟨oc, od, .ref T, kV, doc, pm, an, cdv, ct, osl, rfl, l, c, .inr ⟨List.cons_ne_nil _ _, T, _, [.none], qk, rfl, r, rfl, .cons rfl .nil⟩, .inl rfl⟩, k⟩
end
end LJ
namespace LJ
open PySem PySem.Spec PyProof.Rows L2 LamX DJ
section
variable {K : PySem.W.Frag} {G : List (Option Sl)} {M M1 M2 : List MO}
/-- one owned thing of several is handed on -/
theorem ev_wG {E : XK} {n k : Nat} {R : List Sl → List MO → Sl → List MO → Prop} {ta : TA} {ds : List Dt} {m m' : MO} {z : Dt} (h : EvA K ta G M (.o k :: ds.map Sl.d) M1) (hm : M1[k]? = some m) (hg : m ≠ .gone) (hR : R (.o 0 :: ds.map Sl.d) [m] (.d z) [m']) (hg' : m' ≠ .gone) (hn : ds.length + 1 = n) :
    EvE K (tCall (SpR K n R) [] E ta) G M (.d z) (M1.set k m') := by
  have e : (.o k :: ds.map Sl.d : List Sl).map (to0 k) = .o 0 :: ds.map Sl.d := by
    rw [List.map_cons, List.map_map]
    show (if k = k then Sl.o 0 else .o k) :: _ = _
    rw [if_pos rfl]
    congr 1
  refine ev_call1 (k := k) (es := []) (dvs := []) (E := E) (n := n) (R := R) (z := z) h hm hg (fun s hs j e => ?_) (by rw [e, List.map_nil, List.append_nil]; exact hR) hg' (by rw [List.length_cons, List.length_map]; exact hn) (fun _ => rfl)
  rcases List.mem_cons.mp hs with z | z
  · rw [e] at z; cases z; rfl
  · obtain ⟨d, _, hd⟩ := List.mem_map.mp z
    rw [e] at hd; cases hd
/-- all that is owned is handed on -/
theorem ev_callA {E : XK} {n : Nat} {R : List Sl → List MO → Sl → List MO → Prop} {ta : TA} {ss : List Sl} {z : Dt} (h : EvA K ta G M ss M1) (hR : R ss M1 (.d z) M2) (hn : ss.length = n) : EvE K (tCall (SpR K n R) [] E ta) G M (.d z) M2 := fun F B as σ H ow sl Q q =>
  h F B as σ H ow sl _ fun vs B1 as1 H1 g1 p1 o1 r1 => by
    refine ⟨F, B1, as1, ss, M1, .d z, M2, hR, o1, by rw [List.append_nil]; exact r1, by rw [List.append_nil, r1.len]; exact hn, fun v B' as' H' g p o' r' => q v B' as' H' (g1.trans g) (p1.trans p) o' r'⟩
/-- [..].index(x) of texts and None -/
def vO : Option (List Nat) → V
  | some l => .str (tx l)
  | none => .non
theorem vO_eq (a b : Option (List Nat)) : eqV (vO a) (vO b) = decide (a = b) := by
  cases a with
  | none => cases b with
    | none => rfl
    | some m => rfl
  | some l => cases b with
    | none => rfl
    | some m =>
      show decide (tx l = tx m) = _
      by_cases e : l = m
      · subst e; simp
      · rw [decide_eq_false (fun h => e (tx_inj h)), decide_eq_false (fun z => e (by injection z))]
theorem rp_oS {B : Hp} {o : Option (List Nat)} {v : V} (h : Rp K B (oS o) v) : v = vO o := by
  cases o with
  | none => exact h
  | some l => exact h
theorem rpl_oS {B : Hp} : ∀ {xs : List (Option (List Nat))} {vs : List V}, RpL K B (xs.map oS) vs → vs = xs.map vO
  | [], _, h => h
  | o :: xs, _, ⟨v, r, e, h1, h2⟩ => by
    rw [e, rp_oS h1, rpl_oS h2] <;> rfl
theorem flat_oS : ∀ xs : List (Option (List Nat)), (xs.map vO).all flatV = true
  | [] => rfl
  | none :: xs => flat_oS xs
  | some l :: xs => flat_oS xs
theorem ev_idx {to te : TE} {xs : List (Option (List Nat))} {o : Option (List Nat)} {j : Nat} (h : EvE K to G M (.d (.lst (xs.map oS))) M1) (h2 : EvE K te G M1 (.d (oS o)) M2) (hj : xs[j]? = some o) (hn : ∀ m, m < j → xs[m]? ≠ some o) :
    EvE K (tBM K "list" (rIndex K) to (tCons te tNil)) G M (.d (.int (j : Nat))) M2 := fun F B as σ H ow sl Q q =>
  h F B as σ H ow sl _ fun v B1 as1 H1 g1 p1 o1 r1 => by
    obtain ⟨a, vs, rfl, hs, hr⟩ := r1
    have e := rpl_oS hr
    subst e
    refine ⟨.inl ⟨rfl, _, o1.bb.seq hs⟩, h2 F B1 as1 σ H1 o1 (sl.mono g1.1 p1) _ fun u B2 as2 H2 g2 p2 o2 r2 => ?_⟩
    have eu := rp_oS r2
    subst eu
    have hs2 : SqL K B2 a (xs.map vO) := g2.1.seq hs
    refine ⟨a, xs.map vO, vO o, j, vO o, rfl, rfl, o2.bb.seq hs2, by cases o <;> rfl, flat_oS xs, by rw [List.getElem?_map, hj] <;> rfl, by rw [vO_eq, decide_eq_true rfl], fun m z' hm hz => ?_, q _ B2 as2 H2 (g1.trans g2) (p1.trans p2) o2 rfl⟩
    rw [List.getElem?_map] at hz
    cases e : xs[m]? with
    | none => rw [e] at hz; cases hz
    | some y =>
      rw [e] at hz
      have hz : vO y = z' := Option.some.inj hz
      rw [← hz, vO_eq, decide_eq_false]
      intro z
      exact hn m hm (by rw [e, z])
end
section
variable {P : Program} {w : World} {K : PySem.W.Frag} {mg : Str → Option Value} {base h : Heap}
/-- a def whose code object is known -/
structure DfT (K : PySem.W.Frag) (mg : Str → Option Value) (x : Str) (st : Stmt) (ps : List Str) (c : Addr) : Prop where
  ex : ∃ (f : Addr) (oc : Value) (od an : Option Addr) (osl : Array (Option Value)) (kV doc pm ct : Value), K.lookup f = some ⟨oc, od, .func (PySem.W.fnOf x x (defArgs st) (defBody st) (defScope st) .none kV doc pm an (.ref c) ct), osl⟩ ∧ PySem.W.codeIn K (.ref c) x = true ∧
    PySem.W.keepIn K (.ref f) = true ∧ mg x = some (.ref f) ∧ L2.Binds K (PySem.W.fnOf x x (defArgs st) (defBody st) (defScope st) .none kV doc pm an (.ref c) ct) ps []
theorem cal_mkT {x : Str} {st : Stmt} {N ps : List Str} {k n : Nat} {R : List Sl → List MO → Sl → List MO → Prop} {c : Addr} (D : DfT K mg x st ps c) (S : FnScope N ps (defScope st)) (hn : ps.length = n)
    (hb : ∀ (f : Addr) (A : Around) (outer : List Env) (s : Shared) (H : Hp) (E : XK), Room k (A.deeper (envOfC x (defScope st) s.heap.objs.size f (.ref c))) → ∀ ss M r M', R ss M r M' →
      ∃ t X, PSs (cxOf CX0 P w K mg base N x (defScope st) f (.ref c) A outer s H E).nox (defBody st) t ∧ EvS K t (DJ.start N.length ss) M (.rt r (M' ++ X)) ∧ M.length ≤ M'.length ∧ ∀ j, r = .o j → j < M'.length) : Cal P w K mg base (k + 1) x (SpR K n R) [] := by
  obtain ⟨f, oc, od, an, osl, kV, doc, pm, ct, lk, hcd, kp, hm, hbd⟩ := D.ex
  exact ⟨f, _, ps, [], fn_mkT lk hcd S hn (hb f), hm, kp, hbd, .nil⟩
theorem dft_mk {x : Str} {st : Stmt} {ps : List Str} {f c : Addr} {oc : Value} {od an : Option Addr} {osl : Array (Option Value)} {kV doc pm ct : Value} (X : K.In h) (G : h.Ns mainGlobals mg) (a : PySem.W.nsIn K mainGlobals x = some (some (.ref f)))
    (l : K.lookup f = some ⟨oc, od, .func (PySem.W.fnOf x x (defArgs st) (defBody st) (defScope st) .none kV doc pm an (.ref c) ct), osl⟩) (hc : PySem.W.codeIn K (.ref c) x = true) (k : PySem.W.keepIn K (.ref f) = true)
    (hb : ∀ (kV doc pm : Value) (an : Option Addr) (cdv ct : Value) (us : List Value), us.length = ps.length → bindArgs (PySem.W.fnOf x x (defArgs st) (defBody st) (defScope st) .none kV doc pm an cdv ct) ⟨us, []⟩ = pure (ps.zip us)) : DfT K mg x st ps c :=
  ⟨f, oc, od, an, osl, kV, doc, pm, ct, l, hc, k, PySem.W.mg_of X G a, (fun_mk l hc k).binds hb⟩
end
end LJ
namespace PySem.W
open PySem PySem.Spec PySem.Calls PyProof.Rows
section
variable {prog : Program} {w : World} {A : Around} {E : Value → Shared → Prop} {s : Shared} {K : Frag} {x D : Addr} {ox : Obj} {od : Option Obj}
/-- a data descriptor stands ahead of what an instance's own dict holds -/
theorem dj_found {C : Addr} {nm : Str} {a g : Value} (hc : (clsIn K C).isSome = true) (f1 : findIn K (.ref C) nm = some (some a)) (f2 : specialIn K a "__get__" = some (some g)) (f3 : takesIn K a = some true) : findObj K C od nm = some (.bind g a) := by
  cases hq : clsIn K C with
  | none => rw [hq] at hc; cases hc
  | some cd =>
    unfold findObj
    simp [hq, f1, f2, f3]
/-- the class of a caught error, whatever its dict holds -/
theorem dj_class {Q : Option Value → Shared → Prop} (c1 : findIn K (.ref D) "__getattribute__" = some (some (.builtin "BaseException.__getattribute__"))) (c2 : findIn K (.ref D) "__getattr__" = some none) (c3 : subIn K (.ref D) (.type "BaseException") = some true)
    (c4 : hasDictIn K D = true) (c5 : findIn K (.ref D) "__class__" = some (some (.builtin "object.__class__")))
    (c6 : specialIn K (.builtin "object.__class__") "__get__" = some (some (.builtin "getset_descriptor.__get__"))) (c7 : takesIn K (.builtin "object.__class__") = some true) (c8 : mroIn K D (.type "object") = some true)
    (X : K.In s.heap) (I : InstAt s.heap x ox D od) (want : Q (some (.ref D)) { s with toks := s.toks + 1 }) : wpAny (model prog w) A (getAttr? (.ref x) "__class__") Q E s := by
  obtain ⟨hp, gn, dr, tk, os⟩ := s
  have isE : (Value.builtin "BaseException.__getattribute__" == Value.builtin "object.__getattribute__") = false := by decide +kernel
  have lT := I.type (M := model prog w)
  have lA := looks_findIn (M := model prog w) X c1
  have lB := looks_findIn (M := model prog w) X c2
  have lF := looks_find (M := model prog w) X I (dj_found (od := od) (by
    obtain ⟨cd, e, _⟩ := any_some c4
    rw [e]
    rfl) c5 c6 c7)
  have lS : Looks (model prog w) hp (isInstance (.ref x) (.type "BaseException")) true := lT.andThen (looks_subIn X c3)
  unfold getAttr? getAttrBy? getAttrBy
  refine wpAny_bind (wpAny_mkText ?_)
  refine wpAny_bind (wpAny_attempt ?_)
  refine wpAny_holding (wpAny_bind ?_)
  refine lT.at (wpAny_bind ?_)
  refine lA.at ?_
  show wpAny _ _ (if (true && Value.builtin "BaseException.__getattribute__" == Value.builtin "object.__getattribute__") = true then _ else _) _ _ _
  rw [isE, Bool.and_false, if_neg (by decide)]
  unfold getAttrByItsOwn hookBefore
  refine wpAny_bind ?_
  rw [if_pos (by rfl)]
  refine lB.at (wpAny_bind ?_)
  refine wpAny_attempt (wpAny_holding ?_)
  unfold callGetattribute
  rw [show (false && onTheHeap (Value.builtin "BaseException.__getattribute__")) = false from rfl, if_neg (by decide)]
  unfold boundAndCalled
  rw [PySem.F.excAttr_ValueError.ga.bind (.ref x)]
  refine wpAny_bind (wpAny_pure ?_)
  show wpAny _ _ (call (.builtin "BaseException.__getattribute__") [.ref x, .str "__class__" tk]) _ _ _
  refine wpAny_call ?_
  refine codeAny_call_builtin PySem.F.excAttr_ValueError.ga.plain PySem.F.entry_bexc_ga ?_
  refine @check_slot (model prog w) _ _ ⟨hp, gn, dr, tk + 1, os⟩ "BaseException.__getattribute__" "BaseException" "__getattribute__" (.ref x) [.str "__class__" tk] [] _
    (by decide +kernel) (by decide +kernel) lS (PySem.F.args_bexc_ga (.ref x) (.str "__class__" tk)) ?_
  unfold Builtin.«object.__getattribute__»
  refine wpAny_bind (wpAny_of_eq (a := ((Value.ref x : Value), [Value.str "__class__" tk])) (by first
    | rfl
    | (simp only [slotArgs]; rfl)) ?_)
  refine wpAny_bind (wpAny_pure ?_)
  refine wpAny_bind (lT.at ?_)
  refine wpAny_bind (lF.at ?_)
  show wpAny _ _ (holding [Value.builtin "object.__class__"] (call (.builtin "getset_descriptor.__get__") [.builtin "object.__class__", .ref x, .ref D]) >>= ret) _ _ _
  refine wpAny_bind (wpAny_holding ?_)
  refine wpAny_call (class_get (s := ⟨hp, gn, dr, tk + 1, os⟩) (ox := ox) (od := od) X I c8 ?_)
  refine wpAny_pure ?_
  show wpAny _ _ (handedOut (.ref D)) _ _ _
  rw [handedOut_of (v := .ref D) rfl]
  first
    | exact wpAny_pure (wpAny_pure want)
    | exact wpAny_pure want
    | exact wpAny_pure (wpAny_bind (wpAny_pure (wpAny_pure want)))
end
end PySem.W
namespace L2
open PySem PySem.Spec PyProof.Rows DJ
/-- isinstance(e, c), e a caught error that keeps something -/
def rIsX (K : PySem.W.Frag) (D a : Addr) (cls : Value) (d : Option Addr) : List V → Hp → VK → Prop := fun xs H Q => ∃ (c : V) (cv : Value) (b : Bool) (dd : Addr) (fs : List (Str × V)), xs = [.ref a, c] ∧ cls = .ref D ∧ d = some dd ∧ H dd = some (.xd fs) ∧ (∀ u, RelV c u → u = cv) ∧ PySem.W.kitOne K (.ref D) cv = some b ∧ Q (.bl b) H
theorem call_isX {X : Cx} {a D : Addr} {cls : Value} {d : Option Addr} {oe : Obj} {pn : List (Addr × Obj)} (C : ExcC X.K D) (hz : Zc cls d oe) (hf : ∃ vs, oe.data = .fields vs) : CallR (X.suite a ((a, oe) :: pn)) (.builtin "isinstance") (rIsX X.K D a cls d) := by
  intro pins s σ H xs us Q I r h
  obtain ⟨c, cv, b, dd, fs, rfl, rfl, rfl, hd, hcv, e, q⟩ := h
  obtain ⟨u1, u2, rfl, r1, r2⟩ := r.two
  cases (show u1 = Value.ref a from r1)
  cases hcv _ r2
  obtain ⟨hget, _⟩ := I.pin (a, oe) (List.mem_append.mpr (.inl List.mem_cons_self))
  obtain ⟨vs, hv⟩ := hf
  obtain ⟨mA, ⟨o, es, ep, ho, _⟩, _⟩ := (show ObjOk X.prog X.w H s.heap dd (.xd fs) from I.hok dd _ hd)
  obtain ⟨oc, od, oda, osl⟩ := oe
  obtain ⟨h1, h2⟩ := hz
  have h1 : oc = .ref D := h1
  have h2 : od = some dd := h2
  have hv : oda = .fields vs := hv
  subst h1; subst h2; subst hv
  have J : ∃ o, PySem.W.InstAt s.heap a ⟨.ref D, some dd, .fields vs, osl⟩ D (some o) := ⟨o, hget, rfl, rfl, ho⟩
  have cd : ∃ cd, PySem.W.clsIn X.K D = some cd := by
    obtain ⟨cd, e, _⟩ := PySem.W.any_some C.hd
    exact ⟨cd, e⟩
  have Z : PySem.W.KitX X.K (.ref a) (.ref D) (fun h => ∃ o, PySem.W.InstAt h a ⟨.ref D, some dd, .fields vs, osl⟩ D (some o)) := by
    refine ⟨fun M h X I => I.elim fun o I => I.type, fun M h XX _ => ?_, fun h tp d0 its n sl XX htp => ?_, fun XX I k => I.elim fun o I => PySem.W.dj_class C.hg C.hk C.hs C.hd C.ha C.hn C.ht C.hm XX I k⟩
    · obtain ⟨cd, hcd⟩ := cd
      unfold PySem.W.clsIn at hcd
      split at hcd
      · rename_i c2 d2 cd2 sl2 ho2
        intro A2 Q2 E2 s2 keep q2
        unfold isType loadHead
        refine wpAny_bind ?_
        exact wpAny_loadPart (keep _ _ (XX _ _ ho2)) (wpAny_pure q2)
      · cases hcd
    · obtain ⟨cd, hcd⟩ := cd
      rcases hb : (Value.ref D == Value.ref tp) with _ | _
      · rfl
      · have same : D = tp := Value.ref.inj (beq_iff_eq.mp hb)
        subst same
        unfold PySem.W.clsIn at hcd
        split at hcd
        · rename_i c2 d2 cd2 sl2 ho2
          have clash := (XX _ _ ho2).symm.trans htp
          cases clash
        · cases hcd
  exact PySem.W.kia_one Z I.kIn J e (fun z => nomatch z) fun tk => ⟨.bl b, H, I.kept (t' := tk) fun _ _ z => z, rfl, q⟩
end L2
namespace LJ
open PySem PySem.Spec PyProof.Rows L2 LamX DJ
/-! ### kinds of things -/
inductive KT : Dt → String → Prop where
  | non : KT .non "NoneType"
  | bl (b : Bool) : KT (.bl b) "bool"
  | int (i : Int) : KT (.int i) "int"
  | str (x : List Nat) : KT (.str x) "str"
  | lst (xs : List Dt) : KT (.lst xs) "list"
  | tup (xs : List Dt) : KT (.tup xs) "tuple"
  | dic : KT dic0 "dict"
def tupX (K : PySem.W.Frag) (xs : List Dt) : Dt := .ext fun H v => ∃ p vs, v = .ref p ∧ H p = some (.tup vs) ∧ RpL K H xs vs
section
variable {K : PySem.W.Frag} {B : Hp} {d : Dt} {t : String} {b : Bool} {G : List (Option Sl)} {M M1 : List MO}
theorem KT.at (k : KT d t) {F : Hp} {as : List Addr} {M : List MO} {H : Hp} {v : V} (ow : Ow K F B as M H) (r : Rp K B d v) : TyX K H v (.type t) := by
  cases k with
  | non => cases (show v = .non from r); exact .base .non
  | bl x => cases (show v = .bl x from r); exact .base (.bl x)
  | int x => cases (show v = .int x from r); exact .base (.int x)
  | str x => cases (show v = .str (tx x) from r); exact .base (.str _)
  | lst xs =>
    obtain ⟨a, vs, rfl, h1, h2⟩ := r
    rcases h1 with (h | ⟨o, h⟩) | ⟨o, its, n, h, hc, _⟩
    · exact .base (.lst (ow.bb _ _ h))
    · exact .base (.frz (ow.bb _ _ h))
    · exact .kList h hc
  | tup xs =>
    obtain ⟨a, vs, rfl, h1, h2⟩ := r
    rcases h1 with (h | ⟨o, h⟩) | ⟨o, its, n, h, hc, _⟩
    · exact .base (.tup (ow.bb _ _ h))
    · exact .fTuple (ow.bb _ _ h)
    · exact .kTuple h hc
  | dic =>
    obtain ⟨a, rfl, h⟩ := r B (Same.refl B)
    exact .base (.dK (ow.bb _ _ h))
theorem rc_isN {n : String} (k : KT d t) (hb : kitB t n = some b) : RC K (rIsi K) [d, .raw (.ty n)] (.bl b) := fun F B as M H vs Q ow r q => by
  obtain ⟨v, r1, e1, h1, w, r2, e2, h2, e3⟩ := r
  have h2 : w = V.ty n := h2
  have e3 : r2 = [] := e3
  subst e3; subst e2; subst e1; subst h2
  exact ⟨v, _, _, _, b, rfl, .ty n, k.at ow h1, kit_ty hb, q _ B H (Gr.refl F B) ow rfl⟩
theorem ev_tupX {tr : TA} {xs : List Dt} (ha : EvA K tr G M (xs.map Sl.d) M1) (hl : xs.length ≤ 1000) : EvE K (tTup tr) G M (.d (tupX K xs)) M1 := fun F B as σ H o sl Q q =>
  ha F B as σ H o sl _ fun vs B1 as1 H1 g1 p1 o1 r1 => ⟨by rw [r1.len, List.length_map]; exact Nat.le_trans hl (by decide), fun p hp => by
    have g2 := o1.gr hp (.tup vs)
    exact q _ _ as1 _ (g1.trans g2) p1 (o1.new hp _) fun H' s => ⟨p, vs, rfl, s _ _ upd_same, RpL.mono (g2.1.trans s) _ _ (SlL.data r1)⟩⟩
theorem rc_isT {n m : String} {b1 b2 : Bool} (k : KT d t) (h1 : kitB t n = some b1) (h2 : kitB t m = some b2) : RC K (rIsiT K) [d, tupX K [.raw (.ty n), .raw (.ty m)]] (.bl (b1 || b2)) := fun F B as M H vs Q ow r q => by
  obtain ⟨v, r1, e1, hv, w, r2, e2, hw, e3⟩ := r
  have e3 : r2 = [] := e3
  subst e3; subst e2; subst e1
  obtain ⟨p, us, rfl, hp, hu⟩ := hw B (Same.refl B)
  obtain ⟨x1, y1, f1, g1, x2, y2, f2, g2, f3⟩ := hu
  have g1 : x1 = V.ty n := g1
  have g2 : x2 = V.ty m := g2
  have f3 : y2 = [] := f3
  subst f3; subst f2; subst f1; subst g1; subst g2
  refine ⟨v, p, _, _, [.type n, .type m], b1 || b2, rfl, ow.bb _ _ hp, .cons (.ty n) (.cons (.ty m) .nil), k.at ow hv, ?_, q _ B H (Gr.refl F B) ow rfl⟩
  have k1 : PySem.W.kitOne K (.type t) (.type n) = some b1 := kit_ty h1
  have k2 : PySem.W.kitOne K (.type t) (.type m) = some b2 := kit_ty h2
  show (match PySem.W.kitOne K (.type t) (.type n) with
    | some true => some true
    | some false => (match PySem.W.kitOne K (.type t) (.type m) with
      | some true => some true
      | some false => some false
      | none => none)
    | none => none) = _
  rw [k1, k2]
  cases b1 <;> cases b2 <;> rfl
theorem rc_isX {D a : Addr} {dd : Option Addr} {f : Str} {y : Dt} {C2 : Addr} (hk : PySem.W.kitOne K (.ref D) (.ref C2) = some b) : RC K (rIsX K D a (.ref D) dd) [XfR K a dd f y, .raw (.ref C2)] (.bl b) := fun F B as M H vs Q ow r q => by
  obtain ⟨v, r1, e1, hv, w, r2, e2, hw, e3⟩ := r
  have e3 : r2 = [] := e3
  have hw : w = V.ref C2 := hw
  subst e3; subst e2; subst e1; subst hw
  obtain ⟨rfl, d2, u, ed, eb, _⟩ := hv B (Same.refl B)
  exact ⟨_, .ref C2, b, d2, _, rfl, rfl, ed, ow.bb _ _ eb, fun u ru => ru, hk, q _ B H (Gr.refl F B) ow rfl⟩
end
/-! ### defs that want no guard to be up -/
structure FnG (P : Program) (w : World) (K : PySem.W.Frag) (mg : Str → Option Value) (base : Heap) (k : Nat) (f : Addr) (fd : FuncData) (ps : List Str) (sp : Sp) : Prop where
  len : ∀ vs H Q E, sp vs H Q E → vs.length = ps.length
  go : ∀ (A : Around) (outer : List Env) (s : Shared) (H : Hp) (args : Args) (us : List Value) (vs : List V) (Q : VK) (E : XK), A.guards = some [] → Room k A → Env0 P w K mg base A outer s H → BindsTo s fd args (ps.zip us) → Vals vs us → sp vs H Q E →
    codeAny (model P w) A (.call (.ref f) args) (CR CX0 outer P w H s Q E) s
structure CalG (P : Program) (w : World) (K : PySem.W.Frag) (mg : Str → Option Value) (base : Heap) (k : Nat) (x : Str) (sp : Sp) : Prop where
  ex : ∃ (f : Addr) (fd : FuncData) (ps : List Str), FnG P w K mg base k f fd ps sp ∧ mg x = some (.ref f) ∧ PySem.W.keepIn K (.ref f) = true ∧ L2.Binds K fd ps []
section
variable {P : Program} {w : World} {K : PySem.W.Frag} {mg : Str → Option Value} {base : Heap}
theorem fn_g {k : Nat} {f : Addr} {nm ql : Str} {pr : Arguments} {bd : List Stmt} {sc : Scope} {dV kV dc pm cv ct oc : Value} {an od : Option Addr} {sl : Array (Option Value)} {N ps : List Str} {sp : Sp}
    (lk : K.lookup f = some ⟨oc, od, .func (PySem.W.fnOf nm ql pr bd sc dV kV dc pm an cv ct), sl⟩) (hcd : PySem.W.codeIn K cv ql = true) (S : FnScope N ps sc) (len : ∀ vs H Q E, sp vs H Q E → vs.length = ps.length)
    (body : ∀ (A : Around) (outer : List Env) (s : Shared) (H : Hp) (vs : List V) (Q : VK) (E : XK), A.guards = some [] → Room k (A.deeper (envOfC ql sc s.heap.objs.size f cv)) → sp vs H Q E →
      ∃ t, PSs (cxOf CX0 P w K mg base N ql sc f cv A outer s H E) bd t ∧ t { nx := fun _ H' => Q .non H', rt := Q } (L2.start N vs) H) :
    FnG P w K mg base (k + 1) f (PySem.W.fnOf nm ql pr bd sc dV kV dc pm an cv ct) ps sp := by
  refine ⟨len, ?_⟩
  intro A outer s H args us vs Q E hgd hrm e0 bnd rel want
  have nvs := len _ _ _ _ want
  have inH : K.In s.heap := e0.mod.kin.keeps fun b o z => (e0.bs b o z).1
  have noLim : s.heap.NoLimit := e0.mod.nolimit.keeps fun b o z => (e0.bs b o z).1
  have kinds : ∀ y ∈ ps.zip us, sc.names.lookup y.1 = some .local ∨ (sc.names.lookup y.1 = some .cell ∧ ((cellsFrom (s.heap.objs.size + 1) sc.names []).lookup y.1).isSome = true) := by
    rintro ⟨n, v⟩ hy
    rcases S.par n (List.of_mem_zip hy).1 with z | z
    · exact Or.inl z
    · exact Or.inr ⟨z, PySem.W.cellsFrom_some _ _ _ (Or.inl z)⟩
  refine codeAny_call_function hrm.depth (inH _ _ lk) rfl S.co S.gen rfl (PySem.W.codeRec_of inH hcd) (bnd _ _ _ _ (wpAny_newFunctionEnv_cells S.kind kinds fun env henv s1 st => ?_))
  subst henv
  obtain ⟨t, ht, run⟩ := body A outer s H vs Q E hgd (hrm.deeper _) want
  have inv0 : L2.Inv (cxOf CX0 P w K mg base N ql sc f cv A outer s H E) [] (L2.start N vs) H s1 := inv_start S hrm.hd e0 nvs rel st
  refine ⟨noLim.keeps st.toInCall.keep, codeAny_func (wpAny_mono (ht.run [] s1 (L2.start N vs) H _ inv0 run) (fun fl s2 hs => ?_) fun _ _ z => z)⟩
  cases fl with
  | ret u =>
    obtain ⟨v, σ', H', J, rv, q⟩ := hs
    exact ⟨v, H', J.os, J.bare, J.base, J.hok, rv, q⟩
  | next =>
    obtain ⟨σ', H', J, q⟩ := hs
    exact ⟨.non, H', J.os, J.bare, J.base, J.hok, rfl, q⟩
  | brk => exact (let ⟨_, _, _, q⟩ := hs; q.elim)
  | cont => exact (let ⟨_, _, _, q⟩ := hs; q.elim)
theorem cal_mkG {x : Str} {st : Stmt} {N ps : List Str} {k n : Nat} {R : List Sl → List MO → Sl → List MO → Prop} (D : Df K mg x st ps) (S : FnScope N ps (defScope st)) (hn : ps.length = n)
    (hb : ∀ (f : Addr) (cdv : Value) (A : Around) (outer : List Env) (s : Shared) (H : Hp) (E : XK), (A.deeper (envOfC x (defScope st) s.heap.objs.size f cdv)).guards = some [] → Room k (A.deeper (envOfC x (defScope st) s.heap.objs.size f cdv)) → ∀ ss M r M', R ss M r M' →
      ∃ t X, PSs (cxOf CX0 P w K mg base N x (defScope st) f cdv A outer s H E).nox (defBody st) t ∧ EvS K t (DJ.start N.length ss) M (.rt r (M' ++ X)) ∧ M.length ≤ M'.length ∧ ∀ j, r = .o j → j < M'.length) : CalG P w K mg base (k + 1) x (SpR K n R) := by
  obtain ⟨f, fd, F, hm, b⟩ := D.ex
  obtain ⟨oc, od, kV, doc, pm, an, cdv, ct, osl, rfl, lk, hcd⟩ := F.ex
  refine ⟨f, _, ps, fn_g lk hcd S (fun vs H Q E h => ?_) (fun A outer s H vs Q E hgd hr h => ?_), hm, F.kp, b⟩
  · obtain ⟨_, _, _, _, _, _, _, _, _, _, e, _⟩ := h
    rw [e, hn]
  · obtain ⟨F', B, as, ss, M, r, M', hR, ow, sl, _, q⟩ := h
    obtain ⟨t, X, ht, he, hl, hr'⟩ := hb f cdv A outer s H E hgd hr ss M r M' hR
    exact ⟨t, ht.nox, run_body (X := X) he hl hr' ow sl q⟩
end
section
variable {X : Cx} {k j : Nat} {x : Str} {sp : Sp} {p pos : Pos} {e : Expr} {es : List Expr} {t : TA}
theorem pe_cG (c : CalG X.prog X.w X.K X.mg X.base k x sp) (hgd : X.A.guards = some []) (hr : Room j X.A) (hk : k ≤ j) (hg : Gl X x) (ha : PA X (e :: es) t)
    (hdb : (x == ("__debug__" : Str)) = false := by decide) (he : starEach (e :: es) X.env = (false, eval e X.env) :: starEach es X.env := by rfl) (hpl : (backTo pos (starEach es X.env)).any (·.1) = false := by rfl) :
    PE X (.Call (.Name x p) (e :: es) [] pos) (tCall sp [] L2.E0 t) := by
  obtain ⟨f, fd, ps, F, hm, kp, hb⟩ := c.ex
  constructor
  intro pins s σ H Q I h
  refine wpAny_Call_Name_kw (ld_glob I hg hm ?_ hdb)
  refine PySem.W.callWith_K (h₀ := X.base) I.ok.mod.kin kp (thn (ha.run pos pins s σ H _ I h) fun us s1 got => ?_) he hpl
  obtain ⟨vs, H1, I1, r, q⟩ := got
  refine ⟨I1.kIn, ?_⟩
  rw [List.append_nil] at q
  have ln : us.length = ps.length := by rw [← r.length]; exact F.len _ _ _ _ q
  have run := F.go X.A X.stack s1 H1 ⟨us, []⟩ us vs Q L2.E0 hgd (hr.mono hk) I1.env0 (by
    have z := hb s1 us I1.kIn (by rw [List.append_nil]; exact ln)
    rw [List.append_nil] at z
    exact z) r q
  refine wpAny_call (codeAny_mono run fun r s3 res => ?_)
  cases r with
  | error e => exact (show False from res).elim
  | ok fl =>
    cases fl with
    | ret u => exact I1.after res
    | next => exact (show False from res).elim
    | brk => exact (show False from res).elim
    | cont => exact (show False from res).elim
end
end LJ
namespace PySem
open Sem (wp)
open AutoSeq1 (wpAny_loadPart')
/-- enumerate(tuple) -/
theorem dj_enum_new (t : Addr) (items : Array Value) (n : Nat) (dct : Option Addr) (sl : Array (Option Value)) :
    Meets (Builtin.«enumerate.__new__» ⟨[.type "enumerate", .ref t], []⟩) (fun _ R s => s.heap.get? t = some { cls := .type "tuple", dict := dct, data := .seq items n, slots := sl } ∧
      R (.ok (.ret (.ref (s.heap.push { cls := .type "tuple_iterator", data := .fields #[.ref t, .int 0 0] }).objs.size)))
        { s with heap := (s.heap.push { cls := .type "tuple_iterator", data := .fields #[.ref t, .int 0 0] }).push { cls := .type "enumerate", data := .fields #[.none, .bool false, .ref s.heap.objs.size, rawInt 0, .none, .none] } }) := by
  refine .of_wp fun prog w A R s h => ?_
  obtain ⟨hp, gn, dr, tk, os⟩ := s
  obtain ⟨ht, want⟩ := h
  have known := sub_enumerate
  have isT : Heap.IsTuple (Shared.heap ⟨hp, gn, dr, tk, os⟩) t items := ⟨_, ht, rfl, n, rfl⟩
  wp_walk using wpAny_loadPart' ht
  refine wpAny_stack_any fun st => wpAny_pure ?_
  split
  · rename_i c _ _ _ _ _
    cases (c == Value.type "enumerate")
    all_goals
      wp_walk using wpAny_loadPart' ht, wpAny_pyIter_tuple isT
      exact ⟨_, rfl, want⟩
  · wp_walk using wpAny_loadPart' ht, wpAny_pyIter_tuple isT
    exact ⟨_, rfl, want⟩
theorem dj_enum_call {prog : Program} {w : World} {A : Around} {E : Value → Shared → Prop} {s : Shared} {t : Addr} {items : Array Value} {Q : Value → Shared → Prop} (isT : s.heap.IsTuple t items)
    (want : ∀ h', IsEnum h' (s.heap.objs.size + 1) s.heap.objs.size 0 .none → h'.IsTupleIter s.heap.objs.size t 0 → h'.objs.size = s.heap.objs.size + 2 →
      (∀ b o, s.heap.get? b = some o → h'.get? b = some o) → Q (.ref (s.heap.objs.size + 1)) { s with heap := h' }) : wpAny (model prog w) A (call (.type "enumerate") [.ref t]) Q E s := by
  obtain ⟨⟨c, dct, dt, sl⟩, ho, hc, n, hd⟩ := isT
  have hc : c = .type "tuple" := hc
  have hd : dt = .seq items n := hd
  subst hc; subst hd
  refine callType_new F.called_enumerate (by decide) (F.typeCall_enumerate_1 _) (F.newCall_enumerate_1 _) (fun obj => F.args_object_init_2 obj _) F.entry_enumerate_new (dj_enum_new t items n dct sl) ⟨ho, ?_⟩
  have size1 : (s.heap.push { cls := .type "tuple_iterator", data := .fields #[.ref t, .int 0 0] }).objs.size = s.heap.objs.size + 1 := Heap.size_push ..
  show _ ∧ _
  rw [size1]
  have top : IsEnum ((s.heap.push { cls := .type "tuple_iterator", data := .fields #[.ref t, .int 0 0] }).push { cls := .type "enumerate", data := .fields #[.none, .bool false, .ref s.heap.objs.size, rawInt 0, .none, .none] }) (s.heap.objs.size + 1) s.heap.objs.size 0 .none := by
    have z := Heap.get?_push_size (s.heap.push { cls := .type "tuple_iterator", data := .fields #[.ref t, .int 0 0] }) (o := { cls := .type "enumerate", data := .fields #[.none, .bool false, .ref s.heap.objs.size, rawInt 0, .none, .none] }) rfl
    rw [size1] at z
    exact z
  refine ⟨⟨_, top, rfl⟩, want _ top ?_ ?_ ?_⟩
  · exact ⟨_, Heap.get?_push_of_some _ (Heap.get?_push_size _ rfl), rfl, rfl⟩
  · rw [Heap.size_push, size1]
  · exact fun b o x => Heap.get?_push_of_some _ (Heap.get?_push_of_some _ x)
end PySem
namespace DJ
open PySem PySem.Spec PyProof.Rows L2
def Itu (K : PySem.W.Frag) (a : Addr) : It :=
  ⟨fun i H => ∃ (xs : List V) (x : V), SqT K H a xs ∧ xs[i]? = some x, fun i H v H' => ∃ T x, v = .ref T ∧ H T = none ∧ H' = upd H T (.tup [.int (i : Nat), x]) ∧ ∀ xs, SqT K H a xs → xs[i]? = some x, fun i H => ∃ xs : List V, SqT K H a xs ∧ xs.length ≤ i⟩
theorem tup_ne {h : Heap} {a b : Addr} {its : Array Value} {o : Obj} {T : String} (p : IsTup h a its) (e : h.get? b = some o) (hc : o.cls = .type T) (ht : T ≠ "tuple") : a ≠ b := fun z => by
  obtain ⟨o', e', c', _⟩ := p
  rw [z, e] at e'
  cases e'
  rw [hc] at c'
  exact ht (by injection c')
section
variable {prog : Program} {w : World} {A : Around} {E : Value → Shared → Prop} {s : Shared}
theorem next_enum_tup_end {e it t : Addr} {items : Array Value} {i : Nat} {old : Value} {Q : Option Value → Shared → Prop} (hh : A.handled = none)
    (he : IsEnum s.heap e it ((i : Nat) : Int) old) (hit : s.heap.IsTupleIter it t i) (ht : s.heap.IsTuple t items) (hx : items[i]? = none) (hQ : ∀ h', Heap.ExtBut it s.heap h' → Q none { s with heap := h' }) : wpAny (model prog w) A (pyNext (.ref e)) Q E s := by
  have kind : s.TypeIs (.ref e) "enumerate" := ⟨_, he, rfl⟩
  unfold pyNext
  refine wpAny_bind (wpAny_attempt ?_)
  refine wpAny_callSpecial?_slot (name := Str.ofString "__next__") kind F.slot_enumerate_next ?_
  refine wpAny_call_entry F.slot_enumerate_next kind F.entry_enumerate_next ?_ (F.args_enumerate_next_1 _)
  show wpAny _ _ (field (.ref e) 2 >>= _) _ _ _
  refine wpAny_bind (wpAny_field he rfl (x := .ref it) rfl ?_)
  refine wpAny_bind (wpAny_nextOf_tuple_end (show A.in1.handled = none from hh) hit ht hx fun h' x he' hx' => ?_)
  obtain ⟨o, ho, hc⟩ := hx'
  refine wpAny_bind (wpAny_isInstance (T := "StopIteration") (b := true) ⟨o, ho, hc⟩ isSubtype_stop ?_)
  exact wpAny_pure (hQ _ he')
end
theorem turn_enumU {P : Program} {w : World} {K : PySem.W.Frag} {elts : List Expr} {kk : Nat} {tpos : Pos} (a e it : Addr) :
    Turn P w K (.Tuple elts kk tpos) (Itu K a) [e, it] e (fun i h => (∃ old, IsEnum h e it ((i : Nat) : Int) old) ∧ h.IsTupleIter it a i ∧ e ≠ it) where
  mem := by simp
  obj := fun i h st b hb => by
    obtain ⟨⟨old, he⟩, ⟨o, ho, hc, hd⟩, _⟩ := st
    have e' : b = e ∨ b = it := by simpa using hb
    rcases e' with z | z
    · rw [z]; exact ⟨_, he, fun v q => nomatch q⟩
    · rw [z]; exact ⟨o, ho, fun v q => by rw [hd] at q; cases q⟩
  keep := fun i h h' st k => let ⟨⟨old, he⟩, hi, hne⟩ := st; ⟨⟨old, k e (by simp) _ he⟩, hi.at fun o q => k it (by simp) o q, hne⟩
  item := by
    intro X hP hw hK hc i pins s σ H E I hf st hg
    subst hP hw hK
    obtain ⟨⟨old, he⟩, hit, hne⟩ := st
    obtain ⟨xs, x, hq, hx⟩ := hg
    obtain ⟨its, rv, p, hz⟩ := I.tuple hq
    obtain ⟨u, hu, ru⟩ := rv.get hx
    have hel : e < s.heap.objs.size := Heap.lt_size he
    have hil : it < s.heap.objs.size := by obtain ⟨_, q, _⟩ := hit; exact Heap.lt_size q
    have n1 : a ≠ it := by obtain ⟨o, q, c, _⟩ := hit; exact tup_ne p q c (by decide)
    have n2 : a ≠ e := tup_ne p he rfl (by decide)
    have hlt : i < its.toArray.size := by rw [List.size_toArray]; exact (List.getElem?_eq_some_iff.mp hu).1
    refine wpAny_pyNext_enum_itemD (PySem.Draws.tuple (show X.A.in1.handled = none from I.ok.hd hc) it a n1 its.toArray) he ⟨hit, p⟩ hlt hne (by simp [hne, Ne.symm n2]) fun v h' tk hv ho hit' hT hsz hk => ?_
    have ev : v = u := by
      rw [List.getElem?_toArray, hu] at hv
      exact (Option.some.inj hv).symm
    subst ev
    refine ⟨_, rfl, wpAny_letOwnedTupleGo_enum (s := { s with heap := h', toks := tk + 1 }) ho fun h'' he' sb => ?_⟩
    have hT2 : h''.get? s.heap.objs.size = some { cls := .type "tuple", data := .seq #[.int i tk, v] } := (sb.2 _ (Nat.ne_of_gt hel)).trans hT
    have new : ObjOk X.prog X.w (upd H s.heap.objs.size (.tup [.int (i : Nat), x])) h'' s.heap.objs.size (.tup [.int (i : Nat), x]) :=
      ⟨by show 2 ≤ sizeLine; decide, [.int i tk, v], .cons ⟨_, rfl⟩ (.cons ru .nil), ⟨_, hT2, rfl, _, rfl⟩⟩
    have I1 : Inv X pins σ (upd H s.heap.objs.size (.tup [.int (i : Nat), x])) { s with heap := h'', toks := tk + 1 } :=
      I.turnedNew (ch := [e, it]) (fun b ob hb q => (sb.2 b (fun z => hb (by simp [z]))).trans (hk b ob (fun z => hb (by simp [z])) (fun z => hb (by simp [z])) q)) hf (Nat.le_refl _) new
    refine ⟨.ref s.heap.objs.size, _, I1, rfl, ⟨_, x, rfl, I.hok.fresh (Nat.le_refl _), rfl, fun ys hy => by rw [I.tuple_inj hy hq]; exact hx⟩, ⟨⟨v, ?_⟩, ?_, hne⟩, fun b hb => ?_⟩
    · have e1 : ((i + 1 : Nat) : Int) = (i : Int) + 1 := by omega
      rw [e1]; exact he'
    · exact hit'.1.at fun o q => (sb.2 it (Ne.symm hne)).trans q
    · have hb' : b < s.heap.objs.size := by
        have e' : b = e ∨ b = it := by simpa using hb
        rcases e' with z | z
        · rw [z]; exact hel
        · rw [z]; exact hil
      rw [upd_ne (Nat.ne_of_lt hb')]
      exact (hf b hb).1
  done := by
    intro X hP hw hK hc i pins s σ H E I hf st hg
    subst hP hw hK
    obtain ⟨⟨old, he⟩, hit, hne⟩ := st
    obtain ⟨xs, hq, hx⟩ := hg
    obtain ⟨its, rv, p, hz⟩ := I.tuple hq
    obtain ⟨f0, f1, f2, f3, f4, f5⟩ := hf it (by simp)
    have hl := rv.length
    exact next_enum_tup_end (I.ok.hd hc) he hit p (by simp; omega) fun h' eb => ⟨rfl, I.turned (t' := s.toks) (fun b o hb q => eb b o hb q) f0 f1 f3 f4 f5⟩
  self := fun A i s Q E st h => let ⟨⟨_, he⟩, _⟩ := st; wpAny_pyIter_enum he h
def iEnumU (K : PySem.W.Frag) (ta : TA) : TI := fun σ H R => ta σ H fun vs H1 => ∃ a xs, vs = [.ref a] ∧ SqT K H1 a xs ∧ R (Itu K a) H1
theorem pi_enumU {X : Cx} {e : Expr} {ta : TA} {p pos tpos : Pos} {elts : List Expr} {kk : Nat} (hg : Gl X "enumerate") (hm : X.mg "enumerate" = none) (ha : PA X [e] ta) (hs : starEach [e] X.env = [(false, eval e X.env)] := by rfl) :
    PI X (.Tuple elts kk tpos) (.Call (.Name "enumerate" p) [e] [] pos) (iEnumU X.K ta) := by
  refine ⟨fun pins s σ H R I h => ?_⟩
  refine Call_ (ld_blt I hg hm boot_enumerate (PyProof.Rows.callWith_type1 (thn (ha.run pos pins s σ H _ I h) fun us s1 ⟨vs, H1, I1, r1, q1⟩ => ?_) hs rfl))
  obtain ⟨a, xs, ex, hq, q⟩ := q1
  subst ex
  obtain ⟨u, rfl, ru⟩ := vals1 r1
  cases (show u = Value.ref a from ru)
  obtain ⟨its, rv, p', hz⟩ := I1.tuple hq
  refine dj_enum_call p' fun h' he hit hsz hk => wpAny_pyIter_enum he ?_
  have I2 : Inv X pins σ H1 { s1 with heap := h' } := I1.kept (t' := s1.toks) hk
  refine ⟨s1.heap.objs.size + 1, [s1.heap.objs.size + 1, s1.heap.objs.size], _, _, H1, rfl, I2, turn_enumU a (s1.heap.objs.size + 1) s1.heap.objs.size, ⟨⟨.none, he⟩, hit, Nat.succ_ne_self _⟩, fun b hb => ?_, q⟩
  have e' : b = s1.heap.objs.size + 1 ∨ b = s1.heap.objs.size := by simpa using hb
  have hle : s1.heap.objs.size ≤ b := by
    rcases e' with z | z
    · rw [z]; exact Nat.le_add_right _ _
    · rw [z]; exact Nat.le_refl _
  exact I1.fpOk hle (I1.hok.fresh hle)
section
variable {K : PySem.W.Frag} {B : Hp} {G : List (Option Sl)} {M M1 : List MO}
theorem yl_enumU {a : Addr} {vs : List V} {xs : List Dt} (h : SqT K B a vs) (r : RpL K B xs vs) : Yl K B (Itu K a) (enumD 0 xs) := fun F B' as M H i e ow => by
  have h1 : SqT K H a vs := same_t ow.bb (same_t e h)
  refine ⟨fun x hx => ?_, fun hi => ⟨vs, h1, by rw [r.len]; rw [enumD_len] at hi; exact hi⟩⟩
  rw [enumD_get] at hx
  cases hy : xs[i]? with
  | none => rw [hy] at hx; cases hx
  | some y =>
    rw [hy] at hx
    have hx : Dt.tup [.int ((0 + i : Nat) : Nat), y] = x := Option.some.inj hx
    subst hx
    obtain ⟨v, hv, hr⟩ := r.get hy
    refine ⟨⟨vs, v, h1, hv⟩, fun w H' yl => ?_⟩
    obtain ⟨T, u, rfl, hT, rfl, hu⟩ := yl
    have e2 : v = u := Option.some.inj (hv.symm.trans (hu vs h1))
    subst e2
    have g := ow.gr hT (.tup [.int (i : Nat), v])
    refine ⟨_, g, ow.new hT _, T, _, rfl, .inl (.inl upd_same), _, _, rfl, ?_, _, _, rfl, Rp.mono (e.trans g.1) _ _ hr, rfl⟩
    rw [Nat.zero_add]
    rfl
theorem ei_enumU {ta : TA} {xs : List Dt} (h : EvA K ta G M [.d (.tup xs)] M1) : EvI K (iEnumU K ta) G M (enumD 0 xs) M1 := fun F B as σ H ow sl R q =>
  h F B as σ H ow sl _ fun vs B' as' H' g p o' r => by
    obtain ⟨v, r1, e1, h1, e2⟩ := r
    have e2 : r1 = [] := e2
    subst e2; subst e1
    obtain ⟨a, us, e, q1, q2⟩ := h1
    subst e
    exact ⟨a, us, rfl, same_t o'.bb q1, q _ B' as' H' g p o' (yl_enumU q1 q2)⟩
end
end DJ
namespace LJ
open PySem PySem.Spec PyProof.Rows L2 LamX DJ
section
variable {K : PySem.W.Frag} {G : List (Option Sl)} {M M1 M2 : List MO} {ta tb : TE}
theorem ro_ixT' {xs : List Dt} {x : Dt} {i : Int} (h : atI xs i = some x) : RO K (rIx K) (.tup xs) (.int i) x := fun F B as M H v u Q ow r1 r2 q => .inr (.inl (ro_ixT h F B as M H v u Q ow r1 r2 q))
theorem rc_tupOf {xs : List Dt} (h : xs.length ≤ 100000) : RC K (fun xs H Q => ∃ p ys, xs = [.ref p] ∧ ((SqL K H p ys ∧ ∀ l, H l = none → Q (.ref l) (upd H l (.tup ys))) ∨ (SqT K H p ys ∧ Q (.ref p) H))) [.lst xs] (.tup xs) := fun F B as M H vs Q ow r q => by
  obtain ⟨v1, rr, e, h1, h2⟩ := r
  obtain ⟨a, us, e1, h3, h4⟩ := h1
  have h2 : rr = [] := h2
  subst h2; subst e1
  refine ⟨a, us, e, .inl ⟨ow.bb.seq h3, fun l hl => ?_⟩⟩
  have g := ow.gr hl (.tup us)
  exact q _ _ _ g (ow.new hl _) ⟨l, us, rfl, .inl (.inl upd_same), RpL.mono g.1 _ _ h4⟩
end
end LJ
namespace LJ
open PySem PySem.Spec PyProof.Rows L2 LamX DJ
/-! ### instances of own classes, their attributes plain values -/
abbrev Fs := List (Str × V)
def insM (C : Addr) (fs : Fs) : MO := .abx fun _ _ o => ∃ dx, o = .ins C dx fs
def insD (C : Addr) (fs : Fs) : Dt := .ext fun H v => ∃ a dx, v = .ref a ∧ H a = some (.ins C dx fs)
theorem rp_ins {K : PySem.W.Frag} {B : Hp} {C : Addr} {fs : Fs} {v : V} (h : Rp K B (insD C fs) v) : ∃ a dx, v = .ref a ∧ B a = some (.ins C dx fs) := h B (Same.refl B)
theorem rp_ins_of {K : PySem.W.Frag} {B : Hp} {C a dx : Addr} {fs : Fs} (h : B a = some (.ins C dx fs)) : Rp K B (insD C fs) (.ref a) := fun H' e => ⟨a, dx, rfl, e _ _ h⟩
section
variable {K : PySem.W.Frag} {F B H : Hp} {as : List Addr} {G : List (Option Sl)} {M M1 M2 : List MO} {ta tb tv : TE} {tr : TA} {C : Addr} {fs gs : Fs} {E : XK}
theorem Ow_know {x : Addr} {o : HO} (h : Ow K F B as M H) (e0 : H x = some o) (b : B x = none) (f : F x = none) (n : x ∉ as) : Gr F B (upd B x o) ∧ Ow K F (upd B x o) as M H := by
  have sm : Same B (upd B x o) := fun c u e => by rw [upd_ne (ne_of_none e b)]; exact e
  refine ⟨⟨sm, fun c z n => ?_⟩, ⟨h.fb, fun c u e => ?_, h.len, h.nd, h.al, h.fa, fun j c m q1 q2 hn => ?_⟩⟩
  · rw [upd_ne (fun e => z.1 (by rw [e]; exact f))]; exact n
  · by_cases z : c = x
    · subst z; rw [upd_same] at e; rw [← e]; exact e0
    · rw [upd_ne z] at e; exact h.bb _ _ e
  · have ne : c ≠ x := fun e => n (e ▸ List.mem_of_getElem? q1)
    obtain ⟨r1, r2, r3⟩ := h.own j c m q1 q2 hn
    exact ⟨r1, by rw [upd_ne ne]; exact r2, MoR.mono sm rfl r3⟩
/-- C(..): data, once __init__ has come to its end -/
theorem ev_make {n : Nat} {R : List Sl → List MO → Sl → List MO → Prop} {ds : List Dt} (h : EvA K tr G M (ds.map Sl.d) M1) (hR : R (.o 0 :: ds.map Sl.d) [insM C []] (.d .non) [insM C fs]) (hn : ds.length + 1 = n) :
    EvE K (tMake C (SpR K n R) [] E tr) G M (.d (insD C fs)) M1 := fun F B as σ H ow sl Q q =>
  h F B as σ H ow sl _ fun vs B1 as1 H1 g1 p1 o1 r1 => fun x dx hx hdx ne => by
    have od := o1.new hdx (.own x)
    have gd := o1.gr hdx (.own x)
    have hx1 : (upd H1 dx (.own x)) x = none := by rw [upd_ne (Ne.symm ne)]; exact hx
    have bx : (upd B1 dx (.own x)) x = none := od.bb.free hx1
    have fx : F x = none := od.fb.free hx1
    have oc : Ow K (upd H1 dx (.own x)) (upd B1 dx (.own x)) [x] [insM C []] (upd (upd H1 dx (.own x)) x (.ins C dx [])) := by
      refine ⟨fun b u e => ?_, fun b u e => ?_, rfl, by simp, fun b hb => ?_, fun b hb => ?_, fun j b m e1 e2 hm => ?_⟩
      · rw [upd_ne (ne_of_none e hx1)]; exact e
      · rw [upd_ne (ne_of_none e bx)]; exact od.bb b u e
      · obtain rfl : b = x := by simpa using hb
        rw [upd_same]; exact fun z => nomatch z
      · obtain rfl : b = x := by simpa using hb
        exact hx1
      · cases j with
        | zero =>
          obtain rfl : x = b := Option.some.inj e1
          obtain rfl : insM C [] = m := Option.some.inj e2
          exact ⟨hx1, bx, _, upd_same, (by intro vs z; cases z), fun B' _ => ⟨dx, rfl⟩⟩
        | succ j => simp at e1
    refine ⟨_, _, [x], .o 0 :: ds.map Sl.d, [insM C []], .d .non, [insM C fs], hR, oc, ⟨.ref x, vs ++ [], rfl, ⟨x, rfl, rfl⟩, ?_⟩, ?_, fun v B' as' H' g p o' r' => ⟨r', ?_⟩⟩
    · rw [List.append_nil]; exact SlL.of_data (RpL.mono gd.1 _ _ (SlL.data r1))
    · rw [List.length_cons, List.append_nil, r1.len, List.length_map]; exact hn
    · obtain ⟨tl, rfl⟩ := p
      obtain ⟨f0, b0, o, ho, nt, φ⟩ := o'.own 0 x _ rfl rfl (fun z => nomatch z)
      obtain ⟨dx', rfl⟩ := φ B' (Same.refl B')
      obtain ⟨g2, o2⟩ := back0 od g o'
      obtain ⟨g3, o3⟩ := Ow_know o2 ho b0 fx (fun hm => od.al x hm hx1)
      exact q _ _ as1 H' (g1.trans (gd.trans (g2.trans g3))) p1 o3 (rp_ins_of (K := K) upd_same)
/-- e.f, a property that hands an attribute on -/
theorem ev_prop {f : Str} {v : V} {y : Dt} (h : EvE K ta G M (.d (insD C fs)) M1) (l : fs.lookup f = some v) (r : ∀ B, Rp K B y v) : EvE K (tProp C (getSp C f) [] E ta) G M (.d y) M1 := fun F B as σ H ow sl Q q =>
  h F B as σ H ow sl _ fun x B1 as1 H1 g1 p1 o1 r1 => by
    obtain ⟨a, dx, rfl, e⟩ := rp_ins (K := K) r1
    have e' := o1.bb _ _ e
    exact ⟨a, dx, fs, rfl, e', a, dx, fs, v, rfl, e', l, q v B1 as1 H1 g1 p1 o1 (r B1)⟩
/-- self.f = value, self made anew -/
theorem es_fld {k : Nat} {f : Str} {y : Dt} {v : V} (hv : EvE K tv G M (.d y) M1) (hy : ∀ B w, Rp K B y w → w = v) (hs : EvE K ta G M1 (.o k) M2) (hm : M2[k]? = some (insM C fs)) (c : Cls K C) (n : NoAttr K C f) (hl : fs.length < 1000) :
    EvS K (sFld K ta tv f) G M (.nx G (M2.set k (insM C (putF f v fs)))) := fun F B as σ H ow sl D gd =>
  hv F B as σ H ow sl _ fun w B1 as1 H1 g1 p1 o1 r1 => hs F B1 as1 σ H1 o1 (sl.mono g1.1 p1) _ fun x B2 as2 H2 g2 p2 o2 r2 => by
    obtain ⟨a, ha, rfl⟩ := r2
    obtain ⟨f0, b0, o, ho, nt, φ⟩ := o2.own k a _ ha hm (fun z => nomatch z)
    obtain ⟨dx, rfl⟩ := φ B2 (Same.refl B2)
    obtain rfl := hy B1 w r1
    refine ⟨a, C, dx, fs, rfl, ho, c, n, hl, ?_⟩
    exact gd B2 as2 σ _ (g1.trans g2) (p1.trans p2) (o2.put ha hm (fun z => nomatch z) ⟨_, upd_same, (by intro vs z; cases z), fun B' _ => ⟨dx, rfl⟩⟩) (sl.mono (g1.trans g2).1 (p1.trans p2))
/-- isinstance of an instance of the class itself -/
theorem rc_isI (c : C8.InsC K C) : RC K (rIsi K) [insD C fs, .raw (.ref C)] (.bl true) := fun F B as M H vs Q ow r q => by
  obtain ⟨v1, rr, e, h1, v2, rr2, e2, h2, h3⟩ := r
  obtain ⟨a, dx, rfl, ea⟩ := rp_ins (K := K) h1
  obtain rfl : v2 = V.ref C := h2
  obtain rfl : rr2 = [] := h3
  subst e2; subst e
  exact ⟨.ref a, .ref C, .ref C, .ref C, true, rfl, .own C, .base (TyOf.ins (ow.bb _ _ ea) c.cl c.ha c.hn c.htk c.hm), c.me, q _ B H (Gr.refl F B) ow rfl⟩
end
/-! ### == by a def of the class -/
def rOwnI (C : Addr) (sp : Sp) (E : XK) : R2 := fun x y H Q => ∃ a b dx dy fs gs, x = .ref a ∧ y = .ref b ∧ H a = some (.ins C dx fs) ∧ H b = some (.ins C dy gs) ∧ sp [x, y] H Q E
theorem op_ownI {X : Cx} {CX : CXT} {C f : Addr} {fd : FuncData} {ps : List Str} {n : Nat} {sp : Sp} {E : XK} (F : FnOk X.prog X.w X.K X.mg X.base CX n f fd ps sp)
    (hs : PySem.W.findIn X.K (.ref C) "__eq__" = some (some (.ref f))) (hf : PySem.W.isFn X.K (.ref f) = true) (hb : Binds X.K fd ps []) (hr : Room n X.A) (hx : Passes CX X E) : OpR X (compareOp .Eq) (rOwnI C sp E) := by
  intro pins s σ H x y v u Q I rx ry h
  obtain ⟨a, b, dx, dy, fs, gs, rfl, rfl, ha, hb', q⟩ := h
  cases (show v = Value.ref a from rx)
  cases (show u = Value.ref b from ry)
  obtain ⟨mA, J, _⟩ := ins_get I.hok ha
  obtain ⟨mB, J', _⟩ := ins_get I.hok hb'
  obtain ⟨od, J, _⟩ := J.look
  obtain ⟨od', J', _⟩ := J'.look
  obtain ⟨m, hF⟩ := I.fr
  show wpAny (model X.prog X.w) X.A (richCompare .Eq (.ref a) (.ref b)) (EP X pins σ Q) X.xe s
  refine PySem.W.cmp_K (op := .Eq) (tb := .ref C) hr.units0 hF I.ok.mod.kin J J'.type (by simp [PySem.W.notFirst]) hs hf ?_
  refine wpAny_mono (run_fn (us := [.ref a, .ref b]) (vs := [.ref a, .ref b]) (ds := []) (dvs := []) F hr hb .nil hx I (.cons rfl (.cons rfl .nil)) (by rw [List.append_nil]; exact q)) (fun w s' z => ?_) fun _ _ x => x
  obtain ⟨z', H', I', rz, qz⟩ := z
  exact SlX.cmpback rz ⟨z', H', I', rz, qz⟩
theorem ro_ownI {K : PySem.W.Frag} {C : Addr} {fs gs : Fs} {R : List Sl → List MO → Sl → List MO → Prop} {z : Dt} {E : XK} (hR : R [.d (insD C fs), .d (insD C gs)] [] (.d z) []) : RO K (rOwnI C (SpR K 2 R) E) (insD C fs) (insD C gs) z := fun F B as M H v u Q ow rv ru q => by
  obtain ⟨a, dx, rfl, ea⟩ := rp_ins (K := K) rv
  obtain ⟨b, dy, rfl, eb⟩ := rp_ins (K := K) ru
  refine ⟨a, b, dx, dy, fs, gs, rfl, rfl, ow.bb _ _ ea, ow.bb _ _ eb, ?_⟩
  exact call_core (ds := [insD C fs, insD C gs]) hR rfl ow ⟨_, _, rfl, rv, _, _, rfl, ru, rfl⟩ fun w B' as' H' g o' r' => by
    obtain ⟨g2, o2⟩ := back0 ow g o'
    exact q w B' H' g2 o2 r'
/-! ### the class's defs, what they promise -/
section
variable {P : Program} {w : World} {K : PySem.W.Frag} {mg : Str → Option Value} {base : Heap}
/-- a def of the class, under whatever name it is found -/
structure Mtd (P : Program) (w : World) (K : PySem.W.Frag) (mg : Str → Option Value) (base : Heap) (k : Nat) (f : Addr) (sp : Sp) : Prop where
  ex : ∃ (fd : FuncData) (ps : List Str), FnOk P w K mg base CX0 k f fd ps sp ∧ Binds K fd ps []
theorem mtd_mk {x qual : Str} {f : Addr} {st : Stmt} {N ps : List Str} {k n : Nat} {R : List Sl → List MO → Sl → List MO → Prop} (D : ∃ fd, L2.Fun K x qual st f fd ∧ Binds K fd ps []) (S : FnScope N ps (defScope st)) (hn : ps.length = n)
    (hb : ∀ (cdv : Value) (A : Around) (outer : List Env) (s : Shared) (H : Hp) (E : XK), Room k (A.deeper (envOfC qual (defScope st) s.heap.objs.size f cdv)) → ∀ ss M r M', R ss M r M' →
      ∃ t X, PSs (cxOf CX0 P w K mg base N qual (defScope st) f cdv A outer s H E).nox (defBody st) t ∧ EvS K t (DJ.start N.length ss) M (.rt r (M' ++ X)) ∧ M.length ≤ M'.length ∧ ∀ j, r = .o j → j < M'.length) :
    Mtd P w K mg base (k + 1) f (SpR K n R) := by
  obtain ⟨fd, F, b⟩ := D
  refine ⟨fd, ps, F.ok S (fun vs H Q E h => ?_) (fun cdv A outer s H vs Q E hr h => ?_), b⟩
  · obtain ⟨_, _, _, _, _, _, _, _, _, _, e, _⟩ := h
    rw [e, hn]
  · obtain ⟨F', B, as, ss, M, r, M', hR, ow, sl, _, q⟩ := h
    obtain ⟨t, X, ht, he, hl, hr'⟩ := hb cdv A outer s H E hr ss M r M' hR
    exact ⟨t, ht, run_body (X := X) he hl hr' ow sl q⟩
theorem mtd_mkN {x qual : Str} {f : Addr} {st : Stmt} {N ps : List Str} {k n : Nat} {R : List Sl → List MO → Sl → List MO → Prop} (D : ∃ fd, L2.Fun K x qual st f fd ∧ Binds K fd ps []) (S : FnScope N ps (defScope st)) (hn : ps.length = n)
    (hb : ∀ (cdv : Value) (A : Around) (outer : List Env) (s : Shared) (H : Hp) (E : XK), Room k (A.deeper (envOfC qual (defScope st) s.heap.objs.size f cdv)) → ∀ ss M r M', R ss M r M' →
      ∃ t X G1, PSs (cxOf CX0 P w K mg base N qual (defScope st) f cdv A outer s H E).nox (defBody st) t ∧ EvS K t (DJ.start N.length ss) M (.nx G1 (M' ++ X)) ∧ M.length ≤ M'.length ∧ r = .d .non) :
    Mtd P w K mg base (k + 1) f (SpR K n R) := by
  obtain ⟨fd, F, b⟩ := D
  refine ⟨fd, ps, F.ok S (fun vs H Q E h => ?_) (fun cdv A outer s H vs Q E hr h => ?_), b⟩
  · obtain ⟨_, _, _, _, _, _, _, _, _, _, e, _⟩ := h
    rw [e, hn]
  · obtain ⟨F', B, as, ss, M, r, M', hR, ow, sl, _, q⟩ := h
    obtain ⟨t, X, G1, ht, he, hl, hr'⟩ := hb cdv A outer s H E hr ss M r M' hR
    subst hr'
    exact ⟨t, ht, run_bodyN (X := X) he hl ow sl q⟩
/-- a property, by its getter -/
structure Prp (P : Program) (w : World) (K : PySem.W.Frag) (mg : Str → Option Value) (base : Heap) (k : Nat) (C : Addr) (f g : Str) : Prop where
  ex : ∃ (p ga : Addr), Cls K C ∧ PropOf K C f p ga ∧ Mtd P w K mg base k ga (getSp C g)
theorem prp_mk {f g qual : Str} {C p ga : Addr} {st : Stmt} {N : List Str} {k : Nat} {p1 p2 p3 : Pos} (c : Cls K C) (hp : PropOf K C f p ga) (D : ∃ fd, L2.Fun K f qual st ga fd ∧ Binds K fd ["self"] []) (S : FnScope N ["self"] (defScope st)) (hN : N[0]? = some ("self" : Str))
    (hb : defBody st = [.Return (some (.Attribute (.Name "self" p1) g p2)) p3]) (n : NoAttr K C g) : Prp P w K mg base (k + 1) C f g := by
  obtain ⟨fd, F, b⟩ := D
  obtain ⟨oc, od, kV, doc, pm, an, cdv, ct, osl, rfl, lk, hcd⟩ := F.ex
  exact ⟨p, ga, c, hp, ⟨_, _, fn_getter lk hcd S hN hb c n, b⟩⟩
/-- own == -/
structure OEq (P : Program) (w : World) (K : PySem.W.Frag) (mg : Str → Option Value) (base : Heap) (k : Nat) (C : Addr) (sp : Sp) : Prop where
  ex : ∃ (f : Addr), PySem.W.findIn K (.ref C) "__eq__" = some (some (.ref f)) ∧ PySem.W.isFn K (.ref f) = true ∧ Mtd P w K mg base k f sp
/-- C(..) -/
structure Mkr (P : Program) (w : World) (K : PySem.W.Frag) (mg : Str → Option Value) (base : Heap) (k : Nat) (x : Str) (C : Addr) (sp : Sp) : Prop where
  ex : ∃ (f : Addr), Mk K C f ∧ mg x = some (.ref C) ∧ Mtd P w K mg base k f sp
end
section
variable {X : Cx} {k j : Nat} {C : Addr} {x f g : Str} {sp : Sp} {p pos : Pos} {e : Expr} {es : List Expr} {ta : TE} {t : TA}
theorem pe_prp (c : Prp X.prog X.w X.K X.mg X.base k C f g) (hr : Room j X.A) (hk : k + 1 ≤ j) (he : PE X e ta) (hab : attributeBase e f X.env (eval e X.env) = eval e X.env := by rfl) : PE X (.Attribute e f pos) (tProp C (getSp C g) [] L2.E0 ta) := by
  obtain ⟨q, ga, hc, hp, fd, ps, F, b⟩ := c.ex
  exact pe_prop he hc hp F (hr.mono hk) b .nil L2.pass0 hab
theorem op_oeq (c : OEq X.prog X.w X.K X.mg X.base k C sp) (hr : Room j X.A) (hk : k ≤ j) : OpR X (compareOp .Eq) (rOwnI C sp L2.E0) := by
  obtain ⟨f, hs, hf, fd, ps, F, b⟩ := c.ex
  exact op_ownI F hs hf b (hr.mono hk) L2.pass0
theorem pe_mkr (c : Mkr X.prog X.w X.K X.mg X.base k x C sp) (hr : Room j X.A) (hk : k + 1 ≤ j) (hg : Gl X x) (ha : PA X (e :: es) t)
    (hdb : (x == ("__debug__" : Str)) = false := by decide) (he : starEach (e :: es) X.env = (false, eval e X.env) :: starEach es X.env := by rfl) (hpl : (backTo pos (starEach es X.env)).any (·.1) = false := by rfl) :
    PE X (.Call (.Name x p) (e :: es) [] pos) (tMake C sp [] L2.E0 t) := by
  obtain ⟨f, M, hm, fd, ps, F, b⟩ := c.ex
  exact pe_make M F (hr.mono hk) hg hm b .nil L2.pass0 ha hdb he hpl
end
end LJ
namespace LJ
open PySem PySem.Spec PyProof.Rows L2 LamX DJ
/-! ### int(text) of at most 4,300 figures -/
open PySem.NumText in
theorem wp_textD {M : Model} {A : Around} {E : Value → Shared → Prop} {s : Shared} {Q : Value → Shared → Prop} {v : Value} {text : List Nat} {n : Int} (hn : s.heap.NoDigits)
    (hr0 : (text.takeWhile (· != 0)).length ≤ 640 → (int_private% "readNumeral") 0 10 (text.takeWhile (· != 0)) = (int_private% "Numeral.value") n)
    (hr : (int_private% "readNumeral") 4300 10 (text.takeWhile (· != 0)) = (int_private% "Numeral.value") n)
    (ha : ((text.takeWhile (· != 0)).length == text.length) = true) (h : Q (.int n s.toks) { s with toks := s.toks + 1 }) :
    wpAny M A ((int_private% "intFromText") v text 10) Q E s := by
  by_cases hs : (text.takeWhile (· != 0)).length ≤ 640
  · exact PySem.W.KIN.wp_text hs (hr0 hs) ha h
  · obtain ⟨hp, g, d, tk, os⟩ := s
    repeat (any_goals (first
      | assumption
      | (with_reducible refine wpAny_ite_false (decide_eq_false hs) ?_)
      | ((with_reducible show wpAny _ _ Builtin.intMaxStrDigits _ _ _); refine dig_any hn ?_)
      | (with_reducible refine wpAny_ite_true (decide_eq_true ha) ?_)
      | wp_step))
    all_goals (try rw [hr])
    all_goals (try dsimp only)
    repeat (any_goals (first
      | assumption
      | (with_reducible refine wpAny_ite_true (decide_eq_true ha) ?_)
      | wp_step))
open PySem.NumText in
theorem core_dec {x : PySem.Str} {u : Tok} {n : Int} (hl : x.length ≤ 4300) (hx : PySem.intText? x = some n)
    {M : Model} {A : Around} {E : Value → Shared → Prop} {s : Shared} {Q : Value → Shared → Prop} (hn : s.heap.NoDigits) (hQ : Q (.int n s.toks) { s with toks := s.toks + 1 }) :
    wpAny M A (Builtin.«int.__new__» ⟨[.type "int", .str x u], []⟩) (fun fin s' => ∃ v, fin = .done (.ret v) ∧ Q v s') E s := by
  have f1 := F.conv_sub_int
  have f2 := F.madeHere_int
  have f3 := PySem.W.KIN.str_int
  have f4 := PySem.W.KIN.str_idx
  have f5 := PySem.W.KIN.str_trunc
  have f6 : typeOf (.str x u) = pure (.type "str") := rfl
  have r4 : (int_private% "readNumeral") 4300 10 (numSeenOf x) = (int_private% "Numeral.value") n ∧ ((numSeenOf x).length == (numTextOf x).length) = true := by
    rcases read4300 x (Nat.le_trans hl (by decide)) with ⟨m, h1, h2, h3⟩ | ⟨h1, _⟩
    · rw [hx] at h1; injection h1 with h1; subst h1; exact ⟨h3, h2⟩
    · rw [hx] at h1; cases h1
  have r0 : (numSeenOf x).length ≤ 640 → (int_private% "readNumeral") 0 10 (numSeenOf x) = (int_private% "Numeral.value") n := fun hs => by
    rcases read0 x hs with ⟨m, h1, h2, h3⟩ | ⟨h1, _⟩
    · rw [hx] at h1; injection h1 with h1; subst h1; exact h3
    · rw [hx] at h1; cases h1
  have hk := Hx.Hid.mk (And.intro hn (And.intro r0 (And.intro r4.1 r4.2)))
  obtain ⟨hp, g, d, tk, os⟩ := s
  clear r4 r0 hx hl hn
  repeat (any_goals (first
    | assumption
    | ((with_reducible show wpAny _ _ ((int_private% "intFromText") _ _ _) _ _ _); refine wp_textD hk.out.1 hk.out.2.1 hk.out.2.2.1 hk.out.2.2.2 ?_)
    | wp_step))
  all_goals first | exact ⟨_, rfl, hQ⟩ | skip
theorem meets_dec {x : PySem.Str} {u : Tok} {n : Int} (hl : x.length ≤ 4300) (hx : PySem.intText? x = some n) :
    Meets (Builtin.«int.__new__» ⟨[.type "int", .str x u], []⟩) (fun _ R s => s.heap.NoDigits ∧ R (.ok (.ret (.int n s.toks))) { s with toks := s.toks + 1 }) := fun prog w A R s hS =>
  wpAny_mono (core_dec (Q := fun v s' => R (.ok (.ret v)) s') hl hx hS.1 hS.2) (fun fin s' h' => by obtain ⟨v, rfl, hv⟩ := h'; exact hv) fun _ _ x => x
def rIntL : List V → Hp → VK → Prop := fun xs H Q => ∃ a n, xs = [.str a] ∧ PySem.intText? a = some n ∧ a.length ≤ 4300 ∧ Q (.int n) H
theorem call_int_long {X : Cx} (e : DgK X.K) : CallR X (.type "int") rIntL := by
  intro pins s σ H xs us Q I r h
  obtain ⟨a, n, rfl, hx, hl, q⟩ := h
  obtain ⟨u, rfl, r1⟩ := vals1 r
  obtain ⟨t1, rfl⟩ := r1
  exact callType_new F.called_int F.newNe_int (F.typeCall_int_1 _) (F.newCall_int_1 _) (fun obj => F.args_object_init_2 obj _) F.entry_int_new (meets_dec hl hx) ⟨nodig I e, rfl, ⟨.int n, H, I.tok _, ⟨_, rfl⟩, q⟩⟩
section
variable {K : PySem.W.Frag} {G : List (Option Sl)} {M M1 M2 : List MO} {ta tb tv : TE} {tr : TA}
theorem rc_intL {l : List Nat} (h : l.all (fun c => decide (48 ≤ c) && decide (c ≤ 57)) = true) (hne : l ≠ []) (hl : l.length ≤ 4300) : RC K rIntL [.str l] (.int ((NumText.digitsVal l : Nat) : Int)) := fun F B as M H vs Q ow r q =>
  ⟨tx l, _, two_str r, SX.int_S h hne hl, by rw [tx_len]; exact hl, q _ B H (Gr.refl F B) ow rfl⟩
theorem rc_tenL {k : Nat} (h : k ≤ 4299) : RC K rIntL [.str (49 :: List.replicate k 48)] (.int ((10 ^ k : Nat) : Int)) := by
  have := rc_intL (K := K) (l := 49 :: List.replicate k 48) (by
    rw [List.all_cons, List.all_replicate]
    cases k <;> simp) (List.cons_ne_nil _ _) (by rw [List.length_cons, List.length_replicate]; omega)
  rw [ten_val] at this
  exact this
/-! ### zip of two lists -/
theorem yl_zip {B : Hp} {a b : Addr} {vs us : List V} {xs ys : List Dt} (h : SqL K B a vs) (h2 : SqL K B b us) (r : RpL K B xs vs) (r2 : RpL K B ys us) : Yl K B (Itz K a b) ((xs.zip ys).map fun p => .tup [p.1, p.2]) := fun F B' as M H i e ow => by
  have h1 : SqL K H a vs := ow.bb.seq (e.seq h)
  have h2 : SqL K H b us := ow.bb.seq (e.seq h2)
  refine ⟨fun x hx => ?_, fun hi => ⟨vs, us, h1, h2, by
    rw [List.length_map, List.length_zip] at hi
    rw [r.len, r2.len]
    omega⟩⟩
  rw [List.getElem?_map] at hx
  cases hz : (xs.zip ys)[i]? with
  | none => rw [hz] at hx; cases hx
  | some p =>
    rw [hz] at hx
    have hx : Dt.tup [p.1, p.2] = x := Option.some.inj hx
    subst hx
    obtain ⟨z1, z2⟩ := List.getElem?_zip_eq_some.mp hz
    obtain ⟨v, hv, hr⟩ := r.get z1
    obtain ⟨u, hu, hr2⟩ := r2.get z2
    refine ⟨⟨vs, us, v, u, h1, h2, hv, hu⟩, fun w H' y => ?_⟩
    obtain ⟨T, v', u', rfl, hT, rfl, y1, y2⟩ := y
    have e1 : v = v' := Option.some.inj (hv.symm.trans (y1 vs h1))
    have e2 : u = u' := Option.some.inj (hu.symm.trans (y2 us h2))
    subst e1; subst e2
    have g := ow.gr hT (.tup [v, u])
    exact ⟨_, g, ow.new hT _, T, [v, u], rfl, .inl (.inl upd_same), v, [u], rfl, Rp.mono (e.trans g.1) _ _ hr, u, [], rfl, Rp.mono (e.trans g.1) _ _ hr2, rfl⟩
theorem ei_zip {xs ys : List Dt} (h : EvA K tr G M [.d (.lst xs), .d (.lst ys)] M1) : EvI K (iZip K tr) G M ((xs.zip ys).map fun p => .tup [p.1, p.2]) M1 := fun F B as σ H ow sl R k =>
  h F B as σ H ow sl _ fun vs B1 as1 H1 g1 p1 o1 r1 => by
    obtain ⟨v, rr, e, h1, u, rr2, e2, h2, e3⟩ := r1
    obtain ⟨a, vs1, rfl, q1, r1⟩ := h1
    obtain ⟨b, us1, rfl, q2, r2⟩ := h2
    have e3 : rr2 = [] := e3
    subst e3; subst e2; subst e
    exact ⟨a, b, vs1, us1, rfl, o1.bb.seq q1, o1.bb.seq q2, k _ B1 as1 H1 g1 p1 o1 (yl_zip q1 q2 r1 r2)⟩
/-! ### < of pairs: a number, a text -/
def rLtT (K : PySem.W.Frag) : R2 := fun x y H Q => ∃ p q i j l m, x = .ref p ∧ y = .ref q ∧ SqT K H p [.int i, .str (tx l)] ∧ SqT K H q [.int j, .str (tx m)] ∧ Q (.bl (if i = j then decide (l < m) else decide (i < j))) H
theorem ro_ltT {i j : Int} {l m : List Nat} : RO K (rLtT K) (.tup [.int i, .str l]) (.tup [.int j, .str m]) (.bl (if i = j then decide (l < m) else decide (i < j))) := fun F B as M H v u Q ow rv ru q => by
  obtain ⟨a, vs, rfl, q1, v1, r1, e1, h1, v2, r2, e2, h2, h3⟩ := rv
  obtain ⟨b, us, rfl, q2, u1, s1, f1, g1, u2, s2, f2, g2, g3⟩ := ru
  have h1 : v1 = V.int i := h1
  have h2 : v2 = V.str (tx l) := h2
  have h3 : r2 = [] := h3
  have g1 : u1 = V.int j := g1
  have g2 : u2 = V.str (tx m) := g2
  have g3 : s2 = [] := g3
  subst h3; subst h2; subst h1; subst g3; subst g2; subst g1; subst e2; subst e1; subst f2; subst f1
  exact ⟨a, b, i, j, l, m, rfl, rfl, same_t ow.bb q1, same_t ow.bb q2, q _ B H (Gr.refl F B) ow rfl⟩
end
theorem op_ltT {X : Cx} (hr : Room 0 X.A) : OpR X (compareOp .Lt) (rLtT X.K) := by
  intro pins s σ H x y v u Q I rx ry h
  obtain ⟨p, q, i, j, l, m, rfl, rfl, h1, h2, hq⟩ := h
  cases (show v = Value.ref p from rx)
  cases (show u = Value.ref q from ry)
  obtain ⟨its, r1, t1, _⟩ := I.tuple h1
  obtain ⟨its2, r2, t2, _⟩ := I.tuple h2
  obtain ⟨a1, a2, rfl, ra1, ra2⟩ := vals2 r1
  obtain ⟨b1, b2, rfl, rb1, rb2⟩ := vals2 r2
  obtain ⟨k1, rfl⟩ := (show ∃ t, a1 = Value.int i t from ra1)
  obtain ⟨k2, rfl⟩ := (show ∃ t, a2 = Value.str (tx l) t from ra2)
  obtain ⟨k3, rfl⟩ := (show ∃ t, b1 = Value.int j t from rb1)
  obtain ⟨k4, rfl⟩ := (show ∃ t, b2 = Value.str (tx m) t from rb2)
  show wpAny (model X.prog X.w) X.A (richCompare .Lt (.ref p) (.ref q)) (EP X pins σ Q) X.xe s
  refine Ob.RcOp.tuples_lt (e := fun k => match k with | 0 => i == j | _ => tx l == tx m) (r := fun k => match k with | 0 => decide (i < j) | _ => decide ((tx l).cps.toList < (tx m).cps.toList)) t1 t2 hr.units0 (fun k z1 z2 => ?_) (fun k z1 z2 _ => ?_) X.prog X.w X.xe _ ?_
  · match k with
    | 0 => exact SeqAt.EqAt.int_int i k1 j k3
    | 1 => exact SeqAt.EqAt.str_str (tx l) k2 (tx m) k4
    | k + 2 => exact absurd z1 (by simp)
  · match k with
    | 0 => exact Ob.RcOp.lt_int i j k1 k3
    | 1 => exact fun _ _ _ _ h => lt_str h
    | k + 2 => exact absurd z1 (by simp)
  · refine ⟨.bl (if i = j then decide (l < m) else decide (i < j)), H, I, ?_, hq⟩
    show Value.bool _ = Value.bool _
    congr 1
    show (if (i == j) = true then (if (tx l == tx m) = true then false else decide ((tx l).cps.toList < (tx m).cps.toList)) else decide (i < j)) = _
    by_cases h : i = j
    · subst h
      rw [if_pos (beq_self_eq_true i), if_pos rfl]
      by_cases h : l = m
      · subst h
        rw [if_pos (beq_self_eq_true _), decide_eq_false (List.lt_irrefl l)]
      · rw [if_neg (by
          intro z
          have z := congrArg (fun x : Str => x.cps.toList) (beq_iff_eq.mp z)
          exact h z)]
    · rw [if_neg (by rw [beq_iff_eq]; exact h), if_neg h]
end LJ
namespace LJ
open PySem PySem.Spec PyProof.Rows L2 LamX DJ
/-! ### == by a def of the class, of a value of another kind -/
inductive PlV : V → Value → Prop where
  | non : PlV .non (.type "NoneType")
  | int (i : Int) : PlV (.int i) (.type "int")
  | str (x : Str) : PlV (.str x) (.type "str")
def rOwnP (K : PySem.W.Frag) (C : Addr) (sp : Sp) (E : XK) : R2 := fun x y H Q => ∃ a dx fs t, x = .ref a ∧ H a = some (.ins C dx fs) ∧ PlV y t ∧ PySem.W.notFirst K C t = true ∧ sp [x, y] H Q E
theorem op_ownP {X : Cx} {CX : CXT} {C f : Addr} {fd : FuncData} {ps : List Str} {n : Nat} {sp : Sp} {E : XK} (F : FnOk X.prog X.w X.K X.mg X.base CX n f fd ps sp)
    (hs : PySem.W.findIn X.K (.ref C) "__eq__" = some (some (.ref f))) (hf : PySem.W.isFn X.K (.ref f) = true) (hb : Binds X.K fd ps []) (hr : Room n X.A) (hx : Passes CX X E) : OpR X (compareOp .Eq) (rOwnP X.K C sp E) := by
  intro pins s σ H x y v u Q I rx ry h
  obtain ⟨a, dx, fs, t, rfl, ha, hp, hn, q⟩ := h
  cases (show v = Value.ref a from rx)
  obtain ⟨mA, J, _⟩ := ins_get I.hok ha
  obtain ⟨od, J, _⟩ := J.look
  obtain ⟨m, hF⟩ := I.fr
  show wpAny (model X.prog X.w) X.A (richCompare .Eq (.ref a) u) (EP X pins σ Q) X.xe s
  have hl : PySem.W.Looks (model X.prog X.w) s.heap (typeOf u) t := by
    cases hp with
    | non => cases (show u = Value.none from ry); exact PySem.W.Looks.of_pure rfl
    | int i => obtain ⟨k, rfl⟩ := (show ∃ k, u = Value.int i k from ry); exact PySem.W.Looks.of_pure rfl
    | str z => obtain ⟨k, rfl⟩ := (show ∃ k, u = Value.str z k from ry); exact PySem.W.Looks.of_pure rfl
  refine PySem.W.cmp_K (op := .Eq) (tb := t) hr.units0 hF I.ok.mod.kin J hl hn hs hf ?_
  refine wpAny_mono (run_fn (us := [.ref a, u]) (vs := [.ref a, y]) (ds := []) (dvs := []) F hr hb .nil hx I (.cons rfl (.cons ry .nil)) (by rw [List.append_nil]; exact q)) (fun w s' z => ?_) fun _ _ x => x
  obtain ⟨z', H', I', rz, qz⟩ := z
  exact SlX.cmpback rz ⟨z', H', I', rz, qz⟩
theorem op_oeqP {X : Cx} {k j : Nat} {C : Addr} {sp : Sp} (c : OEq X.prog X.w X.K X.mg X.base k C sp) (hr : Room j X.A) (hk : k ≤ j) : OpR X (compareOp .Eq) (rOwnP X.K C sp L2.E0) := by
  obtain ⟨f, hs, hf, fd, ps, F, b⟩ := c.ex
  exact op_ownP F hs hf b (hr.mono hk) L2.pass0
section
variable {K : PySem.W.Frag} {F B B1 H H1 : Hp} {as as1 : List Addr} {G : List (Option Sl)} {M M1 M2 : List MO} {ta tb tv : TE} {tr tk : TA} {C : Addr} {fs gs : Fs} {E : XK}
theorem ro_ownP {R : List Sl → List MO → Sl → List MO → Prop} {z y : Dt} {t : Value} (ht : ∀ B v, Rp K B y v → PlV v t) (hn : PySem.W.notFirst K C t = true) (hR : R [.d (insD C fs), .d y] [] (.d z) []) : RO K (rOwnP K C (SpR K 2 R) E) (insD C fs) y z := fun F B as M H v u Q ow rv ru q => by
  obtain ⟨a, dx, rfl, ea⟩ := rp_ins (K := K) rv
  refine ⟨a, dx, fs, t, rfl, ow.bb _ _ ea, ht B u ru, hn, ?_⟩
  exact call_core (ds := [insD C fs, y]) hR rfl ow ⟨_, _, rfl, rv, _, _, rfl, ru, rfl⟩ fun w B' as' H' g o' r' => by
    obtain ⟨g2, o2⟩ := back0 ow g o'
    exact q w B' H' g2 o2 r'
/-! ### C(..) at large: what stands behind the new object -/
theorem made_own {x dx : Addr} (o1 : Ow K F B1 as1 M1 H1) (hx : H1 x = none) (hdx : H1 dx = none) (ne : dx ≠ x) :
    Ow K F (upd B1 dx (.own x)) as1 M1 (upd H1 dx (.own x)) ∧ Gr F B1 (upd B1 dx (.own x)) ∧ F x = none ∧ (upd H1 dx (.own x)) x = none ∧ Ow K (upd H1 dx (.own x)) (upd B1 dx (.own x)) [x] [insM C []] (upd (upd H1 dx (.own x)) x (.ins C dx [])) := by
  have od := o1.new hdx (.own x)
  have gd := o1.gr hdx (.own x)
  have hx1 : (upd H1 dx (.own x)) x = none := by rw [upd_ne (Ne.symm ne)]; exact hx
  have bx : (upd B1 dx (.own x)) x = none := od.bb.free hx1
  refine ⟨od, gd, od.fb.free hx1, hx1, ⟨fun b u e => ?_, fun b u e => ?_, rfl, by simp, fun b hb => ?_, fun b hb => ?_, fun j b m e1 e2 hm => ?_⟩⟩
  · rw [upd_ne (ne_of_none e hx1)]; exact e
  · rw [upd_ne (ne_of_none e bx)]; exact od.bb b u e
  · obtain rfl : b = x := by simpa using hb
    rw [upd_same]; exact fun z => nomatch z
  · obtain rfl : b = x := by simpa using hb
    exact hx1
  · cases j with
    | zero =>
      obtain rfl : x = b := Option.some.inj e1
      obtain rfl : insM C [] = m := Option.some.inj e2
      exact ⟨hx1, bx, _, upd_same, (by intro vs z; cases z), fun B' _ => ⟨dx, rfl⟩⟩
    | succ j => simp at e1
/-- C(k = v, ..) -/
theorem ev_makeK {n m : Nat} {R : List Sl → List MO → Sl → List MO → Prop} {ds es : List Dt} {gV : List V → List V → List V} (h : EvA K tk G M (ds.map Sl.d) M1) (hm : ds.length = m)
    (hg : ∀ x zs B, RpL K B ds zs → ∃ rs, gV [x] zs = x :: rs ∧ RpL K B es rs) (hR : R (.o 0 :: es.map Sl.d) [insM C []] (.d .non) [insM C fs]) (hn : es.length + 1 = n) :
    EvE K (tMakeK C 0 m (SpR K n R) gV E tNil tk) G M (.d (insD C fs)) M1 := fun F B as σ H ow sl Q q =>
  h F B as σ H ow sl _ fun zs B1 as1 H1 g1 p1 o1 r1 => ⟨rfl, by rw [r1.len, List.length_map]; exact hm, fun x dx hx hdx ne => by
    obtain ⟨od, gd, fx, hx1, oc⟩ := made_own (C := C) o1 hx hdx ne
    obtain ⟨rs, e, hr⟩ := hg (.ref x) zs B1 (SlL.data r1)
    rw [e]
    refine ⟨_, _, [x], .o 0 :: es.map Sl.d, [insM C []], .d .non, [insM C fs], hR, oc, ⟨.ref x, rs, rfl, ⟨x, rfl, rfl⟩, SlL.of_data (RpL.mono gd.1 _ _ hr)⟩, ?_, fun v B' as' H' g p o' r' => ⟨r', ?_⟩⟩
    · rw [List.length_cons, hr.len]; exact hn
    · obtain ⟨tl, rfl⟩ := p
      obtain ⟨f0, b0, o, ho, nt, φ⟩ := o'.own 0 x _ rfl rfl (fun z => nomatch z)
      obtain ⟨dx', rfl⟩ := φ B' (Same.refl B')
      obtain ⟨g2, o2⟩ := back0 od g o'
      obtain ⟨g3, o3⟩ := Ow_know o2 ho b0 fx (fun hm => od.al x hm hx1)
      exact q _ _ as1 H' (g1.trans (gd.trans (g2.trans g3))) p1 o3 (rp_ins_of (K := K) upd_same)⟩
end
/-! ### C(..), where __init__ may raise -/
def tMakeSD (C : Addr) (sp : Sp) (E : L2.St → XK) (t : TA) : TE := fun σ H Q => t σ H fun vs H1 => ∀ x dx, H1 x = none → H1 dx = none → dx ≠ x →
  sp (.ref x :: vs) (upd (upd H1 dx (.own x)) x (.ins C dx [])) (fun v H2 => v = .non ∧ Q (.ref x) H2) (E σ)
section
variable {X : Cx} {CX : CXT} {k : Nat} {f C : Addr} {fd : FuncData} {ps : List Str} {sp : Sp} {E : L2.St → XK} {x : Str} {p pos : Pos} {e : Expr} {es : List Expr} {t : TA}
theorem run_makeSD {pins : List (Addr × Obj)} {σ : L2.St} {H : Hp} {s : Shared} {Q : VK} {us : List Value} {vs : List V} (M : Mk X.K C f) (F : FnOk X.prog X.w X.K X.mg X.base CX k f fd ps sp) (hr : Room (k + 1) X.A) (hb : Binds X.K fd ps [])
    (hx : PassesAt CX X σ (E σ)) (I : Inv X pins σ H s) (r : Vals vs us)
    (h : ∀ x dx, H x = none → H dx = none → dx ≠ x → sp (.ref x :: vs) (upd (upd H dx (.own x)) x (.ins C dx [])) (fun v H2 => v = .non ∧ Q (.ref x) H2) (E σ)) :
    wpAny (model X.prog X.w) X.A (call (.ref C) us) (EP X pins σ Q) X.xe s := by
  have hq := h (s.heap.objs.size + 1) s.heap.objs.size (I.hok.fresh (Nat.le_succ _)) (I.hok.fresh (Nat.le_refl _)) (Nat.ne_of_lt (Nat.lt_succ_self _))
  have I2 := Inv.made (C := C) I
  have r2 : Vals (V.ref (s.heap.objs.size + 1) :: vs) (Value.ref (s.heap.objs.size + 1) :: us) := .cons rfl r
  have hl : (Value.ref (s.heap.objs.size + 1) :: us).length = ps.length := by
    have e := r2.length
    rw [F.len _ _ _ _ hq] at e
    exact e.symm
  refine wpAny_call (make_map (f := f) I.kIn M.makes M.init (beq_iff_eq.mp M.fn) (codeAny_mono (F.run _ X.stack _ _ ⟨Value.ref (s.heap.objs.size + 1) :: us, []⟩ (Value.ref (s.heap.objs.size + 1) :: us) _ _ (E σ) (hr.make C us [])
    (I2.env0.make C us []) (by
      have := hb _ (Value.ref (s.heap.objs.size + 1) :: us) I2.kIn (by rw [List.append_nil]; exact hl)
      rw [List.append_nil] at this
      exact this) r2 hq) fun r s' hq' => ?_))
  cases r with
  | error e => exact hx pins _ _ e s' I2 hq'
  | ok fl =>
    cases fl with
    | ret u =>
      obtain ⟨v, H', I3, rv, ev, q3⟩ := I2.after hq'
      subst ev
      exact ⟨rv, ⟨V.ref (s.heap.objs.size + 1), H', I3, rfl, q3⟩⟩
    | next => exact False.elim hq'
    | brk => exact False.elim hq'
    | cont => exact False.elim hq'
theorem pe_makeSD (M : Mk X.K C f) (F : FnOk X.prog X.w X.K X.mg X.base CX k f fd ps sp) (hr : Room (k + 1) X.A) (hg : Gl X x) (hm : X.mg x = some (.ref C)) (hb : Binds X.K fd ps []) (hx : ∀ σ, PassesAt CX X σ (E σ))
    (ha : PA X (e :: es) t) (hdb : (x == ("__debug__" : Str)) = false := by decide) (he : starEach (e :: es) X.env = (false, eval e X.env) :: starEach es X.env := by rfl) (hpl : (backTo pos (starEach es X.env)).any (·.1) = false := by rfl) :
    PE X (.Call (.Name x p) (e :: es) [] pos) (tMakeSD C sp E t) := by
  refine ⟨fun pins s σ H Q I h => ?_⟩
  refine wpAny_Call_Name_kw (ld_glob I hg hm ?_ hdb)
  refine PySem.W.callWith_K (h₀ := X.base) I.ok.mod.kin M.kp (thn (ha.run pos pins s σ H _ I h) fun us s1 ⟨vs, H1, I1, r, q⟩ => ⟨I1.kIn, ?_⟩) he hpl
  exact run_makeSD M F hr hb (hx σ) I1 r q
end
section
variable {K : PySem.W.Frag} {G : List (Option Sl)} {M M1 : List MO} {tr : TA} {C : Addr} {fs : Fs} {E : L2.St → XK} {W : WX} {x' : Ex} {n : Nat} {R : List Sl → List MO → Sl → List MO → Prop} {RX : List Sl → List MO → Ex → List MO → Prop} {ds : List Dt}
theorem ev_makeX (h : EvA K tr G M (ds.map Sl.d) M1) (hR : R (.o 0 :: ds.map Sl.d) [insM C []] (.d .non) [insM C fs]) (hn : ds.length + 1 = n) :
    EvE K (tMakeSD C (SpX K n R RX) E tr) G M (.d (insD C fs)) M1 := fun F B as σ H ow sl Q q =>
  h F B as σ H ow sl _ fun vs B1 as1 H1 g1 p1 o1 r1 => fun x dx hx hdx ne => by
    obtain ⟨od, gd, fx, hx1, oc⟩ := made_own (C := C) o1 hx hdx ne
    refine ⟨_, _, [x], .o 0 :: ds.map Sl.d, [insM C []], oc, ⟨.ref x, vs, rfl, ⟨x, rfl, rfl⟩, SlL.of_data (RpL.mono gd.1 _ _ (SlL.data r1))⟩, by rw [List.length_cons, r1.len, List.length_map]; exact hn, .inl ⟨.d .non, [insM C fs], hR, fun v B' as' H' g p o' r' => ⟨r', ?_⟩⟩⟩
    obtain ⟨tl, rfl⟩ := p
    obtain ⟨f0, b0, o, ho, nt, φ⟩ := o'.own 0 x _ rfl rfl (fun z => nomatch z)
    obtain ⟨dx', rfl⟩ := φ B' (Same.refl B')
    obtain ⟨g2, o2⟩ := back0 od g o'
    obtain ⟨g3, o3⟩ := Ow_know o2 ho b0 fx (fun hm => od.al x hm hx1)
    exact q _ _ as1 H' (g1.trans (gd.trans (g2.trans g3))) p1 o3 (rp_ins_of (K := K) upd_same)
theorem ex_makeX {N : List MO} (h : EvA K tr G M (ds.map Sl.d) M1) (hR : RX (.o 0 :: ds.map Sl.d) [insM C []] x' N) (hn : ds.length + 1 = n) :
    EvX K (tMakeSD C (SpX K n R RX) (WE W) tr) W G M x' M1 := fun F B as σ H ow sl q Q =>
  h F B as σ H ow sl _ fun vs B1 as1 H1 g1 p1 o1 r1 => fun x dx hx hdx ne => by
    obtain ⟨od, gd, fx, hx1, oc⟩ := made_own (C := C) o1 hx hdx ne
    refine ⟨_, _, [x], .o 0 :: ds.map Sl.d, [insM C []], oc, ⟨.ref x, vs, rfl, ⟨x, rfl, rfl⟩, SlL.of_data (RpL.mono gd.1 _ _ (SlL.data r1))⟩, by rw [List.length_cons, r1.len, List.length_map]; exact hn, .inr ⟨x', N, hR, fun cls d B' as' H' g p o' r' => ?_⟩⟩
    obtain ⟨g2, o2⟩ := back0 od g o'
    exact q B' as1 H' cls d (g1.trans (gd.trans g2)) p1 o2 r'
end
end LJ
namespace DJ
open PySem PySem.Spec PyProof.Rows L2
section
variable {K : PySem.W.Frag} {G G1 G2 : List (Option Sl)} {M M1 M2 : List MO} {ta tb te : TE} {tt : TT} {W : WX} {x : Ex}
/-- a text, or another one in the place of none -/
theorem ev_orS {l m : List Nat} (h1 : EvE K ta G M (.d (.str l)) M1) (hl : l.length ≤ 1000000) (h2 : l = [] → EvE K tb G M1 (.d (.str m)) M1) : EvE K (tOrT K ta tb) G M (.d (.str (if l = [] then m else l))) M1 := fun F B as σ H o sl Q q =>
  h1 F B as σ H o sl _ fun v B1 as1 H1 g1 p1 o1 r1 => by
    have r1 : v = .str (tx l) := r1
    subst r1
    have e1 : (tx l).length = l.length := by simp [Str.length]
    refine ⟨!decide (l = []), ⟨by rw [e1, sizeLine_eq]; omega, ?_⟩, ?_⟩
    · show _ = (((tx l).length : Int) != 0)
      rw [e1]
      cases l with
      | nil => rfl
      | cons a r => simp; omega
    · by_cases z : l = []
      · rw [decide_eq_true z, if_neg (by simp)]
        rw [if_pos z] at q
        exact h2 z F B1 as1 σ H1 o1 (sl.mono g1.1 p1) _ fun w B2 as2 H2 g2 p2 o2 r2 => q w B2 as2 H2 (g1.trans g2) (p1.trans p2) o2 r2
      · rw [decide_eq_false z, if_pos (by simp)]
        rw [if_neg z] at q
        exact q _ B1 as1 H1 g1 p1 o1 rfl
/-- a text of a module's dict -/
theorem ro_kd {w : World} {d : Addr} {k z : List Nat} (h : KDct K w d (tx k) (.str (tx z))) : RO K (rIxD K w) (.raw (.ref d)) (.str k) (.str z) := fun F B as M H v u Q ow r1 r2 q => by
  have r1 : v = .ref d := r1
  have r2 : u = .str (tx k) := r2
  subst r1; subst r2
  exact ⟨d, tx k, _, rfl, rfl, h, q _ B H (Gr.refl F B) ow rfl⟩
/-- a while that raises in one of its turns -/
theorem er_while {α : Type} {tb : TS} (enc : α → List (Option Sl)) (encM : α → List MO) (P : α → Prop) (μ : α → Nat) (a0 : α) (hp : P a0) (h0 : Lg G (enc a0)) (hM : M = encM a0)
    (test : ∀ a, P a → EvT K tt (enc a) (encM a) true (encM a))
    (turn : ∀ a, P a → (∃ a', P a' ∧ μ a' < μ a ∧ EvS K tb (enc a) (encM a) (.nx (enc a') (encM a'))) ∨ EvR K tb W (enc a) (encM a) x G2 M2) :
    EvR K (tWhile tt tb) W G M x G2 M2 := fun F B as σ H ow sl q D => by
  subst hM
  refine ⟨fun m σ' H' => ∃ B' as' a, m = μ a ∧ P a ∧ Gr F B B' ∧ Px as as' ∧ Ow K F B' as' (encM a) H' ∧ Slt K B' as' (enc a) σ', ⟨μ a0, B, as, a0, rfl, hp, Gr.refl F B, Px.refl as, ow, sl.weak h0⟩, fun m σ' H' z => ?_⟩
  obtain ⟨B1, as1, a, rfl, pa, g1, p1, o1, s1⟩ := z
  refine test a pa F B1 as1 σ' H' o1 s1 _ fun B2 as2 H2 g2 p2 o2 => ?_
  rw [if_pos rfl]
  have gg := g1.trans g2
  have pp := p1.trans p2
  refine ⟨fun σ3 H3 => ∃ B' as' a', P a' ∧ μ a' < μ a ∧ Gr F B B' ∧ Px as as' ∧ Ow K F B' as' (encM a') H3 ∧ Slt K B' as' (enc a') σ3, fun σ3 H3 n3 => ?_, ?_⟩
  · obtain ⟨B3, as3, a', pa', lt, q1, q2, q3, q4⟩ := n3
    exact ⟨μ a', lt, B3, as3, a', rfl, pa', q1, q2, q3, q4⟩
  · rcases turn a pa with ⟨a', pa', lt, ht⟩ | ht
    · exact ht F B2 as2 σ' H2 o2 (s1.mono g2.1 p2) _ fun B4 as4 σ4 H4 g4 p4 o4 s4 => ⟨B4, as4, a', pa', lt, gg.trans g4, pp.trans p4, o4, s4⟩
    · exact ht F B2 as2 σ' H2 o2 (s1.mono g2.1 p2) (fun B' as' σ4 H4 cls d g4 p4 o4 s4 r4 => q B' as' σ4 H4 cls d (gg.trans g4) (pp.trans p4) o4 s4 r4) _
/-- name op= e, of integers -/
theorem es_augI {i : Nat} {a b : Int} {f : Int → Int → Int} (hi : G[i]? = some (some (.d (.int a)))) (h : EvE K te G M (.d (.int b)) M1) : EvS K (tAug i te (ipI f)) G M (.nx (G.set i (some (.d (.int (f a b))))) M1) := fun F B as σ H ow sl D gd => by
  obtain ⟨v, e, r⟩ := sl.2 i _ hi
  have r : v = .int a := r
  subst r
  refine ⟨_, e, h F B as σ H ow sl _ fun v B' as' H' g p o' r => ?_⟩
  have r : v = .int b := r
  subst r
  exact ⟨a, b, rfl, rfl, gd B' as' _ H' g p o' ((sl.mono g.1 p).set i rfl)⟩
/-- a while that is passed -/
theorem es_while_no {tb : TS} (h : EvT K tt G M false M) : EvS K (tWhile tt tb) G M (.nx G M) :=
  es_while (α := Unit) (fun _ => G) (fun _ => M) (fun _ => True) (fun _ => false) (fun _ => .inl ()) (fun _ => 0) (fun _ => .inl ()) () trivial (fun _ _ => rfl) (Lg.refl G) rfl (fun _ _ => h) (fun _ _ h => nomatch h)
theorem Ow.letgo {F B H : Hp} {as : List Addr} (h : Ow K F B as M H) (k : Nat) : Ow K F B as (M.set k .gone) H := by
  refine ⟨h.fb, h.bb, by rw [List.length_set]; exact h.len, h.nd, h.al, h.fa, fun j c n q1 q2 hn => ?_⟩
  by_cases z : k = j
  · subst z
    by_cases hl : k < M.length
    · rw [List.getElem?_set_self hl] at q2
      exact absurd (Option.some.inj q2).symm hn
    · rw [List.getElem?_eq_none (by rw [List.length_set]; omega)] at q2
      cases q2
  · rw [List.getElem?_set_ne z] at q2
    exact h.own j c n q1 q2 hn
theorem er_gone {t : TS} (k : Nat) (h : EvR K t W G M x G1 M1) : EvR K t W G M x G1 (M1.set k .gone) := fun F B as σ H ow sl q D =>
  h F B as σ H ow sl (fun B' as' σ' H' cls d g p o' s' r => q B' as' σ' H' cls d g p (o'.letgo k) s' r) D
theorem er_nM {t : TS} {M' : List MO} (e : M = M') (h : EvR K t W G M' x G1 M1) : EvR K t W G M x G1 M1 := e ▸ h
theorem es_whileO {α : Type} {tb : TS} {o : Out} (enc : α → List (Option Sl)) (encM : α → List MO) (P : α → Prop) (c : α → Bool) (f : α → α ⊕ Out) (μ : α → Nat) (w : α → α ⊕ Out) (a0 : α) (he : outF enc encM (w a0) = o) (hp : P a0)
    (hw : ∀ a, P a → w a = if c a = true then (match f a with | .inl a' => w a' | .inr o => .inr o) else .inl a)
    (h0 : Lg G (enc a0)) (hM : M = encM a0) (test : ∀ a, P a → EvT K tt (enc a) (encM a) (c a) (encM a))
    (turn : ∀ a, P a → c a = true → Turns K enc encM tb (enc a) (encM a) (f a) ∧ ∀ a', f a = .inl a' → P a' ∧ μ a' < μ a) :
    EvS K (tWhile tt tb) G M o := he ▸ es_while enc encM P c f μ w a0 hp hw h0 hM test turn
end
theorem es_forNn {K : PySem.W.Frag} {G : List (Option Sl)} {M : List MO} {β : Type} {wi : TI} {g : TG} {tb : TS} (xs : List β) (n : Nat) (hn : xs.length = n) (en : β → Dt) (Gn : Nat → List (Option Sl)) (Mn : Nat → List MO) (hI : EvI K wi G M (xs.map en) (Mn 0)) (h0 : Lg G (Gn 0))
    (turn : ∀ (i : Nat) (x : β), i < n → xs[i]? = some x → ∃ G1, EvG K g (Gn i) (.d (en x)) G1 ∧ EvS K tb G1 (Mn i) (.nx (Gn (i + 1)) (Mn (i + 1)))) : EvS K (tFor wi g tb) G M (.nx (Gn n) (Mn n)) := by
  subst hn
  exact es_forN xs en Gn Mn hI h0 fun i x hx => by
    obtain ⟨G1, h1, h2⟩ := turn i x (List.getElem?_eq_some_iff.mp hx).1 hx
    exact ⟨G1, h1, .inl h2⟩
theorem gc_ref {K : PySem.W.Frag} {h : Heap} {mg : Str → Option Value} {x : Str} {a : Addr} (X : K.In h) (G : h.Ns mainGlobals mg) (e : PySem.W.nsIn K mainGlobals x = some (some (.ref a))) : Gc K mg x (.raw (.ref a)) := ⟨.ref a, _, PySem.W.mg_of X G e, rfl, fun _ => rfl⟩
end DJ
namespace DJ
open PySem PySem.Spec PyProof.Rows L2
/-! ### a dict of the module, texts to texts: all its keys are told -/
abbrev Kvs := List (List Nat × List Nat)
def getK : Kvs → List Nat → Option (List Nat)
  | [], _ => none
  | (k, v) :: r, z => if k = z then some v else getK r z
def entsOf : Kvs → List DictEntry → Bool
  | [], [] => true
  | (k, v) :: r, e :: es => (match e.key, e.val with
    | .str x _, .str y _ => decide (x = tx k) && decide (y = tx v)
    | _, _ => false) && entsOf r es
  | _, _ => false
structure TDict (K : PySem.W.Frag) (w : World) (d : Addr) (kvs : Kvs) (es : Array DictEntry) (n : Nat) : Prop where
  kd : KDict K w d es n
  ents : entsOf kvs es.toList = true
theorem isStr_tx (x : Str) (t : Tok) (z : Str) : (Value.str x t).isStr z = (x == z) := rfl
theorem find_ents : ∀ {kvs : Kvs} {l : List DictEntry}, entsOf kvs l = true → ∀ z, match getK kvs z with
    | some v => ∃ e t, l.find? (·.key.isStr (tx z)) = some e ∧ e.val = .str (tx v) t
    | none => l.find? (·.key.isStr (tx z)) = none ∧ l.any (·.refKey) = false
  | [], [], _, z => ⟨rfl, rfl⟩
  | [], _ :: _, h, z => by cases h
  | _ :: _, [], h, z => by cases h
  | (k, v) :: r, e :: es, h, z => by
    obtain ⟨hs, key, val⟩ := e
    unfold entsOf at h
    rw [Bool.and_eq_true] at h
    obtain ⟨h1, h2⟩ := h
    have ih := find_ents h2 z
    cases key <;> try (exact absurd h1 Bool.false_ne_true)
    rename_i x t
    cases val <;> try (exact absurd h1 Bool.false_ne_true)
    rename_i y u
    simp only [Bool.and_eq_true, decide_eq_true_eq] at h1
    obtain ⟨rfl, rfl⟩ := h1
    unfold getK
    by_cases q : k = z
    · subst q
      rw [if_pos rfl]
      exact ⟨_, u, List.find?_cons_of_pos (by rw [isStr_tx]; exact beq_self_eq_true _), rfl⟩
    · rw [if_neg q]
      have hn : ¬ (Value.str (tx k) t).isStr (tx z) = true := by
        rw [isStr_tx]
        intro e
        exact q (tx_inj (eq_of_beq e))
      have e1 : ∀ (o : DictEntry), o.key = .str (tx k) t → (o :: es).find? (·.key.isStr (tx z)) = es.find? (·.key.isStr (tx z)) := fun o ho => List.find?_cons_of_neg (by rw [ho]; exact hn)
      rw [e1 _ rfl]
      cases hg : getK r z with
      | some v' => rw [hg] at ih; exact ih
      | none =>
        rw [hg] at ih
        refine ⟨ih.1, ?_⟩
        rw [List.any_cons, ih.2] <;> rfl
section
variable {K : PySem.W.Frag} {w : World} {d : Addr} {kvs : Kvs} {es : Array DictEntry} {n : Nat}
theorem TDict.hit (D : TDict K w d kvs es n) {z v : List Nat} (h : getK kvs z = some v) : KDct K w d (tx z) (.str (tx v)) := by
  have := find_ents D.ents z
  rw [h] at this
  obtain ⟨e, t, h1, h2⟩ := this
  refine ⟨es, n, .str (tx v) t, D.kd.at_, D.kd.lit, ?_, ⟨t, rfl⟩⟩
  unfold PySem.W.nsIn
  rw [D.kd.at_]
  show (match es.toList.find? (·.key.isStr (tx z)) with | some e => some (some e.val) | none => if es.toList.any (·.refKey) then none else some none) = _
  rw [h1]
  show some (some e.val) = _
  rw [h2]
theorem TDict.ns (D : TDict K w d kvs es n) (z : List Nat) : ∃ r, PySem.W.nsIn K d (tx z) = some r ∧ r.isSome = (getK kvs z).isSome := by
  have := find_ents D.ents z
  unfold PySem.W.nsIn
  rw [D.kd.at_]
  show ∃ r, (match es.toList.find? (·.key.isStr (tx z)) with | some e => some (some e.val) | none => if es.toList.any (·.refKey) then none else some none) = some r ∧ _
  cases h : getK kvs z with
  | some v =>
    rw [h] at this
    obtain ⟨e, t, h1, h2⟩ := this
    rw [h1]
    exact ⟨_, rfl, rfl⟩
  | none =>
    rw [h] at this
    rw [this.1, this.2]
    exact ⟨none, rfl, rfl⟩
theorem ro_inKd (D : TDict K w d kvs es n) {z : List Nat} : RO K (fun x y H Q => ∃ (z : Str) (r : Option Value), x = .str z ∧ y = .ref d ∧ PySem.W.nsIn K d z = some r ∧ Q (.bl r.isSome) H) (.str z) (.raw (.ref d)) (.bl (getK kvs z).isSome) := fun F B as M H v u Q ow r1 r2 q => by
  have r1 : v = .str (tx z) := r1
  have r2 : u = .ref d := r2
  subst r1; subst r2
  obtain ⟨r, h1, h2⟩ := D.ns z
  exact ⟨tx z, r, rfl, rfl, h1, q _ B H (Gr.refl F B) ow (by rw [h2] <;> rfl)⟩
end
end DJ
/-! ### text.find(one sign, place) -/
namespace DJ
open PySem PySem.Spec PyProof.Rows L2
theorem occ_full (s y : Str) (hi : Nat) : ∀ (l : List Nat) (st : Array Nat × Nat), st.1.size = 1 → (forIn l st (StrLaws.occBody s y hi 1)).run.1 = st.1
  | [], st, _ => rfl
  | a :: l, st, h => by
    rw [List.forIn_cons]
    unfold StrLaws.occBody
    rw [if_neg (fun z => by have := z.1.1.1; omega)]
    exact occ_full s y hi l _ h
theorem occ_first (s y : Str) (hi : Nat) : ∀ (m cur free : Nat), free ≤ cur → ∀ i, cur ≤ i → i < cur + m → i + y.length ≤ hi → Builtin.Str.subAt s y i = true → (∀ k, cur ≤ k → k < i → Builtin.Str.subAt s y k = false) →
    (forIn (List.range' cur m) ((#[] : Array Nat), free) (StrLaws.occBody s y hi 1)).run.1.toList = [i]
  | 0, cur, free, _, i, h1, h2, _, _, _ => by omega
  | m + 1, cur, free, hf, i, h1, h2, h3, h4, h5 => by
    rw [List.range'_succ, List.forIn_cons]
    unfold StrLaws.occBody
    by_cases e : cur = i
    · subst e
      rw [if_pos ⟨⟨⟨by simp, hf⟩, h3⟩, h4⟩]
      have := occ_full s y hi (List.range' (cur + 1) m) ((#[] : Array Nat).push cur, cur + y.length) rfl
      show (forIn (List.range' (cur + 1) m) ((#[] : Array Nat).push cur, cur + y.length) (StrLaws.occBody s y hi 1)).run.1.toList = _
      rw [this] <;> rfl
    · rw [if_neg (fun z => by have := h5 cur (Nat.le_refl _) (by omega); rw [this] at z; exact absurd z.2 (by decide))]
      exact occ_first s y hi m (cur + 1) free (by omega) i (by omega) (by omega) h3 h4 (fun k k1 k2 => h5 k (by omega) k2)
theorem find3_tx {t l r : List Nat} {c p : Nat} (h : t.drop p = l ++ c :: r) (hn : c ∉ l) : Txt.find3 (tx t) (tx [c]) (p : Int) = ((p + l.length : Nat) : Int) := by
  have hp : p + (l.length + (r.length + 1)) = t.length := by
    have := congrArg List.length h
    rw [List.length_drop, List.length_append, List.length_cons] at this
    omega
  have hf : PySem.fromIndex (tx t).length (p : Int) = p := by
    unfold PySem.fromIndex
    rw [if_neg (by omega)]
    omega
  have ge : ∀ i, p ≤ i → Builtin.Str.subAt (tx t) (tx [c]) i = (((l ++ c :: r).drop (i - p)).take 1 == [c]) := fun i hi => by
    rw [sub_tl, ← h, List.drop_drop]
    have : p + (i - p) = i := by omega
    rw [this] <;> rfl
  unfold Txt.find3
  rw [hf, StrLaws.occ_eq, tx_len]
  rw [occ_first (tx t) (tx [c]) t.length (t.length + 1 - p) p p (Nat.le_refl _) (p + l.length) (by omega) (by omega) (by rw [tx_len]; show p + l.length + 1 ≤ _; omega) ?_ ?_]
  · rw [ge _ (by omega), Nat.add_sub_cancel_left, List.drop_left]
    exact beq_self_eq_true _
  · intro k k1 k2
    rw [ge k k1]
    have hk : k - p < l.length := by omega
    rw [List.drop_append_of_le_length (by omega)]
    refine beq_eq_false_iff_ne.mpr fun z => hn ?_
    rw [List.drop_eq_getElem_cons hk, List.cons_append, List.take_succ_cons] at z
    have z : l[k - p] = c := (List.cons.inj z).1
    rw [← z]
    exact List.getElem_mem hk
theorem rm_find3 {K : PySem.W.Frag} {t l r : List Nat} {c p : Nat} (h : t.drop p = l ++ c :: r) (hn : c ∉ l) : RM K (fun x xs H Q => ∃ (a b : Str) (i : Int), x = .str a ∧ xs = [.str b, .int i] ∧ Q (.int (Txt.find3 a b i)) H) (.str t) [.str [c], .int (p : Int)] (.int ((p + l.length : Nat) : Int)) := fun F B as M H v vs Q ow r1 r2 q => by
  obtain ⟨v1, rr, e, h1, v2, rr2, e2, h2, h3⟩ := r2
  obtain rfl : v = V.str (tx t) := r1
  obtain rfl : v1 = V.str (tx [c]) := h1
  obtain rfl : v2 = V.int (p : Int) := h2
  obtain rfl : rr2 = [] := h3
  subst e2; subst e
  refine ⟨tx t, tx [c], (p : Int), rfl, rfl, ?_⟩
  rw [find3_tx h hn]
  exact q _ B H (Gr.refl F B) ow rfl
/-- a while whose test changes what is owned -/
theorem es_whileT {K : PySem.W.Frag} {G : List (Option Sl)} {M : List MO} {tt : TT} {o : Out} {α : Type} {tb : TS} (enc : α → List (Option Sl)) (encM encT : α → List MO) (P : α → Prop) (c : α → Bool) (f : α → α ⊕ Out) (μ : α → Nat) (w : α → α ⊕ Out) (a0 : α) (he : outF enc encM (w a0) = o) (hp : P a0)
    (hw : ∀ a, P a → w a = if c a = true then (match f a with | .inl a' => w a' | .inr o => .inr o) else .inl a)
    (h0 : Lg G (enc a0)) (hM : M = encM a0) (hT : ∀ a, P a → c a = false → encT a = encM a) (test : ∀ a, P a → EvT K tt (enc a) (encM a) (c a) (encT a))
    (turn : ∀ a, P a → c a = true → Turns K enc encM tb (enc a) (encT a) (f a) ∧ ∀ a', f a = .inl a' → P a' ∧ μ a' < μ a) :
    EvS K (tWhile tt tb) G M o := fun F B as σ H ow sl D gd => by
  subst hM
  subst he
  refine ⟨fun m σ' H' => ∃ B' as' a, m = μ a ∧ P a ∧ w a = w a0 ∧ Gr F B B' ∧ Px as as' ∧ Ow K F B' as' (encM a) H' ∧ Slt K B' as' (enc a) σ', ⟨μ a0, B, as, a0, rfl, hp, rfl, Gr.refl F B, Px.refl as, ow, sl.weak h0⟩, fun m σ' H' q => ?_⟩
  obtain ⟨B1, as1, a, rfl, pa, wa, g1, p1, o1, s1⟩ := q
  refine test a pa F B1 as1 σ' H' o1 s1 _ fun B2 as2 H2 g2 p2 o2 => ?_
  have hwa := hw a pa
  cases ec : c a with
  | false =>
    rw [ec] at hwa
    rw [if_neg Bool.false_ne_true] at hwa ⊢
    rw [← wa, hwa] at gd
    rw [hT a pa ec] at o2
    exact gd B2 as2 σ' H2 (g1.trans g2) (p1.trans p2) o2 (s1.mono g2.1 p2)
  | true =>
    rw [ec] at hwa
    rw [if_pos rfl] at hwa ⊢
    obtain ⟨ht, hd⟩ := turn a pa ec
    refine ⟨fun σ3 H3 => ∃ B' as' a', f a = .inl a' ∧ Gr F B B' ∧ Px as as' ∧ Ow K F B' as' (encM a') H3 ∧ Slt K B' as' (enc a') σ3, fun σ3 H3 n3 => ?_, ?_⟩
    · obtain ⟨B3, as3, a', e, q1, q2, q3, q4⟩ := n3
      obtain ⟨pa', lt⟩ := hd a' e
      rw [e] at hwa
      exact ⟨μ a', lt, B3, as3, a', rfl, pa', hwa.symm.trans wa, q1, q2, q3, q4⟩
    · have gg := g1.trans g2
      have pp := p1.trans p2
      cases e : f a with
      | inl a' =>
        rw [e] at ht
        rcases ht with ht | ht
        · exact ht F B2 as2 σ' H2 o2 (s1.mono g2.1 p2) _ fun B4 as4 σ4 H4 g4 p4 o4 s4 => ⟨B4, as4, a', rfl, gg.trans g4, pp.trans p4, o4, s4⟩
        · exact ht F B2 as2 σ' H2 o2 (s1.mono g2.1 p2) _ fun B4 as4 σ4 H4 g4 p4 o4 s4 => ⟨B4, as4, a', rfl, gg.trans g4, pp.trans p4, o4, s4⟩
      | inr o =>
        rw [e] at ht hwa
        rw [← wa, hwa] at gd
        cases o with
        | nx G' M' => exact ht F B2 as2 σ' H2 o2 (s1.mono g2.1 p2) _ fun B4 as4 σ4 H4 g4 p4 o4 s4 => gd B4 as4 σ4 H4 (gg.trans g4) (pp.trans p4) o4 s4
        | rt r M' => exact ht F B2 as2 σ' H2 o2 (s1.mono g2.1 p2) _ fun v B4 as4 H4 g4 p4 o4 s4 => gd v B4 as4 H4 (gg.trans g4) (pp.trans p4) o4 s4
        | bk _ _ => exact ht.elim
        | ct _ _ => exact ht.elim
/-- text.m(a, b) -/
def tM2 (r : V → List V → Hp → VK → Prop) (to te tf : TE) : TE := fun σ H Q => to σ H fun x H1 => (∃ a, x = .str a) ∧ te σ H1 fun y H2 => tf σ H2 fun z H3 => r x [y, z] H3 Q
theorem pe_m2 {X : Cx} {o e e' : Expr} {to te tf : TE} {id : String} {name : Str} {apos pos : Pos} {r : V → List V → Hp → VK → Prop} (slot : PySem.Slot "str" name id) (ty : typeOf (.builtin id) = pure (.type "method_descriptor")) (rule : MtR X id r) (ho : PE X o to) (he : PE X e te) (hf : PE X e' tf)
    (hs : starEach [e, e'] X.env = [(false, eval e X.env), (false, eval e' X.env)] := by rfl) (hbase : attributeBase o name X.env (eval o X.env) = eval o X.env := by rfl) (hline : (apos.endLine == pos.line) = true := by rfl) :
    PE X (.Call (.Attribute o name apos) [e, e'] [] pos) (tM2 r to te tf) := by
  refine ⟨fun pins s σ H Q I h => ?_⟩
  refine PySem.Call_method2 hbase hs hline (thn (ho.run pins s σ H _ I h) fun v s1 ⟨x, H1, I1, r1, q1⟩ => ?_)
  obtain ⟨⟨a, rfl⟩, q1⟩ := q1
  obtain ⟨t, rfl⟩ := _root_.id r1
  refine ⟨"str", _, PySem.F.plainAttrs_str, slot, ty, typeIs_str _ _ _, (fun _ e => nomatch e), Calls.callWith_builtin rfl (Calls.evalArgs_plain (Calls.spliced_cons ?_))⟩
  exact thn (he.run pins s1 σ H1 _ I1 q1) fun u s2 ⟨y, H2, I2, r2, q2⟩ => Calls.spliced_cons (thn (hf.run pins s2 σ H2 _ I2 q2) fun u' s3 ⟨z, H3, I3, r3, q3⟩ => Calls.spliced_nil (rule pins s3 σ H3 _ [y, z] _ [u, u'] Q I3 r1 (.cons r2 (.cons r3 .nil)) q3))
theorem ev_m2 {K : PySem.W.Frag} {G : List (Option Sl)} {M M1 M2 M3 : List MO} {ta tb tc : TE} {l : List Nat} {y y' z : Dt} {rm : V → List V → Hp → VK → Prop} (ha : EvE K ta G M (.d (.str l)) M1) (hb : EvE K tb G M1 (.d y) M2) (hc : EvE K tc G M2 (.d y') M3) (hr : RM K rm (.str l) [y, y'] z) : EvE K (tM2 rm ta tb tc) G M (.d z) M3 := fun F B as σ H ow sl Q q =>
  ha F B as σ H ow sl _ fun v B1 as1 H1 g1 p1 o1 r1 => ⟨⟨tx l, r1⟩, hb F B1 as1 σ H1 o1 (sl.mono g1.1 p1) _ fun u B2 as2 H2 g2 p2 o2 r2 =>
    hc F B2 as2 σ H2 o2 (sl.mono (g1.trans g2).1 (p1.trans p2)) _ fun u' B3 as3 H3 g3 p3 o3 r3 =>
      hr F B3 as3 M3 H3 v [u, u'] Q o3 (Rp.mono (g2.trans g3).1 _ _ r1) ⟨u, [u'], rfl, Rp.mono g3.1 _ _ r2, RpL.one r3⟩ fun w B4 H4 g4 o4 r4 => q w B4 as3 H4 (g1.trans (g2.trans (g3.trans g4))) (p1.trans (p2.trans p3)) o4 r4⟩
end DJ
/-! ### instances of a class with methods -/
namespace LJ
open PySem PySem.Spec PyProof.Rows L2 LamX DJ
section
variable {K : PySem.W.Frag} {F B B1 H H1 : Hp} {as as1 : List Addr} {G : List (Option Sl)} {M M1 M2 : List MO} {ta tb tv : TE} {tr tk t : TA} {C : Addr} {fs gs : Fs} {E : XK}
/-- e.f of the instance that is owned -/
theorem ev_fldM {k : Nat} {f : Str} {v : V} {y : Dt} (h : EvE K ta G M (.o k) M1) (hm : M1[k]? = some (insM C fs)) (c : Cls K C) (n : NoAttr K C f) (l : fs.lookup f = some v) (r : ∀ B, Rp K B y v) : EvE K (tFld K ta f) G M (.d y) M1 := fun F B as σ H ow sl Q q =>
  h F B as σ H ow sl _ fun x B1 as1 H1 g1 p1 o1 r1 => by
    obtain ⟨a, ha, rfl⟩ := r1
    obtain ⟨f0, b0, o, ho, nt, φ⟩ := o1.own k a _ ha hm (fun z => nomatch z)
    obtain ⟨dx, rfl⟩ := φ B1 (Same.refl B1)
    exact ⟨a, C, dx, fs, v, rfl, ho, c, n, l, q v B1 as1 H1 g1 p1 o1 (r B1)⟩
/-- e.f of an instance that is data -/
theorem ev_fldD {f : Str} {v : V} {y : Dt} (h : EvE K ta G M (.d (insD C fs)) M1) (c : Cls K C) (n : NoAttr K C f) (l : fs.lookup f = some v) (r : ∀ B, Rp K B y v) : EvE K (tFld K ta f) G M (.d y) M1 := fun F B as σ H ow sl Q q =>
  h F B as σ H ow sl _ fun x B1 as1 H1 g1 p1 o1 r1 => by
    obtain ⟨a, dx, rfl, e⟩ := rp_ins (K := K) r1
    exact ⟨a, C, dx, fs, v, rfl, o1.bb _ _ e, c, n, l, q v B1 as1 H1 g1 p1 o1 (r B1)⟩
/-- e.f += value -/
theorem es_fldAug {k : Nat} {f : Str} {x y z : Dt} {v u : V} {rd : R2} (hs : EvE K ta G M (.o k) M1) (hm : M1[k]? = some (insM C fs)) (c : Cls K C) (n : NoAttr K C f) (l : fs.lookup f = some v) (rv : ∀ B, Rp K B x v) (hv : EvE K tv G M1 (.d y) M1) (ro : RO K rd x y z) (hz : ∀ B w, Rp K B z w → w = u) (hl : (putF f u fs).length ≤ 1000) (hl2 : fs.length < 1000) :
    EvS K (sFldAug K ta tv rd f) G M (.nx G (M1.set k (insM C (putF f u fs)))) := fun F B as σ H ow sl D gd =>
  hs F B as σ H ow sl _ fun x' B1 as1 H1 g1 p1 o1 r1 => by
    obtain ⟨a, ha, rfl⟩ := r1
    obtain ⟨f0, b0, o, ho, nt, φ⟩ := o1.own k a _ ha hm (fun z => nomatch z)
    obtain ⟨dx, rfl⟩ := φ B1 (Same.refl B1)
    refine ⟨a, C, dx, fs, v, rfl, ho, c, n, l, ?_⟩
    refine hv F B1 as1 σ H1 o1 (sl.mono g1.1 p1) _ fun y' B2 as2 H2 g2 p2 o2 r2 => ?_
    refine ro F B2 as2 M1 H2 v y' _ o2 (rv B2) r2 fun w B3 H3 g3 o3 r3 => ?_
    obtain rfl := hz B3 w r3
    have ha2 : as2[k]? = some a := by
      obtain ⟨tl, rfl⟩ := p2
      rw [List.getElem?_append_left (List.getElem?_eq_some_iff.mp ha).1]; exact ha
    obtain ⟨_, _, o, ho, nt, φ⟩ := o3.own k a _ ha2 hm (fun z => nomatch z)
    obtain ⟨dx', rfl⟩ := φ B3 (Same.refl B3)
    exact ⟨dx', fs, ho, hl2, gd B3 as2 σ _ (g1.trans (g2.trans g3)) (p1.trans p2) (o3.put ha2 hm (fun z => nomatch z) ⟨_, upd_same, (by intro vs z; cases z), fun B' _ => ⟨dx', rfl⟩⟩) (sl.mono (g1.trans (g2.trans g3)).1 (p1.trans p2))⟩
/-- self.m(..): the owned instance is handed on, alone -/
theorem ev_meth {n : Nat} {R : List Sl → List MO → Sl → List MO → Prop} {m : Str} {ds : List Dt} {z : Dt} (h : EvE K ta G M (.o 0) [insM C fs]) (l : fs.lookup m = none) (ht : EvA K t G [insM C fs] (ds.map Sl.d) [insM C fs]) (hR : R (.o 0 :: ds.map Sl.d) [insM C fs] (.d z) M2) (hn : ds.length + 1 = n) :
    EvE K (tMeth C m (SpR K n R) [] E ta t) G M (.d z) M2 := fun F B as σ H ow sl Q q =>
  h F B as σ H ow sl _ fun x B1 as1 H1 g1 p1 o1 r1 => by
    obtain ⟨a, ha, rfl⟩ := r1
    obtain ⟨f0, b0, o, ho, nt, φ⟩ := o1.own 0 a _ ha rfl (fun z => nomatch z)
    obtain ⟨dx, rfl⟩ := φ B1 (Same.refl B1)
    refine ⟨a, dx, fs, rfl, ho, l, ?_⟩
    refine ht F B1 as1 σ H1 o1 (sl.mono g1.1 p1) _ fun vs B2 as2 H2 g2 p2 o2 r2 => ?_
    have ha2 : as2[0]? = some a := by
      obtain ⟨tl, rfl⟩ := p2
      rw [List.getElem?_append_left (List.getElem?_eq_some_iff.mp ha).1]; exact ha
    refine ⟨F, B2, as2, .o 0 :: ds.map Sl.d, [insM C fs], .d z, M2, hR, o2, ⟨.ref a, vs ++ [], rfl, ⟨a, ha2, rfl⟩, by rw [List.append_nil]; exact r2⟩, by rw [List.append_nil, List.length_cons, r2.len, List.length_map]; exact hn, fun v B' as' H' g p o' r' => q v B' as' H' (g1.trans (g2.trans g)) (p1.trans (p2.trans p)) o' r'⟩
end
/-- a method, found in the class -/
structure Mth (P : Program) (w : World) (K : PySem.W.Frag) (mg : Str → Option Value) (base : Heap) (k : Nat) (C : Addr) (m : Str) (sp : Sp) : Prop where
  ex : ∃ (f : Addr), Cls K C ∧ Meth K C m f ∧ Mtd P w K mg base k f sp
theorem Mth.met {P : Program} {w : World} {K : PySem.W.Frag} {mg : Str → Option Value} {base : Heap} {k : Nat} {C : Addr} {m : Str} {sp : Sp} (c : Mth P w K mg base k C m sp) : C8.Met P w K mg base k C m sp [] := by
  obtain ⟨f, hc, hm, fd, ps, F, b⟩ := c.ex
  exact ⟨f, fd, ps, [], hc, hm, F, b, .nil⟩
/-! ### __init__ that may raise -/
structure MtdX (P : Program) (w : World) (K : PySem.W.Frag) (mg : Str → Option Value) (base : Heap) (k : Nat) (f : Addr) (sp : Sp) : Prop where
  ex : ∃ (fd : FuncData) (ps : List Str), FnOk P w K mg base (L2.CX P w) k f fd ps sp ∧ Binds K fd ps []
theorem mtd_mkKX {P : Program} {w : World} {K : PySem.W.Frag} {mg : Str → Option Value} {base : Heap} {x qual : Str} {f : Addr} {st : Stmt} {N ps : List Str} {k n : Nat} {R : List Sl → List MO → Sl → List MO → Prop} {RX : List Sl → List MO → Ex → List MO → Prop} (D : ∃ fd, L2.Fun K x qual st f fd ∧ Binds K fd ps []) (S : FnScope N ps (defScope st)) (hn : ps.length = n)
    (hb : ∀ (cdv : Value) (A : Around) (outer : List Env) (s : Shared) (H : Hp) (E : XK), Room k (A.deeper (envOfC qual (defScope st) s.heap.objs.size f cdv)) → Takes (cxOf (L2.CX P w) P w K mg base N qual (defScope st) f cdv A outer s H E) (fun cls d _ H => E cls d H) →
      PassesOwn (model P w) (cxOf (L2.CX P w) P w K mg base N qual (defScope st) f cdv A outer s H E).A (cxOf (L2.CX P w) P w K mg base N qual (defScope st) f cdv A outer s H E).env (cxOf (L2.CX P w) P w K mg base N qual (defScope st) f cdv A outer s H E).xe →
      (∀ ss M r M', R ss M r M' → ∃ t X G1, PSs (cxOf (L2.CX P w) P w K mg base N qual (defScope st) f cdv A outer s H E) (defBody st) t ∧ EvS K t (DJ.start N.length ss) M (.nx G1 (M' ++ X)) ∧ M.length ≤ M'.length ∧ r = .d .non) ∧
      (∀ ss M x' M', RX ss M x' M' → ∃ t X G', PSs (cxOf (L2.CX P w) P w K mg base N qual (defScope st) f cdv A outer s H E) (defBody st) t ∧ EvR K t (fun cls d _ H => E cls d H) (DJ.start N.length ss) M x' G' (M' ++ X) ∧ M.length ≤ M'.length)) :
    MtdX P w K mg base (k + 1) f (SpX K n R RX) := by
  obtain ⟨fd, F, b⟩ := D
  refine ⟨fd, ps, F.okX S (fun vs H Q E h => ?_) (fun cdv A outer s H vs Q E hr h => ?_), b⟩
  · obtain ⟨_, _, _, _, _, _, _, e, _⟩ := h
    rw [e, hn]
  · obtain ⟨F', B', as, ss, M, ow, sl, _, q⟩ := h
    obtain ⟨h1, h2⟩ := hb cdv A outer s H E hr (takes_of rfl rfl rfl rfl) (passes_of rfl)
    rcases q with ⟨r, M', hR, q⟩ | ⟨x', M', hR, q⟩
    · obtain ⟨t, X, G1, ht, he, hl, hr'⟩ := h1 ss M r M' hR
      subst hr'
      exact ⟨t, ht, run_bodyN (X := X) he hl ow sl q⟩
    · obtain ⟨t, X, G', ht, he, hl⟩ := h2 ss M x' M' hR
      exact ⟨t, ht, run_bodyX (X := X) he hl ow sl q⟩
structure MkrX (P : Program) (w : World) (K : PySem.W.Frag) (mg : Str → Option Value) (base : Heap) (k : Nat) (x : Str) (C : Addr) (sp : Sp) : Prop where
  ex : ∃ (f : Addr), Mk K C f ∧ mg x = some (.ref C) ∧ MtdX P w K mg base k f sp
theorem pe_mkrX {X : Cx} {W : WX} {k j : Nat} {C : Addr} {x : Str} {sp : Sp} {p pos : Pos} {e : Expr} {es : List Expr} {t : TA} (c : MkrX X.prog X.w X.K X.mg X.base k x C sp) (tk : Takes X W) (hr : Room j X.A) (hk : k + 1 ≤ j) (hg : Gl X x) (ha : PA X (e :: es) t)
    (hdb : (x == ("__debug__" : Str)) = false := by decide) (he : starEach (e :: es) X.env = (false, eval e X.env) :: starEach es X.env := by rfl) (hpl : (backTo pos (starEach es X.env)).any (·.1) = false := by rfl) :
    PE X (.Call (.Name x p) (e :: es) [] pos) (tMakeSD C sp (WE W) t) := by
  obtain ⟨f, M, hm, fd, ps, F, b⟩ := c.ex
  exact pe_makeSD M F (hr.mono hk) hg hm b (fun σ => L2.passAt tk σ) ha hdb he hpl
end LJ
namespace DJ
open PySem PySem.Spec PyProof.Rows L2
section
variable {K : PySem.W.Frag} {G : List (Option Sl)} {M M1 M2 : List MO} {ta tb : TE}
/-- == and != of a list that is owned, which stays owned -/
theorem ev_neO {k : Nat} {xs : List Dt} {e : Dt} (ha : EvE K ta G M (.o k) M1) (hb : EvE K tb G M1 (.d e) M2) (hm : M2[k]? = some (.lst xs)) (h1 : plD (.lst xs) = true) (h2 : plD e = true) (n1 : dpD (.lst xs) ≤ 64) (n2 : dpD e ≤ 64) :
    EvE K (tOp (rNeD K) ta tb) G M (.d (.bl (!eqD (.lst xs) e))) M2 := fun F B as σ H ow sl Q q =>
  ha F B as σ H ow sl _ fun v B1 as1 H1 g1 p1 o1 r1 => hb F B1 as1 σ H1 o1 (sl.mono g1.1 p1) _ fun u B2 as2 H2 g2 p2 o2 r2 => by
    obtain ⟨a, ha, rfl⟩ := r1
    obtain ⟨_, _, vs, hv, hr⟩ := o2.own k a _ (p2.get ha) hm (fun z => nomatch z)
    have r : Rp K H2 (.lst xs) (.ref a) := ⟨a, vs, rfl, .inl (.inl hv), RpL.mono o2.bb xs vs hr⟩
    exact ⟨_, _, dp_of (.lst xs) (.ref a) h1 r, dp_of e u h2 (Rp.mono o2.bb _ _ r2), shp_of h1 n1, shp_of h2 n2, q _ B2 as2 H2 (g1.trans g2) (p1.trans p2) o2 rfl⟩
end
end DJ
namespace T
open PySem PySem.Spec PyProof.Rows L2 DJ
/-! ### figures -/
def dig : Nat → Nat → List Nat
  | 0, _ => []
  | k + 1, m => dig k (m / 10) ++ [48 + m % 10]
theorem dig_len : ∀ k m, (dig k m).length = k
  | 0, _ => rfl
  | k + 1, m => by rw [dig, List.length_append, dig_len k]; rfl
theorem dig_mod : ∀ k m, dig k (m % 10 ^ k) = dig k m
  | 0, _ => rfl
  | k + 1, m => by
    have e1 : m % 10 ^ (k + 1) / 10 = m / 10 % 10 ^ k := by
      rw [Nat.pow_succ, Nat.mul_comm, Nat.mod_mul_right_div_self]
    have e2 : m % 10 ^ (k + 1) % 10 = m % 10 := Nat.mod_mod_of_dvd m (by rw [Nat.pow_succ]; exact Nat.dvd_mul_left 10 _)
    rw [dig, e1, e2, dig_mod k]
    rfl
theorem numL_dig : ∀ k n, 10 ^ k ≤ n → TL.numL n = TL.numL (n / 10 ^ k) ++ dig k n
  | 0, n, _ => by rw [Nat.pow_zero, Nat.div_one, dig, List.append_nil]
  | k + 1, n, h => by
    have h10 : 10 ≤ n := by
      have : 10 ^ 1 ≤ 10 ^ (k + 1) := Nat.pow_le_pow_right (by decide) (by omega)
      omega
    have hk : 10 ^ k ≤ n / 10 := by
      rw [Nat.le_div_iff_mul_le (by decide)]
      rw [Nat.pow_succ] at h
      exact h
    rw [TL.numL_step h10, numL_dig k (n / 10) hk, dig, List.append_assoc, Nat.div_div_eq_div_mul, Nat.pow_succ, Nat.mul_comm 10]
theorem dig_zero : ∀ k, dig k 0 = List.replicate k 48
  | 0 => rfl
  | k + 1 => by rw [dig, dig_zero k, List.replicate_succ']
theorem zfill_dig : ∀ k m, m < 10 ^ (k + 1) → zfillL (k + 1) (TL.numL m) = dig (k + 1) m
  | 0, m, h => by
    rw [TL.numL_lt (by simpa using h)]
    have : m % 10 = m := Nat.mod_eq_of_lt (by simpa using h)
    simp [zfillL, dig, this]
  | k + 1, m, h => by
    by_cases h10 : m < 10
    · rw [TL.numL_lt h10, dig, Nat.div_eq_of_lt h10, Nat.mod_eq_of_lt h10, dig_zero]
      rfl
    · have hk : m / 10 < 10 ^ (k + 1) := by
        rw [Nat.div_lt_iff_lt_mul (by decide), ← Nat.pow_succ]
        exact h
      rw [TL.numL_step (by omega), dig, ← zfill_dig k (m / 10) hk]
      unfold zfillL
      rw [List.length_append, List.length_singleton, ← List.append_assoc, Nat.add_sub_add_right]
def E60 : Nat := 10 ^ 60
theorem E60_pos : 0 < E60 := by decide
/-- what the loop leaves -/
def figW (n : Nat) (ps : List (List Nat)) : Nat × List (List Nat) :=
  if h : E60 ≤ n then figW (n / E60) (ps ++ [zfillL 60 (TL.numL (n % E60))]) else (n, ps)
termination_by n
decreasing_by exact Nat.div_lt_self (Nat.lt_of_lt_of_le E60_pos h) (by decide)
theorem figW_eq (n : Nat) (ps : List (List Nat)) : figW n ps = if E60 ≤ n then figW (n / E60) (ps ++ [zfillL 60 (TL.numL (n % E60))]) else (n, ps) := by
  rw [figW]
  split <;> rfl
theorem figW_is : ∀ (n : Nat) (ps : List (List Nat)), TL.numL (figW n ps).1 ++ (figW n ps).2.reverse.flatten = TL.numL n ++ ps.reverse.flatten ∧ (figW n ps).1 < E60 := by
  intro n
  induction n using Nat.strongRecOn with
  | ind n ih =>
    intro ps
    rw [figW_eq]
    by_cases h : E60 ≤ n
    · rw [if_pos h]
      have hlt : n / E60 < n := Nat.div_lt_self (Nat.lt_of_lt_of_le E60_pos h) (by decide)
      obtain ⟨i1, i2⟩ := ih (n / E60) hlt (ps ++ [zfillL 60 (TL.numL (n % E60))])
      refine ⟨?_, i2⟩
      rw [i1, List.reverse_append, List.reverse_singleton, List.singleton_append, List.flatten_cons, ← List.append_assoc]
      congr 1
      have e1 : zfillL 60 (TL.numL (n % E60)) = dig 60 (n % E60) := zfill_dig 59 _ (Nat.mod_lt _ E60_pos)
      have e2 : dig 60 (n % E60) = dig 60 n := dig_mod 60 n
      rw [e1, e2]
      exact (numL_dig 60 n h).symm
    · rw [if_neg h]
      exact ⟨rfl, by omega⟩
theorem figW_P : ∀ (n : Nat) (ps : List (List Nat)), (TL.numL n).length + 60 * ps.length ≤ 200000 → (∀ x ∈ ps, x.length = 60) → (TL.numL (figW n ps).1).length + 60 * (figW n ps).2.length ≤ 200000 ∧ ∀ x ∈ (figW n ps).2, x.length = 60 := by
  intro n
  induction n using Nat.strongRecOn with
  | ind n ih =>
    intro ps h1 h2
    rw [figW_eq]
    by_cases h : E60 ≤ n
    · rw [if_pos h]
      have hlt : n / E60 < n := Nat.div_lt_self (Nat.lt_of_lt_of_le E60_pos h) (by decide)
      have e1 : zfillL 60 (TL.numL (n % E60)) = dig 60 (n % E60) := zfill_dig 59 _ (Nat.mod_lt _ E60_pos)
      have hn : (TL.numL n).length = (TL.numL (n / E60)).length + 60 := by
        rw [numL_dig 60 n h, List.length_append, dig_len] <;> rfl
      refine ih (n / E60) hlt _ ?_ ?_
      · rw [List.length_append, List.length_singleton]; omega
      · intro x hx
        rcases List.mem_append.mp hx with hx | hx
        · exact h2 x hx
        · obtain rfl : x = _ := by simpa using hx
          rw [e1, dig_len]
    · rw [if_neg h]
      exact ⟨h1, h2⟩
theorem sum60 {α : Type} : ∀ xs : List α, (xs.map fun _ => 60).sum = xs.length * 60
  | [] => rfl
  | x :: xs => by rw [List.map_cons, List.sum_cons, sum60 xs, List.length_cons]; omega
theorem joinL_nil : ∀ xs : List (List Nat), TL.joinL [] xs = xs.flatten
  | [] => rfl
  | [x] => by simp [TL.joinL]
  | x :: y :: r => by
    have := joinL_nil (y :: r)
    simp only [TL.joinL, List.append_nil, List.flatten_cons] at this ⊢
    rw [this]
    simp
/-! ### what figures are worth -/
theorem val_app (a b : List Nat) : NumText.digitsVal (a ++ b) = NumText.digitsVal a * 10 ^ b.length + NumText.digitsVal b := by
  have gen : ∀ (b : List Nat) (x : Nat), b.foldl (fun acc c => acc * 10 + (c - 48)) x = x * 10 ^ b.length + b.foldl (fun acc c => acc * 10 + (c - 48)) 0 := by
    intro b
    induction b with
    | nil => intro x; simp
    | cons c b ih =>
      intro x
      rw [List.foldl_cons, List.foldl_cons, ih (x * 10 + (c - 48)), ih (0 * 10 + (c - 48)), List.length_cons, Nat.pow_succ]
      rw [Nat.zero_mul, Nat.zero_add, Nat.add_mul, Nat.mul_assoc, Nat.mul_comm 10 (10 ^ b.length), Nat.add_assoc]
  unfold NumText.digitsVal
  rw [List.foldl_append, gen b]
theorem val_lt' : ∀ (l : List Nat) (x : Nat), NumText.AllDigits l → l.foldl (fun acc c => acc * 10 + (c - 48)) x + 1 ≤ (x + 1) * 10 ^ l.length
  | [], x, _ => by simp
  | c :: l, x, h => by
    have hc := h.head
    have ih := val_lt' l (x * 10 + (c - 48)) h.tail
    rw [List.foldl_cons, List.length_cons, Nat.pow_succ]
    refine Nat.le_trans ih ?_
    rw [Nat.mul_comm (10 ^ l.length) 10, ← Nat.mul_assoc]
    exact Nat.mul_le_mul_right _ (by omega)
theorem val_lt (l : List Nat) (h : NumText.AllDigits l) : NumText.digitsVal l < 10 ^ l.length := by
  have := val_lt' l 0 h
  rw [Nat.zero_add, Nat.one_mul] at this
  exact this
/-- the value of the beginning and of sixty figures more -/
theorem val_step (l : List Nat) (a : Nat) (h : a + 60 ≤ l.length) : NumText.digitsVal (l.take (a + 60)) = NumText.digitsVal (l.take a) * E60 + NumText.digitsVal ((l.drop a).take 60) := by
  rw [List.take_add, val_app]
  have : ((l.drop a).take 60).length = 60 := by rw [List.length_take, List.length_drop]; omega
  rw [this] <;> rfl
theorem all_dig {l : List Nat} (h : NumText.AllDigits l) : l.all (fun c => decide (48 ≤ c) && decide (c ≤ 57)) = true := by
  rw [List.all_eq_true]
  intro c hc
  have := h c hc
  rw [Bool.and_eq_true, decide_eq_true_eq, decide_eq_true_eq]
  exact this
theorem take_dig {l : List Nat} (h : NumText.AllDigits l) (n : Nat) : NumText.AllDigits (l.take n) := fun c hc => h c (List.mem_of_mem_take hc)
theorem drop_dig {l : List Nat} (h : NumText.AllDigits l) (n : Nat) : NumText.AllDigits (l.drop n) := fun c hc => h c (List.mem_of_mem_drop hc)
theorem rs60 (n : Nat) : Builtin.Range.rangeSize ((n - n / 60 * 60 : Nat) : Int) (n : Int) 60 = ((n / 60 : Nat) : Int) := by
  unfold Builtin.Range.rangeSize
  rw [if_pos (by decide)]
  by_cases e : n / 60 = 0
  · rw [if_neg (by omega)]
    omega
  · rw [if_pos (by omega)]
    omega
theorem fitsL {i : Int} (h1 : -1000000 ≤ i) (h2 : i ≤ 1000000) : Builtin.Range.rangeFitsLong i = true := by
  unfold Builtin.Range.rangeFitsLong
  rw [Bool.and_eq_true]
  exact ⟨decide_eq_true (by omega), decide_eq_true (by omega)⟩
theorem rg60 {n : Nat} (h : n ≤ 100000) : RgC ((n - n / 60 * 60 : Nat) : Int) (n : Int) 60 (n / 60) := by
  refine ⟨by decide, by decide, ?_, ?_⟩
  · have e : Builtin.Range.rangeSize ((n - n / 60 * 60 : Nat) : Int) (n : Int) 60 = ((n / 60 : Nat) : Int) := rs60 n
    unfold Builtin.Range.small
    rw [e, fitsL (by omega) (by omega), fitsL (by omega) (by omega), fitsL (by omega) (by omega), fitsL (by omega) (by omega), if_pos (by decide), fitsL (by omega) (by omega)]
    rw [Bool.or_true] <;> rfl
  · exact rs60 n
/-! ### parts, one sign for another -/
theorem par_len (S : List Nat) : ∀ (l acc p q : List Nat), TL.par S acc l = some (p, q) → p.length + q.length ≤ acc.length + l.length
  | [], _, _, _, h => by cases h
  | c :: r, acc, p, q, h => by
    unfold TL.par at h
    split at h
    · cases h
      rw [List.length_drop]
      omega
    · have := par_len S r (acc ++ [c]) p q h
      rw [List.length_append, List.length_singleton] at this
      rw [List.length_cons]
      omega
theorem part_len (b a : List Nat) : (partL b a).1.length + (partL b a).2.2.length ≤ a.length := by
  unfold partL
  split
  · rename_i p q h
    have := par_len b a [] p q h
    simpa using this
  · simp
theorem repl_one (c d : Nat) : ∀ l : List Nat, StrLaws.replL [c] [d] l = l.map fun x => if x = c then d else x
  | [] => StrLaws.replL_nil
  | x :: r => by
    by_cases h : x = c
    · subst h
      rw [StrLaws.replL_hit (by simp) (by simp), List.map_cons, if_pos rfl]
      show [d] ++ StrLaws.replL [x] [d] r = _
      rw [repl_one x d r] <;> rfl
    · rw [StrLaws.replL_miss (by simpa using h), List.map_cons, if_neg h, repl_one c d r]
theorem numL_len_le (n k : Nat) (hk : 0 < k) (h : n < 10 ^ k) : (TL.numL n).length ≤ k := TL.numL_len hk h
end T
namespace T
open PySem PySem.Spec PyProof.Rows L2 DJ LJ LamX
def topS (i : Nat) : Stmt := PySem.Challenge.pw_anchorpages_k26_whole_texts_of_folded_sc.main.body.getD i (.Pass ⟨0, 0, 0, 0⟩)
/-! ### the program: what fits -/
abbrev s_is_foreign : Stmt := topS 9
abbrev N_is_foreign : List Str := ["sign"]
theorem sc_is_foreign : FnScope N_is_foreign ["sign"] (defScope s_is_foreign) := ⟨rfl, rfl, rfl, by decide +kernel, rfl, by decide +kernel, by decide +kernel⟩
abbrev s_is_sign : Stmt := topS 10
abbrev N_is_sign : List Str := ["sign"]
theorem sc_is_sign : FnScope N_is_sign ["sign"] (defScope s_is_sign) := ⟨rfl, rfl, rfl, by decide +kernel, rfl, by decide +kernel, by decide +kernel⟩
abbrev s_is_safe : Stmt := topS 11
abbrev N_is_safe : List Str := ["sign", "inside"]
theorem sc_is_safe : FnScope N_is_safe ["sign", "inside"] (defScope s_is_safe) := ⟨rfl, rfl, rfl, by decide +kernel, rfl, by decide +kernel, by decide +kernel⟩
abbrev s_begins_plain : Stmt := topS 40
abbrev N_begins_plain : List Str := ["text", "place", "inside", "sign"]
theorem sc_begins_plain : FnScope N_begins_plain ["text", "place", "inside"] (defScope s_begins_plain) := ⟨rfl, rfl, rfl, by decide +kernel, rfl, by decide +kernel, by decide +kernel⟩
abbrev s_check : Stmt := topS 60
abbrev N_check : List Str := ["holds", "part"]
theorem sc_check : FnScope N_check ["holds", "part"] (defScope s_check) := ⟨rfl, rfl, rfl, by decide +kernel, rfl, by decide +kernel, by decide +kernel⟩
abbrev s_check_style : Stmt := topS 61
abbrev N_check_style : List Str := ["style", "context"]
theorem sc_check_style : FnScope N_check_style ["style", "context"] (defScope s_check_style) := ⟨rfl, rfl, rfl, by decide +kernel, rfl, by decide +kernel, by decide +kernel⟩
abbrev s_is_text : Stmt := topS 63
abbrev N_is_text : List Str := ["thing", "sign"]
theorem sc_is_text : FnScope N_is_text ["thing"] (defScope s_is_text) := ⟨rfl, rfl, rfl, by decide +kernel, rfl, by decide +kernel, by decide +kernel⟩
abbrev s_is_value : Stmt := topS 64
abbrev N_is_value : List Str := ["thing"]
theorem sc_is_value : FnScope N_is_value ["thing"] (defScope s_is_value) := ⟨rfl, rfl, rfl, by decide +kernel, rfl, by decide +kernel, by decide +kernel⟩
abbrev s_is_word : Stmt := topS 65
abbrev N_is_word : List Str := ["thing", "words"]
theorem sc_is_word : FnScope N_is_word ["thing", "words"] (defScope s_is_word) := ⟨rfl, rfl, rfl, by decide +kernel, rfl, by decide +kernel, by decide +kernel⟩
abbrev s_has_text : Stmt := topS 67
abbrev N_has_text : List Str := ["value", "style", "context"]
theorem sc_has_text : FnScope N_has_text ["value", "style", "context"] (defScope s_has_text) := ⟨rfl, rfl, rfl, by decide +kernel, rfl, by decide +kernel, by decide +kernel⟩
abbrev s_has_white_beside_feed : Stmt := topS 68
abbrev N_has_white_beside_feed : List Str := ["value", "pair"]
theorem sc_has_white_beside_feed : FnScope N_has_white_beside_feed ["value"] (defScope s_has_white_beside_feed) := ⟨rfl, rfl, rfl, by decide +kernel, rfl, by decide +kernel, by decide +kernel⟩
abbrev s_fits_plain : Stmt := topS 69
abbrev N_fits_plain : List Str := ["value", "inside", "flat", "text", "place", "sign"]
theorem sc_fits_plain : FnScope N_fits_plain ["value", "inside", "flat"] (defScope s_fits_plain) := ⟨rfl, rfl, rfl, by decide +kernel, rfl, by decide +kernel, by decide +kernel⟩
abbrev BRK : List Nat := [44, 91, 93, 123, 125]
abbrev NF : List Nat := [44, 91, 93, 123, 125, 35, 38, 42, 33, 124, 62, 39, 34, 64, 96]
abbrev STYS : List (List Nat) := [[112, 108, 97, 105, 110], [115, 105, 110, 103, 108, 101], [100, 111, 117, 98, 108, 101], [108, 105, 116, 101, 114, 97, 108], [102, 111, 108, 100, 101, 100]]
abbrev CTXS : List (List Nat) := [[98, 108, 111, 99, 107], [107, 101, 121], [102, 108, 111, 119], [112, 97, 105, 114]]
abbrev INS : List (List Nat) := [[102, 108, 111, 119], [112, 97, 105, 114]]
abbrev FLT : List (List Nat) := [[107, 101, 121], [112, 97, 105, 114]]
abbrev WBF : List (List Nat) := [[32, 10], [10, 32], [9, 10], [10, 9]]
def goodC (c : Nat) : Bool := (decide (32 ≤ c) && decide (c ≤ 126)) || decide (c = 9) || decide (c = 10)
def signL (l : List Nat) : Bool := !decide (l < [33]) && !decide ([126] < l)
def safeL (l : List Nat) (ins : Bool) : Bool := signL l && !(ins && sub l BRK)
def beginsL (l : List Nat) (ins : Bool) : Bool := if l.take 1 ∈ [[45], [63], [58]] then safeL ((l.drop 1).take 1) ins else signL (l.take 1) && !sub (l.take 1) NF
def wbfL (l : List Nat) : Bool := (WBF.map fun p => sub p l).any id
def badAt (l : List Nat) (ins : Bool) (p : Nat × Nat) : Bool := (decide (p.2 = 58) && !safeL ((l.drop (p.1 + 1)).take 1) ins) || ((decide (p.2 = 35) && sub [l.getD (p.1 - 1) 0] [32, 10]) || (ins && sub [p.2] BRK))
def plainL (v : List Nat) (ins flat : Bool) : Bool :=
  if (decide (v = []) || (!decide (v = stripL [32, 10] v) || sub [9] v)) = true then false
  else if (wbfL v || (flat && sub [10] v)) = true then false
  else if (!beginsL (v ++ if flat = true then [58] else []) ins) = true then false
  else !((plc 0 v).any (badAt (v ++ if flat = true then [58] else []) ins))
def hasL (v st cx : List Nat) : Bool :=
  if st = [112, 108, 97, 105, 110] then plainL v (decide (cx ∈ INS)) (decide (cx ∈ FLT))
  else if st = [115, 105, 110, 103, 108, 101] then !(wbfL v || (decide (cx ∈ FLT) && sub [10] v))
  else decide (st = [100, 111, 117, 98, 108, 101]) || decide (cx = [98, 108, 111, 99, 107])
theorem lt_one (a b : Nat) : decide (([a] : List Nat) < [b]) = decide (a < b) := by
  by_cases h : a < b
  · rw [decide_eq_true h, decide_eq_true (List.cons_lt_cons_iff.mpr (.inl h))]
  · rw [decide_eq_false h, decide_eq_false]
    intro z
    rcases List.cons_lt_cons_iff.mp z with z | ⟨_, z⟩
    · exact h z
    · exact absurd z (List.not_lt_nil _)
theorem one_eq (a b : Nat) : decide (([a] : List Nat) = [b]) = decide (a = b) := by
  by_cases h : a = b
  · subst h; simp
  · simp [h]
theorem good_no {c : Nat} (h : goodC c = true) : (!((!decide ([c] < [32]) && !decide ([126] < [c])) || (decide ([c] = [9]) || decide ([c] = [10])))) = false := by
  rw [lt_one, lt_one, one_eq, one_eq]
  unfold goodC at h
  simp only [Bool.or_eq_true, Bool.and_eq_true, decide_eq_true_eq] at h
  rcases h with (h | h) | h
  · have h1 : decide (c < 32) = false := decide_eq_false (by omega)
    have h2 : decide (126 < c) = false := decide_eq_false (by omega)
    rw [h1, h2] <;> rfl
  · subst h; rfl
  · subst h; rfl
theorem good_asc {v : List Nat} (h : v.all goodC = true) : ∀ c ∈ v, c < 128 := fun c hc => by
  have := List.all_eq_true.mp h c hc
  unfold goodC at this
  simp only [Bool.or_eq_true, Bool.and_eq_true, decide_eq_true_eq] at this
  omega
theorem cut01 (l : List Nat) : cutL l (some 0) (some (0 + 1)) = l.take 1 := by
  show cutL l (some ((0 : Nat) : Int)) (some ((1 : Nat) : Int)) = _
  rw [cutL_nat] <;> rfl
theorem cut12 (l : List Nat) : cutL l (some (0 + 1)) (some (0 + 2)) = (l.drop 1).take 1 := by
  show cutL l (some ((1 : Nat) : Int)) (some ((2 : Nat) : Int)) = _
  rw [cutL_nat] <;> rfl
theorem cutP (l : List Nat) (p : Nat) : cutL l (some ((p : Int) + 1)) (some ((p : Int) + 2)) = (l.drop (p + 1)).take 1 := by
  show cutL l (some ((p + 1 : Nat) : Int)) (some ((p + 2 : Nat) : Int)) = _
  rw [cutL_nat]
  congr 1
  omega
theorem cutp1 (l : List Nat) (p : Nat) : cutL l (some (p : Int)) (some ((p : Int) + 1)) = (l.drop p).take 1 := by
  show cutL l (some ((p : Nat) : Int)) (some ((p + 1 : Nat) : Int)) = _
  rw [cutL_nat]
  congr 1
  omega
section
variable {P : Program} {w : World} {K : PySem.W.Frag} {mg : Str → Option Value} {base : Heap}
def R_foreign : List Sl → List MO → Sl → List MO → Prop := fun ss M r M' => ∃ c : Nat, goodC c = true ∧ ss = [.d (.str [c])] ∧ M = [] ∧ r = .d (.bl false) ∧ M' = []
theorem cal_foreign {k : Nat} (D : Df K mg "is_foreign" s_is_foreign ["sign"]) (c_FEED : Gc K mg "FEED" (.str [10])) : Cal P w K mg base (k + 1) "is_foreign" (SpR K 1 R_foreign) [] := by
  obtain ⟨v_FEED, u_FEED, hm_FEED, hr_FEED, hd_FEED⟩ := c_FEED.ex
  refine cal_mk D sc_is_foreign rfl fun f cdv A outer s H E hr ss M r M' h => ?_
  obtain ⟨c, hc, rfl, rfl, rfl, rfl⟩ := h
  refine ⟨_, [], (pss_one (ps_ret (pe_not (pe_or (pe_chain op_le_str op_le_str pe_str (pv 0) pe_str) (pe_or (pe_cmpR op_eq (pv 0) pe_str (nomark _)) (pe_one (pe_cmpR op_eq (pv 0) (pe_glob (by rfl) hm_FEED hr_FEED) (nomark _)))))))), ?_, Nat.le_refl _, fun _ h => nomatch h⟩
  exact es_retD (ev_notV (ev_orV (ev_chain (ev_str [32]) (ev_var rfl) ro_leS (fun _ => ev_str [126]) (fun _ => ro_leS) (fun _ => rfl)) (fun _ => ev_orV (ev_op (ev_var rfl) (ev_str [9]) ro_eqS) (fun _ => ev_op (ev_var rfl) (ev_c hd_FEED) ro_eqS) (fun _ => rfl)) (fun _ => rfl))) (by rw [good_no hc])
def R_sign : List Sl → List MO → Sl → List MO → Prop := fun ss M r M' => ∃ l : List Nat, ss = [.d (.str l)] ∧ M = [] ∧ r = .d (.bl (signL l)) ∧ M' = []
theorem cal_sign {k : Nat} (D : Df K mg "is_sign" s_is_sign ["sign"]) : Cal P w K mg base (k + 1) "is_sign" (SpR K 1 R_sign) [] := by
  refine cal_mk D sc_is_sign rfl fun f cdv A outer s H E hr ss M r M' h => ?_
  obtain ⟨l, rfl, rfl, rfl, rfl⟩ := h
  refine ⟨_, [], (pss_one (ps_ret (pe_chain op_le_str op_le_str pe_str (pv 0) pe_str))), ?_, Nat.le_refl _, fun _ h => nomatch h⟩
  exact es_retD (ev_chain (ev_str [33]) (ev_var rfl) ro_leS (fun _ => ev_str [126]) (fun _ => ro_leS) (fun _ => rfl)) rfl
def R_safe : List Sl → List MO → Sl → List MO → Prop := fun ss M r M' => ∃ (l : List Nat) (i : Bool), ss = [.d (.str l), .d (.bl i)] ∧ M = [] ∧ r = .d (.bl (safeL l i)) ∧ M' = []
theorem cal_safe {k : Nat} (D : Df K mg "is_safe" s_is_safe ["sign", "inside"]) (c_BRACKETS : Gc K mg "BRACKETS" (.str BRK)) (f_is_sign : Cal P w K mg base (k + 1) "is_sign" (SpR K 1 R_sign) []) : Cal P w K mg base (k + 2) "is_safe" (SpR K 2 R_safe) [] := by
  obtain ⟨v_BRACKETS, u_BRACKETS, hm_BRACKETS, hr_BRACKETS, hd_BRACKETS⟩ := c_BRACKETS.ex
  refine cal_mk D sc_is_safe rfl fun f cdv A outer s H E hr ss M r M' h => ?_
  obtain ⟨l, i, rfl, rfl, rfl, rfl⟩ := h
  refine ⟨_, [], (pss_one (ps_ret (pe_and (pe_c f_is_sign hr (by omega) (by rfl) (pa_cons (pv 0) pa_nil)) (pe_one (pe_not (pe_and (pv 1) (pe_one (pe_cmpR op_in_str (pv 0) (pe_glob (by rfl) hm_BRACKETS hr_BRACKETS) (by rfl))))))))), ?_, Nat.le_refl _, fun _ h => nomatch h⟩
  exact es_retD (ev_andV (ev_call0 (ds := [.str l]) (es := []) (z := .bl (signL l)) (ea_cons (ev_var rfl) ea_nil) ⟨l, rfl, rfl, rfl, rfl⟩ rfl (fun _ => rfl)) (fun _ => ev_notV (ev_andV (ev_var rfl) (fun _ => ev_op (ev_var rfl) (ev_c hd_BRACKETS) ro_inS) (fun _ => rfl))) (fun _ => rfl)) rfl
theorem R_safeI (l : List Nat) (i : Bool) : R_safe ([Dt.str l, .bl i].map Sl.d) [] (.d (.bl (safeL l i))) [] := ⟨l, i, rfl, rfl, rfl, rfl⟩
def R_begins : List Sl → List MO → Sl → List MO → Prop := fun ss M r M' => ∃ (l : List Nat) (i : Bool), l.length ≤ 100000 ∧ ss = [.d (.str l), .d (.int 0), .d (.bl i)] ∧ M = [] ∧ r = .d (.bl (beginsL l i)) ∧ M' = []
theorem cal_begins {k : Nat} (D : Df K mg "begins_plain" s_begins_plain ["text", "place", "inside"]) (c_NOT_FIRST : Gc K mg "NOT_FIRST" (.str NF)) (f_is_sign : Cal P w K mg base (k + 1) "is_sign" (SpR K 1 R_sign) []) (f_is_safe : Cal P w K mg base (k + 2) "is_safe" (SpR K 2 R_safe) []) : Cal P w K mg base (k + 3) "begins_plain" (SpR K 3 R_begins) [] := by
  obtain ⟨v_NOT_FIRST, u_NOT_FIRST, hm_NOT_FIRST, hr_NOT_FIRST, hd_NOT_FIRST⟩ := c_NOT_FIRST.ex
  refine cal_mk (k := k + 2) D sc_begins_plain rfl fun f cdv A outer s H E hr ss M r M' h => ?_
  obtain ⟨l, i, hl, rfl, rfl, rfl, rfl⟩ := h
  refine ⟨_, [], (pss_cons (ps_asg (pe_slice sl_str (pv 0) (po_some (pv 1)) (po_some (pe_op op_add (pv 1) pe_int))) (pg_name (i := 3) sc_begins_plain.nd rfl (by first | exact .inl rfl | exact .inr rfl))) (pss_cons (ps_if (pt_cmpR (show OpR _ (compareOp .In) (rIn K false) from op_in_seq) (pv 3) (pe_tup (pa_cons pe_str (pa_cons pe_str (pa_cons pe_str pa_nil)))) (by rfl)) (pss_one (ps_ret (pe_c f_is_safe hr (by omega) (by rfl) (pa_cons (pe_slice sl_str (pv 0) (po_some (pe_op op_add (pv 1) pe_int)) (po_some (pe_op op_add (pv 1) pe_int))) (pa_cons (pv 2) pa_nil))))) pss_nil) (pss_one (ps_ret (pe_and (pe_c f_is_sign hr (by omega) (by rfl) (pa_cons (pv 3) pa_nil)) (pe_one (pe_cmpR op_notIn_str (pv 3) (pe_glob (by rfl) hm_NOT_FIRST hr_NOT_FIRST) (by rfl)))))))), ?_, Nat.le_refl _, fun _ h => nomatch h⟩
  refine es_seq (es_asg (ev_isD (ev_slS (ev_var rfl) (eo_some (ev_var rfl)) (eo_some (ev_op (ev_var rfl) ev_int ro_add)) (by omega)) (by rw [cut01]))) ?_
  refine es_nG (G' := [_, _, _, _]) rfl ?_
  refine es_guard (et_test (ev_op (ev_var rfl) (ev_tup (xs := [[45], [63], [58]].map Dt.str) (ea_cons (ev_str _) (ea_cons (ev_str _) (ea_cons (ev_str _) ea_nil))) (show 3 ≤ 1000 by decide)) ro_inT)) (fun h => ?_) (fun h => ?_)
  · refine es_retD (ev_call0 (ds := [.str ((l.drop 1).take 1), .bl i]) (es := []) (z := .bl (safeL ((l.drop 1).take 1) i)) (ea_cons (ev_isD (ev_slS (ev_var rfl) (eo_some (ev_op (ev_var rfl) ev_int ro_add)) (eo_some (ev_op (ev_var rfl) ev_int ro_add)) (by omega)) (by rw [cut12])) (ea_cons (ev_var rfl) ea_nil)) (R_safeI _ _) rfl (fun _ => rfl)) ?_
    unfold beginsL
    rw [if_pos (of_decide_eq_true h)]
  · refine es_retD (ev_andV (ev_call0 (ds := [.str (l.take 1)]) (es := []) (z := .bl (signL (l.take 1))) (ea_cons (ev_var rfl) ea_nil) ⟨_, rfl, rfl, rfl, rfl⟩ rfl (fun _ => rfl)) (fun _ => ev_op (ev_var rfl) (ev_c hd_NOT_FIRST) ro_ninS) (fun _ => rfl)) ?_
    unfold beginsL
    rw [if_neg (of_decide_eq_false h)]
def R_check : List Sl → List MO → Sl → List MO → Prop := fun ss M r M' => ∃ l : List Nat, ss = [.d (.bl true), .d (.str l)] ∧ M = [] ∧ r = .d .non ∧ M' = []
theorem cal_check {k : Nat} (D : Df K mg "check" s_check ["holds", "part"]) : Cal P w K mg base (k + 1) "check" (SpR K 2 R_check) [] := by
  refine cal_mkN D sc_check rfl fun f cdv A outer s H E hr ss M r M' h => ?_
  obtain ⟨l, rfl, rfl, rfl, rfl⟩ := h
  refine ⟨_, [], [some (.d (.bl true)), some (.d (.str l))], (pss_one (ps_if (pt_not (pt_val (pv 0))) pss_never pss_nil)), ?_, Nat.le_refl _, rfl⟩
  exact es_no (et_not (et_B (ev_var rfl))) rfl es_next
def R_word : List Sl → List MO → Sl → List MO → Prop := fun ss M r M' => ∃ (l : List Nat) (ws : List (List Nat)), ss = [.d (.str l), .d (.tup (ws.map Dt.str))] ∧ M = [] ∧ r = .d (.bl (decide (l ∈ ws))) ∧ M' = []
theorem ev_strTy {G : List (Option Sl)} {M : List MO} : EvE K (tC (.ty "str")) G M (.d tyStr) M := ev_ty
theorem cal_word {k : Nat} (D : Df K mg "is_word" s_is_word ["thing", "words"]) (m_isinstance : mg "isinstance" = none) (m_str : mg "str" = none) : Cal P w K mg base (k + 1) "is_word" (SpR K 2 R_word) [] := by
  refine cal_mk D sc_is_word rfl fun f cdv A outer s H E hr ss M r M' h => ?_
  obtain ⟨l, ws, rfl, rfl, rfl, rfl⟩ := h
  refine ⟨_, [], (pss_one (ps_ret (pe_and (pe_callB call_isi (by rfl) m_isinstance (by decide +kernel) (pa_cons (pv 0) (pa_cons (pe_bltn (v := .ty "str") (u := .type "str") (by rfl) m_str (by decide +kernel) rfl) pa_nil))) (pe_one (pe_cmpR (show OpR _ (compareOp .In) (rIn K false) from op_in_seq) (pv 0) (pv 1) (by rfl)))))), ?_, Nat.le_refl _, fun _ h => nomatch h⟩
  exact es_retD (ev_andV (a := true) (ev_cb (xs := [.str l, tyStr]) (ea_cons (ev_var rfl) (ea_cons ev_strTy ea_nil)) (rc_isStr (.str l))) (fun _ => ev_op (ev_var rfl) (ev_var rfl) ro_inT) (fun h => nomatch h)) rfl
def R_style : List Sl → List MO → Sl → List MO → Prop := fun ss M r M' => ∃ st cx : List Nat, st ∈ STYS ∧ cx ∈ CTXS ∧ ss = [.d (.str st), .d (.str cx)] ∧ M = [] ∧ r = .d .non ∧ M' = []
theorem cal_style {k : Nat} (D : Df K mg "check_style" s_check_style ["style", "context"]) (c_STYLES_scalars : Gc K mg "STYLES_scalars" (.tup (STYS.map Dt.str))) (c_CONTEXTS : Gc K mg "CONTEXTS" (.tup (CTXS.map Dt.str))) (f_check : Cal P w K mg base (k + 1) "check" (SpR K 2 R_check) []) (f_is_word : Cal P w K mg base (k + 1) "is_word" (SpR K 2 R_word) []) : Cal P w K mg base (k + 2) "check_style" (SpR K 2 R_style) [] := by
  obtain ⟨v_STYLES_scalars, u_STYLES_scalars, hm_STYLES_scalars, hr_STYLES_scalars, hd_STYLES_scalars⟩ := c_STYLES_scalars.ex
  obtain ⟨v_CONTEXTS, u_CONTEXTS, hm_CONTEXTS, hr_CONTEXTS, hd_CONTEXTS⟩ := c_CONTEXTS.ex
  refine cal_mkN D sc_check_style rfl fun f cdv A outer s H E hr ss M r M' h => ?_
  obtain ⟨st, cx, h1, h2, rfl, rfl, rfl, rfl⟩ := h
  refine ⟨_, [], [some (.d (.str st)), some (.d (.str cx))], (pss_cons (ps_expr (pe_c f_check hr (by omega) (by rfl) (pa_cons (pe_c f_is_word hr (by omega) (by rfl) (pa_cons (pv 0) (pa_cons (pe_glob (by rfl) hm_STYLES_scalars hr_STYLES_scalars) pa_nil))) (pa_cons pe_str pa_nil)))) (pss_one (ps_expr (pe_c f_check hr (by omega) (by rfl) (pa_cons (pe_c f_is_word hr (by omega) (by rfl) (pa_cons (pv 1) (pa_cons (pe_glob (by rfl) hm_CONTEXTS hr_CONTEXTS) pa_nil))) (pa_cons pe_str pa_nil)))))), ?_, Nat.le_refl _, rfl⟩
  refine es_seq (es_drop (ev_call0 (ds := [.bl true, .str [115, 116, 121, 108, 101]]) (es := []) (z := .non) (ea_cons (ev_isD (ev_call0 (ds := [.str st, .tup (STYS.map Dt.str)]) (es := []) (z := .bl (decide (st ∈ STYS))) (ea_cons (ev_var rfl) (ea_cons (ev_c hd_STYLES_scalars) ea_nil)) ⟨st, STYS, rfl, rfl, rfl, rfl⟩ rfl (fun _ => rfl)) (by rw [decide_eq_true h1])) (ea_cons (ev_str _) ea_nil)) ⟨_, rfl, rfl, rfl, rfl⟩ rfl (fun _ => rfl))) ?_
  exact es_drop (ev_call0 (ds := [.bl true, .str [99, 111, 110, 116, 101, 120, 116]]) (es := []) (z := .non) (ea_cons (ev_isD (ev_call0 (ds := [.str cx, .tup (CTXS.map Dt.str)]) (es := []) (z := .bl (decide (cx ∈ CTXS))) (ea_cons (ev_var rfl) (ea_cons (ev_c hd_CONTEXTS) ea_nil)) ⟨cx, CTXS, rfl, rfl, rfl, rfl⟩ rfl (fun _ => rfl)) (by rw [decide_eq_true h2])) (ea_cons (ev_str _) ea_nil)) ⟨_, rfl, rfl, rfl, rfl⟩ rfl (fun _ => rfl))
def R_text : List Sl → List MO → Sl → List MO → Prop := fun ss M r M' => ∃ v : List Nat, v.length ≤ 3000 ∧ v.all goodC = true ∧ ss = [.d (.str v)] ∧ M = [] ∧ r = .d (.bl true) ∧ M' = []
theorem any_no {α : Type} : ∀ xs : List α, ((xs.map fun _ => false).any id) = false
  | [] => rfl
  | x :: xs => by rw [List.map_cons, List.any_cons, any_no xs] <;> rfl
theorem cal_text {k : Nat} (D : Df K mg "is_text" s_is_text ["thing"]) (f_is_foreign : Cal P w K mg base (k + 1) "is_foreign" (SpR K 1 R_foreign) []) (m_isinstance : mg "isinstance" = none) (m_str : mg "str" = none) (m_any : mg "any" = none) : Cal P w K mg base (k + 2) "is_text" (SpR K 1 R_text) [] := by
  refine cal_mk D sc_is_text rfl fun f cdv A outer s H E hr ss M r M' h => ?_
  obtain ⟨v, hl, hg, rfl, rfl, rfl, rfl⟩ := h
  refine ⟨_, [], (pss_one (ps_ret (pe_and (pe_callB call_isi (by rfl) m_isinstance (by decide +kernel) (pa_cons (pv 0) (pa_cons (pe_bltn (v := .ty "str") (u := .type "str") (by rfl) m_str (by decide +kernel) rfl) pa_nil))) (pe_one (pe_not (pe_callB (cr_any rfl) (by rfl) m_any (by decide +kernel) (pa_cons (pe_lc (own := [("sign", 1)]) (g := (gName 1)) (by rfl) sc_is_text.nd (pi_str (pv 0)) (blkOk_by (own := [("sign", 1)]) (N := N_is_text) (sc := defScope s_is_text) (by decide +kernel)) (fun _ _ _ _ _ => pg_name (i := 1) sc_is_text.nd rfl (by first | exact .inl rfl | exact .inr rfl)) (fun _ _ _ _ _ => pts_nil) (fun _ _ _ _ _ => (pe_c f_is_foreign hr (by omega) (by rfl) (pa_cons (pv 1) pa_nil)))) pa_nil))))))), ?_, Nat.le_refl _, fun _ h => nomatch h⟩
  refine es_retD (ev_andV (a := true) (c := !((v.map fun _ => false).any id)) (ev_cb (xs := [.str v, tyStr]) (ea_cons (ev_var rfl) (ea_cons ev_strTy ea_nil)) (rc_isStr (.str v))) (fun _ => ev_notV (ev_cb (xs := [.lst ((v.map fun _ => false).map Dt.bl)]) (ea_cons (ev_isD (ev_lcM v (fun c => .str [c]) (fun _ => .bl false) (ei_str (ev_var rfl)) (by omega) (hw_name (by decide)) fun c hc => ⟨_, eg_name, ev_call0 (ds := [.str [c]]) (es := []) (z := .bl false) (ea_cons (ev_var rfl) ea_nil) ⟨c, List.all_eq_true.mp hg c hc, rfl, rfl, rfl, rfl⟩ rfl (fun _ => rfl)⟩) (by rw [List.map_map] <;> rfl)) ea_nil) rc_any)) (fun h => nomatch h)) ?_
  rw [any_no] <;> rfl
def R_value : List Sl → List MO → Sl → List MO → Prop := R_text
theorem cal_value {k : Nat} (D : Df K mg "is_value" s_is_value ["thing"]) (c_MOST_SIGNS : Gc K mg "MOST_SIGNS" (.int (3000 : Nat))) (f_is_text : Cal P w K mg base (k + 2) "is_text" (SpR K 1 R_text) []) (m_len : mg "len" = none) : Cal P w K mg base (k + 3) "is_value" (SpR K 1 R_value) [] := by
  obtain ⟨v_MOST_SIGNS, u_MOST_SIGNS, hm_MOST_SIGNS, hr_MOST_SIGNS, hd_MOST_SIGNS⟩ := c_MOST_SIGNS.ex
  refine cal_mk D sc_is_value rfl fun f cdv A outer s H E hr ss M r M' h => ?_
  obtain ⟨v, hl, hg, rfl, rfl, rfl, rfl⟩ := h
  refine ⟨_, [], (pss_one (ps_ret (pe_and (pe_c f_is_text hr (by omega) (by rfl) (pa_cons (pv 0) pa_nil)) (pe_one (pe_cmpR op_le (pe_callB call_len_str (by rfl) m_len PySem.boot_len (pa_cons (pv 0) pa_nil)) (pe_glob (by rfl) hm_MOST_SIGNS hr_MOST_SIGNS) (nomark _)))))), ?_, Nat.le_refl _, fun _ h => nomatch h⟩
  refine es_retD (ev_andV (a := true) (ev_call0 (ds := [.str v]) (es := []) (z := .bl true) (ea_cons (ev_var rfl) ea_nil) ⟨v, hl, hg, rfl, rfl, rfl, rfl⟩ rfl (fun _ => rfl)) (fun _ => ev_op (ev_cb (xs := [.str v]) (ea_cons (ev_var rfl) ea_nil) (rc_lenS (by omega))) (ev_c hd_MOST_SIGNS) ro_le) (fun h => nomatch h)) ?_
  rw [decide_eq_true (by omega)] <;> rfl
def R_white : List Sl → List MO → Sl → List MO → Prop := fun ss M r M' => ∃ v : List Nat, ss = [.d (.str v)] ∧ M = [] ∧ r = .d (.bl (wbfL v)) ∧ M' = []
theorem cal_white {k : Nat} (D : Df K mg "has_white_beside_feed" s_has_white_beside_feed ["value"]) (m_any : mg "any" = none) : Cal P w K mg base (k + 1) "has_white_beside_feed" (SpR K 1 R_white) [] := by
  refine cal_mk D sc_has_white_beside_feed rfl fun f cdv A outer s H E hr ss M r M' h => ?_
  obtain ⟨v, rfl, rfl, rfl, rfl⟩ := h
  refine ⟨_, [], (pss_one (ps_ret (pe_callB (cr_any rfl) (by rfl) m_any (by decide +kernel) (pa_cons (pe_lc (own := [("pair", 1)]) (g := (gName 1)) (by rfl) sc_has_white_beside_feed.nd (pi_tup (pe_tup (pa_cons pe_str (pa_cons pe_str (pa_cons pe_str (pa_cons pe_str pa_nil)))))) (blkOk_by (own := [("pair", 1)]) (N := N_has_white_beside_feed) (sc := defScope s_has_white_beside_feed) (by decide +kernel)) (fun _ _ _ _ _ => pg_name (i := 1) sc_has_white_beside_feed.nd rfl (by first | exact .inl rfl | exact .inr rfl)) (fun _ _ _ _ _ => pts_nil) (fun _ _ _ _ _ => (pe_cmpR op_in_str (pv 1) (pv 0) (by rfl)))) pa_nil)))), ?_, Nat.le_refl _, fun _ h => nomatch h⟩
  exact es_ret (ev_cb (xs := [.lst ((WBF.map fun p => sub p v).map Dt.bl)]) (ea_cons (ev_isD (ev_lcM WBF Dt.str (fun p => .bl (sub p v)) (ei_tup (xs := WBF.map Dt.str) (ev_tup (ea_cons (ev_str _) (ea_cons (ev_str _) (ea_cons (ev_str _) (ea_cons (ev_str _) ea_nil)))) (show 4 ≤ 1000 by decide))) (by decide) (hw_name (by decide)) fun p _ => ⟨_, eg_name, ev_op (ev_var rfl) (ev_var rfl) ro_inS⟩) rfl) ea_nil) rc_any)
end
end T
namespace T
open PySem PySem.Spec PyProof.Rows L2 DJ LJ LamX
theorem sub_nine (v : List Nat) : sub [9] v = decide (9 ∈ v) := sub_one 9 v
theorem begins_first {v : List Nat} {t : List Nat} {ins : Bool} (h : beginsL (v ++ t) ins = true) : v[0]? ≠ some 35 := by
  intro e
  cases v with
  | nil => cases e
  | cons a r =>
    have e : a = 35 := by simpa using e
    subst e
    have : beginsL (35 :: r ++ t) ins = false := by
      unfold beginsL
      have e1 : (35 :: r ++ t).take 1 = [35] := by simp
      rw [e1, if_neg (by decide)]
      decide
    rw [this] at h
    cases h
theorem getD_ix {l : List Nat} {i : Nat} (h : i < l.length) : l[i]? = some (l.getD i 0) := by
  rw [List.getD_eq_getElem?_getD, List.getElem?_eq_getElem h] <;> rfl
theorem any_find {α : Type} (p : α → Bool) : ∀ xs : List α, (xs.find? p = none → xs.any p = false) ∧ (∀ x, xs.find? p = some x → xs.any p = true)
  | [] => ⟨fun _ => rfl, fun x h => by cases h⟩
  | x :: xs => by
    obtain ⟨h1, h2⟩ := any_find p xs
    cases e : p x with
    | true => exact ⟨fun h => (by rw [List.find?_cons_of_pos e] at h; cases h), fun _ _ => (by rw [List.any_cons, e] <;> rfl)⟩
    | false =>
      have n : ¬ p x = true := by rw [e]; exact Bool.false_ne_true
      exact ⟨fun h => (by rw [List.find?_cons_of_neg n] at h; rw [List.any_cons, e, h1 h] <;> rfl), fun y h => (by rw [List.find?_cons_of_neg n] at h; rw [List.any_cons, e, h2 y h] <;> rfl)⟩
section
variable {P : Program} {w : World} {K : PySem.W.Frag} {mg : Str → Option Value} {base : Heap}
def R_plain : List Sl → List MO → Sl → List MO → Prop := fun ss M r M' => ∃ (v : List Nat) (ins flat : Bool), v.length ≤ 3000 ∧ ss = [.d (.str v), .d (.bl ins), .d (.bl flat)] ∧ M = [] ∧ r = .d (.bl (plainL v ins flat)) ∧ M' = []
theorem cal_plain (D : Df K mg "fits_plain" s_fits_plain ["value", "inside", "flat"]) (c_FEED : Gc K mg "FEED" (.str [10])) (c_BRACKETS : Gc K mg "BRACKETS" (.str BRK)) (f_has_white_beside_feed : Cal P w K mg base 1 "has_white_beside_feed" (SpR K 1 R_white) []) (f_begins_plain : Cal P w K mg base 3 "begins_plain" (SpR K 3 R_begins) []) (f_is_safe : Cal P w K mg base 2 "is_safe" (SpR K 2 R_safe) []) (m_enumerate : mg "enumerate" = none) : Cal P w K mg base 4 "fits_plain" (SpR K 3 R_plain) [] := by
  obtain ⟨v_FEED, u_FEED, hm_FEED, hr_FEED, hd_FEED⟩ := c_FEED.ex
  obtain ⟨v_BRACKETS, u_BRACKETS, hm_BRACKETS, hr_BRACKETS, hd_BRACKETS⟩ := c_BRACKETS.ex
  refine cal_mk (k := 3) D sc_fits_plain rfl fun f cdv A outer s H E hr ss M r M' h => ?_
  obtain ⟨v, ins, flat, hl, rfl, rfl, rfl, rfl⟩ := h
  refine ⟨_, [], (pss_cons (ps_if (PW.pt (pw_or (pt_cmpR op_eq (pv 0) pe_str (nomark _)) (pw_or (pt_cmpR op_ne (pv 0) (pe_m1 PySem.F.slot_str_strip PySem.F.type_str_strip mt_stripChars (pv 0) pe_str) (nomark _)) (pw_or1 (pt_cmpR op_in_str pe_str (pv 0) (by rfl)))))) (pss_one (ps_ret pe_bl)) pss_nil) (pss_cons (ps_if (PW.pt (pw_or (pt_val (pe_c f_has_white_beside_feed hr (by omega) (by rfl) (pa_cons (pv 0) pa_nil))) (pw_or1 (PW.pt (pw_and (pt_val (pv 2)) (pw_and1 (pt_cmpR op_in_str (pe_glob (by rfl) hm_FEED hr_FEED) (pv 0) (by rfl)))))))) (pss_one (ps_ret pe_bl)) pss_nil) (pss_cons (ps_asg (pe_op op_add_str (pv 0) (pe_ifExp (pt_val (pv 2)) pe_str pe_str)) (pg_name (i := 3) sc_fits_plain.nd rfl (by first | exact .inl rfl | exact .inr rfl))) (pss_cons (ps_if (pt_not (pt_val (pe_c f_begins_plain hr (by omega) (by rfl) (pa_cons (pv 3) (pa_cons pe_int (pa_cons (pv 1) pa_nil)))))) (pss_one (ps_ret pe_bl)) pss_nil) (pss_cons (ps_for PassesOwn.never rfl (pi_enumS (by rfl) m_enumerate (pa_cons (pv 0) pa_nil)) (pg_tup rfl (pgs_cons (pg_name (i := 4) sc_fits_plain.nd rfl (by first | exact .inl rfl | exact .inr rfl)) (pgs_cons (pg_name (i := 5) sc_fits_plain.nd rfl (by first | exact .inl rfl | exact .inr rfl)) pgs_nil))) (pss_cons (ps_if (PW.pt (pw_and (pt_cmpR op_eq (pv 5) pe_str (nomark _)) (pw_and1 (pt_not (pt_val (pe_c f_is_safe hr (by omega) (by rfl) (pa_cons (pe_slice sl_str (pv 3) (po_some (pe_op op_add (pv 4) pe_int)) (po_some (pe_op op_add (pv 4) pe_int))) (pa_cons (pv 1) pa_nil)))))))) (pss_one (ps_ret pe_bl)) pss_nil) (pss_cons (ps_if (PW.pt (pw_and (pt_cmpR op_eq (pv 5) pe_str (nomark _)) (pw_and1 (pt_cmpR op_in_str (pe_ix ix_str (pv 3) (pe_op op_sub (pv 4) pe_int) (fun _ _ => rfl)) pe_str (by rfl))))) (pss_one (ps_ret pe_bl)) pss_nil) (pss_one (ps_if (PW.pt (pw_and (pt_val (pv 1)) (pw_and1 (pt_cmpR op_in_str (pv 5) (pe_glob (by rfl) hm_BRACKETS hr_BRACKETS) (by rfl))))) (pss_one (ps_ret pe_bl)) pss_nil))))) (pss_one (ps_ret pe_bl))))))), ?_, Nat.le_refl _, fun _ h => nomatch h⟩
  refine es_guard (b := (decide (v = []) || (!decide (v = stripL [32, 10] v) || sub [9] v))) (et_or (et_test (ev_op (ev_var rfl) (ev_str []) ro_eqS)) (fun _ => et_or (et_test (ev_op (ev_var rfl) (ev_m1 (ev_var rfl) (ev_str [32, 10]) (rm_strip (by omega))) ro_neS)) (fun _ => et_test (ev_op (ev_str [9]) (ev_var rfl) ro_inS)) (fun _ => rfl)) (fun _ => rfl)) (fun h => es_retD ev_bl ?_) (fun h => ?_)
  · unfold plainL
    rw [if_pos h]
  have h0 : v ≠ [] := by
    intro e
    subst e
    cases h
  refine es_guard (b := (wbfL v || (flat && sub [10] v))) (et_or (et_B (ev_call0 (ds := [.str v]) (es := []) (z := .bl (wbfL v)) (ea_cons (ev_var rfl) ea_nil) ⟨v, rfl, rfl, rfl, rfl⟩ rfl (fun _ => rfl))) (fun _ => et_and (et_B (ev_var rfl)) (fun _ => et_test (ev_op (ev_c hd_FEED) (ev_var rfl) ro_inS)) (fun _ => rfl)) (fun _ => rfl)) (fun h2 => es_retD ev_bl ?_) (fun h2 => ?_)
  · unfold plainL
    rw [if_neg (by rw [h]; exact Bool.false_ne_true), if_pos h2]
  have ht : (if flat = true then [58] else ([] : List Nat)).length ≤ 1 := by split <;> decide
  refine es_seq (es_asg (ev_op (ev_var rfl) (ev_iteS (et_B (ev_var rfl)) (fun _ => ev_str [58]) (fun _ => ev_str [])) (ro_addS (by omega)))) ?_
  refine es_nG (G' := [_, _, _, _, _, _]) rfl ?_
  have hx : (v ++ if flat = true then [58] else []).length ≤ 3001 := by rw [List.length_append]; omega
  have e0 : plainL v ins flat = if (!beginsL (v ++ if flat = true then [58] else []) ins) = true then false else !((plc 0 v).any (badAt (v ++ if flat = true then [58] else []) ins)) := by
    unfold plainL
    rw [if_neg (by rw [h]; exact Bool.false_ne_true), if_neg (by rw [h2]; exact Bool.false_ne_true)]
  rw [e0]
  have hlt : ∀ i, i < v.length → i < (v ++ if flat = true then [58] else []).length := fun i hi => by rw [List.length_append]; omega
  have hb1 : beginsL (v ++ if flat = true then [58] else []) ins = true → v[0]? ≠ some 35 := begins_first
  generalize (v ++ if flat = true then [58] else []) = x at *
  refine es_guard (b := !beginsL x ins) (et_not (et_B (ev_call0 (ds := [.str x, .int 0, .bl ins]) (es := []) (z := .bl (beginsL x ins)) (ea_cons (ev_var rfl) (ea_cons ev_int (ea_cons (ev_var rfl) ea_nil))) ⟨x, ins, by omega, rfl, rfl, rfl, rfl⟩ rfl (fun _ => rfl)))) (fun h3 => es_retD ev_bl ?_) (fun h3 => ?_)
  · rw [if_pos h3]
  rw [if_neg (by rw [h3]; exact Bool.false_ne_true)]
  have hb := hb1 (by simpa using h3)
  have hz : ∀ p ∈ plc 0 v, p.2 = 35 → 1 ≤ p.1 ∧ p.1 - 1 < x.length := fun p hp e => by
    obtain ⟨i, e1, e2⟩ := plc_at hp
    have hi := (List.getElem?_eq_some_iff.mp e2).1
    have := hlt i hi
    rcases Nat.eq_zero_or_pos i with z | z
    · subst z; rw [e] at e2; exact absurd e2 hb
    · omega
  refine es_forFind (plc 0 v) plcD (badAt x ins) (fun _ => .d (.bl false)) (G0 := [some (.d (.str v)), some (.d (.bl ins)), some (.d (.bl flat)), some (.d (.str x)), none, none]) (ei_is (ei_enumS (ea_cons (ev_var rfl) ea_nil)) (plc_enum v 0)) (Lg.refl _) (fun p hp => ⟨_, eg_tup (egs_cons eg_name (egs_cons eg_name egs_nil)) rfl, ?_, ?_⟩) (fun p hp => ?_) (fun hn => ?_)
  rotate_left 2
  · rw [(any_find _ _).2 p hp] <;> rfl
  · rw [(any_find _ _).1 hn]
    exact es_ret ev_bl
  all_goals
    intro hq
    have t1 : EvT K _ [some (.d (.str v)), some (.d (.bl ins)), some (.d (.bl flat)), some (.d (.str x)), some (.d (.int (p.1 : Nat))), some (.d (.str [p.2]))] [] (decide (p.2 = 58) && !safeL ((x.drop (p.1 + 1)).take 1) ins) [] :=
      et_and (b := decide (p.2 = 58)) (et_is (et_test (ev_op (ev_var (i := 5) rfl) (ev_str [58]) ro_eqS)) (one_eq _ _)) (fun _ => et_not (et_B (ev_call0 (R := R_safe) (ds := [.str ((x.drop (p.1 + 1)).take 1), .bl ins]) (es := []) (dvs := []) (E := L2.E0) (n := 2) (z := .bl (safeL ((x.drop (p.1 + 1)).take 1) ins)) (ea_cons (ev_isD (ev_slS (ev_var (i := 3) rfl) (eo_some (ev_op (ev_var (i := 4) rfl) ev_int ro_add)) (eo_some (ev_op (ev_var (i := 4) rfl) ev_int ro_add)) (by omega)) (by rw [cutP])) (ea_cons (ev_var (i := 1) rfl) ea_nil)) (R_safeI _ _) rfl (fun _ => rfl)))) (fun _ => rfl)
    have t2 : EvT K _ [some (.d (.str v)), some (.d (.bl ins)), some (.d (.bl flat)), some (.d (.str x)), some (.d (.int (p.1 : Nat))), some (.d (.str [p.2]))] [] (decide (p.2 = 35) && sub [x.getD (p.1 - 1) 0] [32, 10]) [] :=
      et_and (b := decide (p.2 = 35)) (et_is (et_test (ev_op (ev_var (i := 5) rfl) (ev_str [35]) ro_eqS)) (one_eq _ _)) (fun e => et_test (ev_op (ev_op (ev_var (i := 3) rfl) (ev_op (ev_var (i := 4) rfl) ev_int ro_sub) (ro_ixS (c := x.getD (p.1 - 1) 0) (by omega) (by
        obtain ⟨q1, q2⟩ := hz p hp (of_decide_eq_true e)
        have e1 : ((p.1 : Nat) : Int) - 1 = ((p.1 - 1 : Nat) : Int) := by omega
        rw [e1, atI_nat q2, List.getD_eq_getElem?_getD, List.getElem?_eq_getElem q2] <;> rfl))) (ev_str [32, 10]) ro_inS)) (fun _ => rfl)
    have t3 : EvT K _ [some (.d (.str v)), some (.d (.bl ins)), some (.d (.bl flat)), some (.d (.str x)), some (.d (.int (p.1 : Nat))), some (.d (.str [p.2]))] [] (ins && sub [p.2] BRK) [] :=
      et_and (et_B (ev_var (i := 1) rfl)) (fun _ => et_test (ev_op (ev_var (i := 5) rfl) (ev_c hd_BRACKETS) ro_inS)) (fun _ => rfl)
    unfold badAt at hq
    generalize (decide (p.2 = 58) && !safeL ((x.drop (p.1 + 1)).take 1) ins) = b1 at *
    generalize (decide (p.2 = 35) && sub [x.getD (p.1 - 1) 0] [32, 10]) = b2 at *
    generalize (ins && sub [p.2] BRK) = b3 at *
  · refine es_guard t1 (fun _ => es_ret ev_bl) (fun e1 => es_guard t2 (fun _ => es_ret ev_bl) (fun e2 => es_yes t3 ?_ (es_ret ev_bl)))
    subst e1; subst e2
    simpa using hq
  · simp only [Bool.or_eq_false_iff] at hq
    obtain ⟨e1, e2, e3⟩ := hq
    subst e1; subst e2; subst e3
    exact es_nxw (es_pass t1 (es_pass t2 (es_no t3 rfl es_next))) (lg_cons (lg_cons (lg_cons (lg_cons (lg_cons (lg_cons lg_nil (.inr rfl)) (.inr rfl)) (.inl rfl)) (.inl rfl)) (.inl rfl)) (.inl rfl))
def R_has : List Sl → List MO → Sl → List MO → Prop := fun ss M r M' => ∃ v st cx : List Nat, v.length ≤ 3000 ∧ ss = [.d (.str v), .d (.str st), .d (.str cx)] ∧ M = [] ∧ r = .d (.bl (hasL v st cx)) ∧ M' = []
theorem cal_has (D : Df K mg "has_text" s_has_text ["value", "style", "context"]) (c_FEED : Gc K mg "FEED" (.str [10])) (c_INSIDE : Gc K mg "INSIDE" (.tup (INS.map Dt.str))) (c_FLAT : Gc K mg "FLAT" (.tup (FLT.map Dt.str))) (f_fits_plain : Cal P w K mg base 4 "fits_plain" (SpR K 3 R_plain) []) (f_has_white_beside_feed : Cal P w K mg base 1 "has_white_beside_feed" (SpR K 1 R_white) []) : Cal P w K mg base 5 "has_text" (SpR K 3 R_has) [] := by
  obtain ⟨v_FEED, u_FEED, hm_FEED, hr_FEED, hd_FEED⟩ := c_FEED.ex
  obtain ⟨v_INSIDE, u_INSIDE, hm_INSIDE, hr_INSIDE, hd_INSIDE⟩ := c_INSIDE.ex
  obtain ⟨v_FLAT, u_FLAT, hm_FLAT, hr_FLAT, hd_FLAT⟩ := c_FLAT.ex
  refine cal_mk (k := 4) D sc_has_text rfl fun f cdv A outer s H E hr ss M r M' h => ?_
  obtain ⟨v, st, cx, hl, rfl, rfl, rfl, rfl⟩ := h
  refine ⟨_, [], (pss_cons (ps_if (pt_cmpR op_eq (pv 1) pe_str (nomark _)) (pss_one (ps_ret (pe_c f_fits_plain hr (by omega) (by rfl) (pa_cons (pv 0) (pa_cons (pe_cmpR (show OpR _ (compareOp .In) (rIn K false) from op_in_seq) (pv 2) (pe_glob (by rfl) hm_INSIDE hr_INSIDE) (by rfl)) (pa_cons (pe_cmpR (show OpR _ (compareOp .In) (rIn K false) from op_in_seq) (pv 2) (pe_glob (by rfl) hm_FLAT hr_FLAT) (by rfl)) pa_nil)))))) pss_nil) (pss_cons (ps_if (pt_cmpR op_eq (pv 1) pe_str (nomark _)) (pss_one (ps_ret (pe_not (pe_or (pe_c f_has_white_beside_feed hr (by omega) (by rfl) (pa_cons (pv 0) pa_nil)) (pe_one (pe_and (pe_cmpR (show OpR _ (compareOp .In) (rIn K false) from op_in_seq) (pv 2) (pe_glob (by rfl) hm_FLAT hr_FLAT) (by rfl)) (pe_one (pe_cmpR op_in_str (pe_glob (by rfl) hm_FEED hr_FEED) (pv 0) (by rfl))))))))) pss_nil) (pss_one (ps_ret (pe_or (pe_cmpR op_eq (pv 1) pe_str (nomark _)) (pe_one (pe_cmpR op_eq (pv 2) pe_str (nomark _)))))))), ?_, Nat.le_refl _, fun _ h => nomatch h⟩
  refine es_guard (et_test (ev_op (ev_var rfl) (ev_str [112, 108, 97, 105, 110]) ro_eqS)) (fun h => es_retD (ev_call0 (ds := [.str v, .bl (decide (cx ∈ INS)), .bl (decide (cx ∈ FLT))]) (es := []) (z := .bl (plainL v (decide (cx ∈ INS)) (decide (cx ∈ FLT)))) (ea_cons (ev_var rfl) (ea_cons (ev_op (ev_var rfl) (ev_c hd_INSIDE) ro_inT) (ea_cons (ev_op (ev_var rfl) (ev_c hd_FLAT) ro_inT) ea_nil))) ⟨v, _, _, hl, rfl, rfl, rfl, rfl⟩ rfl (fun _ => rfl)) ?_) (fun h => ?_)
  · unfold hasL
    rw [if_pos (of_decide_eq_true h)]
  refine es_guard (et_test (ev_op (ev_var rfl) (ev_str [115, 105, 110, 103, 108, 101]) ro_eqS)) (fun h2 => es_retD (ev_notV (ev_orV (ev_call0 (ds := [.str v]) (es := []) (z := .bl (wbfL v)) (ea_cons (ev_var rfl) ea_nil) ⟨v, rfl, rfl, rfl, rfl⟩ rfl (fun _ => rfl)) (fun _ => ev_andV (ev_op (ev_var rfl) (ev_c hd_FLAT) ro_inT) (fun _ => ev_op (ev_c hd_FEED) (ev_var rfl) ro_inS) (fun _ => rfl)) (fun _ => rfl))) ?_) (fun h2 => es_retD (ev_orV (ev_op (ev_var rfl) (ev_str [100, 111, 117, 98, 108, 101]) ro_eqS) (fun _ => ev_op (ev_var rfl) (ev_str [98, 108, 111, 99, 107]) ro_eqS) (fun _ => rfl)) ?_)
  · unfold hasL
    rw [if_neg (of_decide_eq_false h), if_pos (of_decide_eq_true h2)]
  · unfold hasL
    rw [if_neg (of_decide_eq_false h), if_neg (of_decide_eq_false h2)]
end
end T
namespace T
open PySem PySem.Spec PyProof.Rows L2 DJ LJ LamX
/-! ### the draws of the laws of scalars -/
abbrev s__law_digit : Stmt := topS 75
abbrev N__law_digit : List Str := ["_law_state", "_law_base", "_law_mixed", "_law_found"]
theorem sc__law_digit : FnScope N__law_digit ["_law_state", "_law_base"] (defScope s__law_digit) := ⟨rfl, rfl, rfl, by decide +kernel, rfl, by decide +kernel, by decide +kernel⟩
abbrev s__law_one : Stmt := topS 76
abbrev N__law_one : List Str := ["_law_state", "_law_some"]
theorem sc__law_one : FnScope N__law_one ["_law_state", "_law_some"] (defScope s__law_one) := ⟨rfl, rfl, rfl, by decide +kernel, rfl, by decide +kernel, by decide +kernel⟩
abbrev Wl := Int × Int × Int
abbrev Sd := Int ⊕ Wl
def sd : Sd → MO
  | .inl c => .lst [.int c]
  | .inr w => .lst [.int w.1, .int w.2.1, .int w.2.2]
theorem sdg (s : Sd) : sd s ≠ .gone := by cases s <;> exact fun z => nomatch z
def normW : Sd → Wl
  | .inl c => (if 10 ^ 18 ≤ c then c else 0, c % 2147483647, 0)
  | .inr w => w
def mx1 (a b : Int) : Int := ((a + 7919 * b + 1) * 48271) % 2147483647
def mx2 (m : Int) : Int := (m * (m / 1009 + 69621)) % 2147483647
def mx3 (m : Int) : Int := (m * (m / 2003 + 40692)) % 2147483399
def digW (w : Wl) (n : Int) : Int × Wl :=
  if 0 < w.1 then (w.1 % n, (w.1 / n, w.2.1, w.2.2)) else (mx3 (mx2 (mx1 w.2.1 (w.2.2 + 1))) % n, (w.1, w.2.1, w.2.2 + 1))
def digitW (s : Sd) (n : Int) : Int × Sd := ((digW (normW s) n).1, .inr (digW (normW s) n).2)
theorem digit_lt (s : Sd) {n : Int} (h : 0 < n) : 0 ≤ (digitW s n).1 ∧ (digitW s n).1 < n := by
  unfold digitW digW
  split
  · exact ⟨Int.emod_nonneg _ (by omega), Int.emod_lt_of_pos _ h⟩
  · exact ⟨Int.emod_nonneg _ (by omega), Int.emod_lt_of_pos _ h⟩
section
variable {P : Program} {w : World} {K : PySem.W.Frag} {mg : Str → Option Value} {base : Heap}
def R_digit : List Sl → List MO → Sl → List MO → Prop := fun ss M r M' => ∃ (x : Sd) (n : Int), (0 < n ∧ n < 1073741824) ∧ ss = [.o 0, .d (.int n)] ∧ M = [sd x] ∧ r = .d (.int (digitW x n).1) ∧ M' = [sd (digitW x n).2]
theorem cal_digit {k : Nat} (D : Df K mg "_law_digit" s__law_digit ["_law_state", "_law_base"]) (m_int : mg "int" = none) (m_len : mg "len" = none) : Cal P w K mg base (k + 1) "_law_digit" (SpR K 2 R_digit) [] := by
  refine cal_mk D sc__law_digit rfl fun f cdv A outer s H E hr ss M r M' h => ?_
  obtain ⟨x, n, ⟨hn, hn2⟩, rfl, rfl, rfl, rfl⟩ := h
  refine ⟨_, [], (pss_cons (ps_if (pt_cmpR op_eq (pe_callB call_len_seq (by rfl) m_len PySem.boot_len (pa_cons (pv 0) pa_nil)) pe_int (nomark _)) (pss_cons (ps_expr (pe_bm PySem.F.plainAttrs_list PySem.F.slot_list_extend PySem.F.type_list_extend mt_extend (pv 0) (pa_cons (pe_lst (pa_cons (pe_op op_mod (pe_callTy call_int1 (by rfl) m_int (by decide +kernel) (pa_cons (pe_ix ix_list (pv 0) pe_int (fun _ _ => rfl)) pa_nil)) pe_int) (pa_cons pe_int pa_nil))) pa_nil))) (pss_one (ps_asg (pe_ix ix_list (pe_lst (pa_cons pe_int (pa_cons (pe_ix ix_list (pv 0) pe_int (fun _ _ => rfl)) pa_nil))) (pe_callTy call_int1 (by rfl) m_int (by decide +kernel) (pa_cons (pe_cmpR op_ge (pe_ix ix_list (pv 0) pe_int (fun _ _ => rfl)) (pe_op op_pow pe_int pe_int) (nomark _)) pa_nil)) (fun _ _ => rfl)) (pg_sub (pv 0) pe_int set_list)))) pss_nil) (pss_cons (ps_if (pt_cmpR op_gt (pe_ix ix_list (pv 0) pe_int (fun _ _ => rfl)) pe_int (nomark _)) (pss_cons (ps_asg (pe_op op_mod (pe_callTy call_int1 (by rfl) m_int (by decide +kernel) (pa_cons (pe_ix ix_list (pv 0) pe_int (fun _ _ => rfl)) pa_nil)) (pv 1)) (pg_name (i := 3) sc__law_digit.nd rfl (by first | exact .inl rfl | exact .inr rfl))) (pss_cons (ps_asg (pe_op op_fdiv (pe_ix ix_list (pv 0) pe_int (fun _ _ => rfl)) (pv 1)) (pg_sub (pv 0) pe_int set_list)) (pss_one (ps_ret (pv 3))))) pss_nil) (pss_cons (ps_asg (pe_op op_add (pe_ix ix_list (pv 0) pe_int (fun _ _ => rfl)) pe_int) (pg_sub (pv 0) pe_int set_list)) (pss_cons (ps_asg (pe_op op_mod (pe_callTy call_int1 (by rfl) m_int (by decide +kernel) (pa_cons (pe_op op_mul (pe_op op_add (pe_op op_add (pe_ix ix_list (pv 0) pe_int (fun _ _ => rfl)) (pe_op op_mul pe_int (pe_ix ix_list (pv 0) pe_int (fun _ _ => rfl)))) pe_int) pe_int) pa_nil)) pe_int) (pg_name (i := 2) sc__law_digit.nd rfl (by first | exact .inl rfl | exact .inr rfl))) (pss_cons (ps_asg (pe_op op_mod (pe_callTy call_int1 (by rfl) m_int (by decide +kernel) (pa_cons (pe_op op_mul (pv 2) (pe_op op_add (pe_op op_fdiv (pv 2) pe_int) pe_int)) pa_nil)) pe_int) (pg_name (i := 2) sc__law_digit.nd rfl (by first | exact .inl rfl | exact .inr rfl))) (pss_one (ps_ret (pe_op op_mod (pe_callTy call_int1 (by rfl) m_int (by decide +kernel) (pa_cons (pe_op op_mod (pe_callTy call_int1 (by rfl) m_int (by decide +kernel) (pa_cons (pe_op op_mul (pv 2) (pe_op op_add (pe_op op_fdiv (pv 2) pe_int) pe_int)) pa_nil)) pe_int) pa_nil)) (pv 1))))))))), ?_, Nat.le_refl _, fun _ h => nomatch h⟩
  refine es_seq (M1 := [sd (.inr (normW x))]) (G1 := [some (.o 0), some (.d (.int n)), none, none]) ?_ ?_
  · cases x with
    | inr w =>
      exact es_no (b := false) (et_is (et_test (ev_op (ev_lenO (k := 0) (xs := [.int w.1, .int w.2.1, .int w.2.2]) (ev_var rfl) rfl) ev_int ro_eqI)) rfl) rfl es_next
    | inl c =>
      refine es_yes (b := true) (et_is (et_test (ev_op (ev_lenO (k := 0) (xs := [.int c]) (ev_var rfl) rfl) ev_int ro_eqI)) rfl) rfl ?_
      refine es_seq (es_extO (k := 0) (M2 := [.lst [.int c]]) (ev_var rfl) (ev_lstX (xs := [.int (c % 2147483647), .int 0]) (ea_cons (ev_op (ev_cb (xs := [.int c]) (ea_cons (ev_ixO (k := 0) (x := .int c) (xs := [.int c]) (ev_var rfl) ev_int rfl rfl) ea_nil) rc_int1) ev_int (ro_mod (by decide))) (ea_cons ev_int ea_nil)) (show 2 ≤ 1000 by decide)) ⟨_, rfl⟩ rfl (show 1 + 2 < 1000000 by decide)) ?_
      refine es_nM (M' := [.lst [.int c, .int (c % 2147483647), .int 0]]) rfl ?_
      refine es_nxM (es_setO (x := .int (if 10 ^ 18 ≤ c then c else 0)) (k := 0) (j := 0) (xs := [.int c, .int (c % 2147483647), .int 0]) (ev_op (ev_lst (xs := [.int 0, .int c]) (ea_cons ev_int (ea_cons (ev_ixO (k := 0) (x := .int c) (xs := [.int c, .int (c % 2147483647), .int 0]) (ev_var rfl) ev_int rfl rfl) ea_nil)) (show 2 ≤ 1000 by decide)) (ev_cb (xs := [.bl (decide ((10 : Int) ^ 18 ≤ c))]) (ea_cons (ev_op (ev_ixO (k := 0) (x := .int c) (xs := [.int c, .int (c % 2147483647), .int 0]) (ev_var rfl) ev_int rfl rfl) (ev_op ev_int ev_int (ro_pow ⟨by decide, by decide, by decide⟩)) ro_ge) ea_nil) rc_intB) (ro_ixL ?_)) (ev_var rfl) ev_int rfl rfl) rfl
      by_cases h : (10 : Int) ^ 18 ≤ c
      · rw [decide_eq_true h, if_pos h, if_pos rfl] <;> rfl
      · rw [decide_eq_false h, if_neg h, if_neg Bool.false_ne_true] <;> rfl
  show EvS K _ _ _ (.rt (.d (.int (digW (normW x) n).1)) [sd (.inr (digW (normW x) n).2)])
  generalize normW x = w
  obtain ⟨a, b, c⟩ := w
  refine es_nM (M' := [.lst [.int a, .int b, .int c]]) rfl ?_
  refine es_guard (et_test (ev_op (ev_ixO (k := 0) (x := .int a) (ev_var rfl) ev_int rfl rfl) ev_int ro_gt)) (fun h => ?_) (fun h => ?_)
  · have h : 0 < a := of_decide_eq_true h
    have e : digW (a, b, c) n = (a % n, (a / n, b, c)) := if_pos h
    rw [e]
    refine es_seq (es_asg (ev_op (ev_cb (xs := [.int a]) (ea_cons (ev_ixO (k := 0) (x := .int a) (ev_var rfl) ev_int rfl rfl) ea_nil) rc_int1) (ev_var rfl) (ro_mod hn))) ?_
    refine es_seq (es_setO (k := 0) (j := 0) (xs := [.int a, .int b, .int c]) (ev_op (ev_ixO (k := 0) (x := .int a) (ev_var rfl) ev_int rfl rfl) (ev_var rfl) (ro_fdiv ⟨hn, hn2⟩)) (ev_var rfl) ev_int rfl rfl) ?_
    exact es_ret (ev_var rfl)
  · have h : ¬ 0 < a := of_decide_eq_false h
    have e : digW (a, b, c) n = (mx3 (mx2 (mx1 b (c + 1))) % n, (a, b, c + 1)) := if_neg h
    rw [e]
    have k1 : CMul (mx1 b (c + 1)) (mx1 b (c + 1) / 1009 + 69621) := by
      left
      have h1 : 0 ≤ mx1 b (c + 1) := Int.emod_nonneg _ (by decide)
      have h2 : mx1 b (c + 1) < 2147483647 := Int.emod_lt_of_pos _ (by decide)
      generalize mx1 b (c + 1) = m at *
      omega
    have k2 : CMul (mx2 (mx1 b (c + 1))) (mx2 (mx1 b (c + 1)) / 2003 + 40692) := by
      left
      have h1 : 0 ≤ mx2 (mx1 b (c + 1)) := Int.emod_nonneg _ (by decide)
      have h2 : mx2 (mx1 b (c + 1)) < 2147483647 := Int.emod_lt_of_pos _ (by decide)
      generalize mx2 (mx1 b (c + 1)) = m at *
      omega
    refine es_seq (es_setO (k := 0) (j := 2) (xs := [.int a, .int b, .int c]) (ev_op (ev_ixO (k := 0) (x := .int c) (ev_var rfl) ev_int rfl rfl) ev_int ro_add) (ev_var rfl) ev_int rfl rfl) ?_
    refine es_seq (es_asg (ev_isD (ev_op (ev_cb (xs := [.int ((b + 7919 * (c + 1) + 1) * 48271)]) (ea_cons (ev_op (ev_op (ev_op (ev_ixO (k := 0) (x := .int b) (ev_var rfl) ev_int rfl rfl) (ev_op ev_int (ev_ixO (k := 0) (x := .int (c + 1)) (ev_var rfl) ev_int rfl rfl) (ro_mul (.inl (by decide)))) ro_add) ev_int ro_add) ev_int (ro_mul (.inr (by decide)))) ea_nil) rc_int1) ev_int (ro_mod (by decide))) (show _ = Dt.int (mx1 b (c + 1)) from rfl))) ?_
    refine es_nG (G' := [_, _, _, _]) rfl ?_
    refine es_seq (es_asg (ev_isD (ev_op (ev_cb (xs := [.int (mx1 b (c + 1) * (mx1 b (c + 1) / 1009 + 69621))]) (ea_cons (ev_op (ev_var rfl) (ev_op (ev_op (ev_var rfl) ev_int (ro_fdiv ⟨by decide, by decide⟩)) ev_int ro_add) (ro_mul k1)) ea_nil) rc_int1) ev_int (ro_mod (by decide))) (show _ = Dt.int (mx2 (mx1 b (c + 1))) from rfl))) ?_
    refine es_nG (G' := [_, _, _, _]) rfl ?_
    exact es_ret (ev_op (ev_cb (xs := [.int (mx3 (mx2 (mx1 b (c + 1))))]) (ea_cons (ev_isD (ev_op (ev_cb (xs := [.int (mx2 (mx1 b (c + 1)) * (mx2 (mx1 b (c + 1)) / 2003 + 40692))]) (ea_cons (ev_op (ev_var rfl) (ev_op (ev_op (ev_var rfl) ev_int (ro_fdiv ⟨by decide, by decide⟩)) ev_int ro_add) (ro_mul k2)) ea_nil) rc_int1) ev_int (ro_mod (by decide))) (show _ = Dt.int (mx3 (mx2 (mx1 b (c + 1)))) from rfl)) ea_nil) rc_int1) (ev_var rfl) (ro_mod hn))
end
/-- a drawn one of some things -/
def oneT (x : Sd) (xs : List (List Nat)) : List Nat × Sd := (xs.getD (digitW x xs.length).1.toNat [], (digitW x xs.length).2)
theorem atI_draw {α : Type} (x : Sd) (xs : List α) (d : α) (h : xs ≠ []) : atI xs (digitW x xs.length).1 = some (xs.getD (digitW x xs.length).1.toNat d) := by
  have hl : 0 < xs.length := List.length_pos_iff.mpr h
  obtain ⟨h1, h2⟩ := digit_lt x (n := xs.length) (by omega)
  generalize (digitW x xs.length).1 = i at *
  obtain ⟨n, rfl⟩ := Int.eq_ofNat_of_zero_le h1
  have hn : n < xs.length := by omega
  rw [atI_nat hn, Int.toNat_natCast, List.getD_eq_getElem?_getD, List.getElem?_eq_getElem hn] <;> rfl
theorem digit_nat (x : Sd) (n : Nat) (h : 0 < n) : (digitW x n).1.toNat < n := by
  obtain ⟨h1, h2⟩ := digit_lt x (n := n) (by omega)
  omega
theorem oneT_mem (x : Sd) {ys : List (List Nat)} (h : ys ≠ []) : (oneT x ys).1 ∈ ys := by
  have hl := digit_nat x ys.length (List.length_pos_iff.mpr h)
  show ys.getD _ [] ∈ ys
  rw [List.getD_eq_getElem?_getD, List.getElem?_eq_getElem hl]
  exact List.getElem_mem hl
theorem getD_str (ys : List (List Nat)) (i : Nat) (h : i < ys.length) : (ys.map Dt.str).getD i .non = .str (ys.getD i []) := by
  rw [List.getD_eq_getElem?_getD, List.getD_eq_getElem?_getD, List.getElem?_map, List.getElem?_eq_getElem h] <;> rfl
section
variable {P : Program} {w : World} {K : PySem.W.Frag} {mg : Str → Option Value} {base : Heap}
def R_one : List Sl → List MO → Sl → List MO → Prop := fun ss M r M' => ∃ (x : Sd) (xs : List Dt), xs ≠ [] ∧ xs.length ≤ 100000 ∧ ss = [.o 0, .d (.lst xs)] ∧ M = [sd x] ∧ r = .d (xs.getD (digitW x xs.length).1.toNat .non) ∧ M' = [sd (digitW x xs.length).2]
theorem cal_one {k : Nat} (D : Df K mg "_law_one" s__law_one ["_law_state", "_law_some"]) (f__law_digit : Cal P w K mg base (k + 1) "_law_digit" (SpR K 2 R_digit) []) (m_len : mg "len" = none) : Cal P w K mg base (k + 2) "_law_one" (SpR K 2 R_one) [] := by
  refine cal_mk D sc__law_one rfl fun f cdv A outer s H E hr ss M r M' h => ?_
  obtain ⟨x, xs, hne, hl, rfl, rfl, rfl, rfl⟩ := h
  refine ⟨_, [], (pss_one (ps_ret (pe_ix ix_seq (pv 1) (pe_c f__law_digit hr (by omega) (by rfl) (pa_cons (pv 0) (pa_cons (pe_callB call_len (by rfl) m_len PySem.boot_len (pa_cons (pv 1) pa_nil)) pa_nil))) (fun _ _ => rfl)))), ?_, Nat.le_refl _, fun _ h => nomatch h⟩
  have hp : 0 < xs.length := List.length_pos_iff.mpr hne
  exact es_ret (ev_op (ev_var rfl) (ev_w (m := sd x) (ds := [.int (xs.length : Nat)]) (ea_cons (ev_var rfl) (ea_cons (ev_cb (xs := [.lst xs]) (ea_cons (ev_var rfl) ea_nil) rc_lenL') ea_nil)) (sdg _) (⟨x, _, ⟨by omega, by omega⟩, rfl, rfl, rfl, rfl⟩ : R_digit _ _ _ _) (sdg _) rfl) (ro_ixL' (atI_draw x xs .non hne)))
def oneI (x : Sd) (xs : List Int) : Int × Sd := (xs.getD (digitW x xs.length).1.toNat 0, (digitW x xs.length).2)
theorem getD_int (ys : List Int) (i : Nat) (h : i < ys.length) : (ys.map Dt.int).getD i .non = .int (ys.getD i 0) := by
  rw [List.getD_eq_getElem?_getD, List.getD_eq_getElem?_getD, List.getElem?_map, List.getElem?_eq_getElem h] <;> rfl
theorem oneI_mem (x : Sd) {ys : List Int} (h : ys ≠ []) : (oneI x ys).1 ∈ ys := by
  have hl := digit_nat x ys.length (List.length_pos_iff.mpr h)
  show ys.getD _ 0 ∈ ys
  rw [List.getD_eq_getElem?_getD, List.getElem?_eq_getElem hl]
  exact List.getElem_mem hl
theorem R_oneS (x : Sd) (xs : List (List Nat)) (h : xs ≠ []) (hl : xs.length ≤ 100000) : R_one (.o 0 :: [Dt.lst (xs.map .str)].map Sl.d) [sd x] (.d (.str (oneT x xs).1)) [sd (oneT x xs).2] := by
  have hp : 0 < xs.length := List.length_pos_iff.mpr h
  have e : (xs.map Dt.str).length = xs.length := List.length_map _
  refine ⟨x, xs.map .str, fun z => h (List.map_eq_nil_iff.mp z), by rw [e]; exact hl, rfl, rfl, ?_, ?_⟩
  · rw [e, getD_str _ _ (digit_nat x _ hp)] <;> rfl
  · rw [e] <;> rfl
theorem R_oneN (x : Sd) (xs : List Int) (h : xs ≠ []) (hl : xs.length ≤ 100000) : R_one (.o 0 :: [Dt.lst (xs.map .int)].map Sl.d) [sd x] (.d (.int (oneI x xs).1)) [sd (oneI x xs).2] := by
  have hp : 0 < xs.length := List.length_pos_iff.mpr h
  have e : (xs.map Dt.int).length = xs.length := List.length_map _
  refine ⟨x, xs.map .int, fun z => h (List.map_eq_nil_iff.mp z), by rw [e]; exact hl, rfl, rfl, ?_, ?_⟩
  · rw [e, getD_int _ _ (digit_nat x _ hp)] <;> rfl
  · rw [e] <;> rfl
theorem R_digI (x : Sd) (n : Int) (h : 0 < n) (h2 : n < 1073741824) : R_digit (.o 0 :: [Dt.int n].map Sl.d) [sd x] (.d (.int (digitW x n).1)) [sd (digitW x n).2] := ⟨x, n, ⟨h, h2⟩, rfl, rfl, rfl, rfl⟩
end
end T
namespace T
open PySem PySem.Spec PyProof.Rows L2 DJ LJ LamX
/-! ### the program: places in lines -/
abbrev s_past_blanks : Stmt := topS 12
abbrev N_past_blanks : List Str := ["text", "place"]
theorem sc_past_blanks : FnScope N_past_blanks ["text", "place"] (defScope s_past_blanks) := ⟨rfl, rfl, rfl, by decide +kernel, rfl, by decide +kernel, by decide +kernel⟩
abbrev s_line_end : Stmt := topS 14
abbrev N_line_end : List Str := ["text", "place", "feed"]
theorem sc_line_end : FnScope N_line_end ["text", "place"] (defScope s_line_end) := ⟨rfl, rfl, rfl, by decide +kernel, rfl, by decide +kernel, by decide +kernel⟩
abbrev s_past_line : Stmt := topS 15
abbrev N_past_line : List Str := ["text", "place"]
theorem sc_past_line : FnScope N_past_line ["text", "place"] (defScope s_past_line) := ⟨rfl, rfl, rfl, by decide +kernel, rfl, by decide +kernel, by decide +kernel⟩
abbrev s_is_mark : Stmt := topS 16
abbrev N_is_mark : List Str := ["text", "line"]
theorem sc_is_mark : FnScope N_is_mark ["text", "line"] (defScope s_is_mark) := ⟨rfl, rfl, rfl, by decide +kernel, rfl, by decide +kernel, by decide +kernel⟩
abbrev s_mark_reach : Stmt := topS 17
abbrev N_mark_reach : List Str := ["text", "line", "first", "reach"]
theorem sc_mark_reach : FnScope N_mark_reach ["text", "line"] (defScope s_mark_reach) := ⟨rfl, rfl, rfl, by decide +kernel, rfl, by decide +kernel, by decide +kernel⟩
abbrev s_is_rest : Stmt := topS 18
abbrev N_is_rest : List Str := ["text", "place", "end", "sign"]
theorem sc_is_rest : FnScope N_is_rest ["text", "place", "end"] (defScope s_is_rest) := ⟨rfl, rfl, rfl, by decide +kernel, rfl, by decide +kernel, by decide +kernel⟩
abbrev MRK : List (List Nat) := [[45, 45, 45], [46, 46, 46]]
def markAt (u : List Nat) : Bool := decide (u.take 3 ∈ MRK) && sub ((u.drop 3).take 1) [32, 10]
theorem cutab (l : List Nat) (p a b : Nat) : cutL l (some ((p : Int) + (a : Nat))) (some ((p : Int) + (b : Nat))) = ((l.drop p).drop a).take (b - a) := by
  show cutL l (some ((p + a : Nat) : Int)) (some ((p + b : Nat) : Int)) = _
  rw [cutL_nat, List.drop_drop]
  congr 1
  omega
theorem cutpq (l : List Nat) (p q : Nat) : cutL l (some ((p : Int) + (q : Nat))) (some ((p : Int) + (q : Nat) + 1)) = ((l.drop p).drop q).take 1 := by
  show cutL l (some ((p + q : Nat) : Int)) (some ((p + q + 1 : Nat) : Int)) = _
  rw [cutL_nat, List.drop_drop]
  congr 1
  omega
theorem take1_lt {t : List Nat} {p : Nat} {c : Nat} (h : (t.drop p).take 1 = [c]) : p < t.length := by
  rcases Nat.lt_or_ge p t.length with z | z
  · exact z
  · rw [List.drop_eq_nil_iff.mpr z] at h
    cases h
def pbL : List Nat → Nat
  | [] => 0
  | c :: r => if c = 32 then pbL r + 1 else 0
theorem pbL_le : ∀ u : List Nat, pbL u ≤ u.length
  | [] => Nat.le_refl _
  | c :: r => by
    have := pbL_le r
    unfold pbL
    split
    · rw [List.length_cons]; omega
    · exact Nat.zero_le _
theorem pbL_no {u : List Nat} (h : u.take 1 ≠ [32]) : pbL u = 0 := by
  cases u with
  | nil => rfl
  | cons c r =>
    unfold pbL
    rw [if_neg (fun e => h (by rw [e] <;> rfl))]
theorem pbL_yes {u : List Nat} (h : u.take 1 = [32]) : pbL u = pbL (u.drop 1) + 1 := by
  cases u with
  | nil => cases h
  | cons c r =>
    have e : c = 32 := by simpa using h
    show (if c = 32 then pbL r + 1 else 0) = _
    rw [if_pos e] <;> rfl
theorem pbL_feed : ∀ (l r : List Nat), pbL (l ++ 10 :: r) = pbL l
  | [], r => rfl
  | c :: l, r => by
    show (if c = 32 then pbL (l ++ 10 :: r) + 1 else 0) = (if c = 32 then pbL l + 1 else 0)
    rw [pbL_feed l r]
def rchL (u : List Nat) : Nat → Nat → Nat
  | 0, q => q
  | n + 1, q => if (u.drop q).take 1 = u.take 1 then rchL u n (q + 1) else q
def reachL (u : List Nat) : Nat := if u.take 1 = [45] ∨ u.take 1 = [46] then rchL u 2 1 else 0
def restL (u : List Nat) (p e : Nat) : Bool := decide (u.take 1 = [] ∨ u.take 1 = [10]) || (decide (u.take 1 = [35]) && decide (e < p))
section
variable {P : Program} {w : World} {K : PySem.W.Frag} {mg : Str → Option Value} {base : Heap}
def R_pb : List Sl → List MO → Sl → List MO → Prop := fun ss M r M' => ∃ (t : List Nat) (p : Nat), t.length ≤ 100000 ∧ p ≤ t.length ∧ ss = [.d (.str t), .d (.int (p : Nat))] ∧ M = [] ∧ r = .d (.int ((p + pbL (t.drop p) : Nat) : Int)) ∧ M' = []
theorem cal_pb {k : Nat} (D : Df K mg "past_blanks" s_past_blanks ["text", "place"]) : Cal P w K mg base (k + 1) "past_blanks" (SpR K 2 R_pb) [] := by
  refine cal_mk D sc_past_blanks rfl fun f cdv A outer s H E hr ss M r M' h => ?_
  obtain ⟨t, p, ht, hp, rfl, rfl, rfl, rfl⟩ := h
  refine ⟨_, [], (pss_cons (ps_while PassesOwn.never (pt_cmpR op_eq (pe_slice sl_str (pv 0) (po_some (pv 1)) (po_some (pe_op op_add (pv 1) pe_int))) pe_str (nomark _)) (pss_one (ps_aug (i := 1) sc_past_blanks.nd rfl (.inl rfl) pe_int ip_add))) (pss_one (ps_ret (pv 1)))), ?_, Nat.le_refl _, fun _ h => nomatch h⟩
  refine es_seq (es_while (α := Nat) (fun q => [some (.d (.str t)), some (.d (.int (q : Nat)))]) (fun _ => []) (fun q => q ≤ t.length) (fun q => decide ((t.drop q).take 1 = [32])) (fun q => .inl (q + 1)) (fun q => t.length - q) (fun q => .inl (q + pbL (t.drop q))) p hp (fun q hq => ?_) (Lg.refl _) rfl (fun q hq => et_test (ev_op (ev_isD (ev_slS (ev_var rfl) (eo_some (ev_var rfl)) (eo_some (ev_op (ev_var rfl) ev_int ro_add)) (by omega)) (by rw [cutp1])) (ev_str [32]) ro_eqS)) (fun q hq hc => ⟨.inl ?_, fun a' e => ?_⟩)) (es_ret (ev_var rfl))
  · by_cases h : (t.drop q).take 1 = [32]
    · rw [if_pos (decide_eq_true h)]
      show Sum.inl _ = Sum.inl _
      rw [pbL_yes h, List.drop_drop]
      congr 1
      omega
    · rw [if_neg (by rw [decide_eq_false h]; exact Bool.false_ne_true), pbL_no h] <;> rfl
  · exact es_augI (a := (q : Nat)) (b := 1) (f := fun i j => i + j) rfl ev_int
  · cases e
    have := take1_lt (of_decide_eq_true hc)
    show q + 1 ≤ t.length ∧ t.length - (q + 1) < t.length - q
    omega
def R_le : List Sl → List MO → Sl → List MO → Prop := fun ss M r M' => ∃ (t l z : List Nat) (p : Nat), t.length ≤ 100000 ∧ t.drop p = l ++ 10 :: z ∧ 10 ∉ l ∧ ss = [.d (.str t), .d (.int (p : Nat))] ∧ M = [] ∧ r = .d (.int ((p + l.length : Nat) : Int)) ∧ M' = []
theorem cal_le {k : Nat} (D : Df K mg "line_end" s_line_end ["text", "place"]) (c_FEED : Gc K mg "FEED" (.str [10])) (m_len : mg "len" = none) : Cal P w K mg base (k + 1) "line_end" (SpR K 2 R_le) [] := by
  obtain ⟨v_FEED, u_FEED, hm_FEED, hr_FEED, hd_FEED⟩ := c_FEED.ex
  refine cal_mk D sc_line_end rfl fun f cdv A outer s H E hr ss M r M' h => ?_
  obtain ⟨t, l, z, p, ht, hd, hn, rfl, rfl, rfl, rfl⟩ := h
  refine ⟨_, [], (pss_cons (ps_asg (pe_m2 PySem.F.slot_str_find PySem.F.type_str_find mt_find3 (pv 0) (pe_glob (by rfl) hm_FEED hr_FEED) (pv 1)) (pg_name (i := 2) sc_line_end.nd rfl (by first | exact .inl rfl | exact .inr rfl))) (pss_one (ps_ret (pe_ifExp (pt_cmpR op_lt (pv 2) pe_int (nomark _)) (pe_callB call_len_str (by rfl) m_len PySem.boot_len (pa_cons (pv 0) pa_nil)) (pv 2))))), ?_, Nat.le_refl _, fun _ h => nomatch h⟩
  refine es_seq (es_asg (ev_m2 (ev_var rfl) (ev_c hd_FEED) (ev_var rfl) (rm_find3 hd hn))) ?_
  refine es_nG (G' := [_, _, _]) rfl ?_
  exact es_ret (ev_if (b := false) (et_is (et_test (ev_op (ev_var rfl) ev_int ro_lt)) (decide_eq_false (by omega))) (fun h => nomatch h) (fun _ => ev_var rfl))
theorem line_lt {t l z : List Nat} {p : Nat} (h : t.drop p = l ++ 10 :: z) : p + l.length + 1 ≤ t.length := by
  have := congrArg List.length h
  rw [List.length_drop, List.length_append, List.length_cons] at this
  omega
def R_pl : List Sl → List MO → Sl → List MO → Prop := fun ss M r M' => ∃ (t l z : List Nat) (p : Nat), t.length ≤ 100000 ∧ t.drop p = l ++ 10 :: z ∧ 10 ∉ l ∧ ss = [.d (.str t), .d (.int (p : Nat))] ∧ M = [] ∧ r = .d (.int ((p + l.length + 1 : Nat) : Int)) ∧ M' = []
theorem cal_pl {k : Nat} (D : Df K mg "past_line" s_past_line ["text", "place"]) (f_line_end : Cal P w K mg base (k + 1) "line_end" (SpR K 2 R_le) []) (m_len : mg "len" = none) (m_min : mg "min" = none) : Cal P w K mg base (k + 2) "past_line" (SpR K 2 R_pl) [] := by
  refine cal_mk D sc_past_line rfl fun f cdv A outer s H E hr ss M r M' h => ?_
  obtain ⟨t, l, z, p, ht, hd, hn, rfl, rfl, rfl, rfl⟩ := h
  refine ⟨_, [], (pss_one (ps_ret (pe_callB (call_min2 rfl) (by rfl) m_min (by decide +kernel) (pa_cons (pe_op op_add (pe_c f_line_end hr (by omega) (by rfl) (pa_cons (pv 0) (pa_cons (pv 1) pa_nil))) pe_int) (pa_cons (pe_callB call_len_str (by rfl) m_len PySem.boot_len (pa_cons (pv 0) pa_nil)) pa_nil))))), ?_, Nat.le_refl _, fun _ h => nomatch h⟩
  have hl := line_lt hd
  exact es_ret (ev_isD (ev_cb (xs := [.int (((p + l.length : Nat) : Int) + 1), .int ((t.length : Nat) : Int)]) (ea_cons (ev_op (ev_call0 (ds := [.str t, .int (p : Nat)]) (es := []) (z := .int ((p + l.length : Nat) : Int)) (ea_cons (ev_var rfl) (ea_cons (ev_var rfl) ea_nil)) ⟨t, l, z, p, ht, hd, hn, rfl, rfl, rfl, rfl⟩ rfl (fun _ => rfl)) ev_int ro_add) (ea_cons (ev_cb (xs := [.str t]) (ea_cons (ev_var rfl) ea_nil) (rc_lenS (by omega))) ea_nil)) rc_min2) (by rw [if_neg (by omega)] <;> rfl))
def R_mk : List Sl → List MO → Sl → List MO → Prop := fun ss M r M' => ∃ (t : List Nat) (p : Nat), t.length ≤ 100000 ∧ ss = [.d (.str t), .d (.int (p : Nat))] ∧ M = [] ∧ r = .d (.bl (markAt (t.drop p))) ∧ M' = []
theorem cal_mkA {k : Nat} (D : Df K mg "is_mark" s_is_mark ["text", "line"]) (c_MARKS : Gc K mg "MARKS" (.tup (MRK.map Dt.str))) : Cal P w K mg base (k + 1) "is_mark" (SpR K 2 R_mk) [] := by
  obtain ⟨v_MARKS, u_MARKS, hm_MARKS, hr_MARKS, hd_MARKS⟩ := c_MARKS.ex
  refine cal_mk D sc_is_mark rfl fun f cdv A outer s H E hr ss M r M' h => ?_
  obtain ⟨t, p, ht, rfl, rfl, rfl, rfl⟩ := h
  refine ⟨_, [], (pss_one (ps_ret (pe_and (pe_cmpR (show OpR _ (compareOp .In) (rIn K false) from op_in_seq) (pe_slice sl_str (pv 0) (po_some (pv 1)) (po_some (pe_op op_add (pv 1) pe_int))) (pe_glob (by rfl) hm_MARKS hr_MARKS) (by rfl)) (pe_one (pe_cmpR op_in_str (pe_slice sl_str (pv 0) (po_some (pe_op op_add (pv 1) pe_int)) (po_some (pe_op op_add (pv 1) pe_int))) pe_str (by rfl)))))), ?_, Nat.le_refl _, fun _ h => nomatch h⟩
  exact es_ret (ev_andV (a := decide ((t.drop p).take 3 ∈ MRK)) (c := sub (((t.drop p).drop 3).take 1) [32, 10]) (ev_op (ev_isD (ev_slS (ev_var rfl) (eo_some (ev_var rfl)) (eo_some (ev_op (ev_var rfl) ev_int ro_add)) (by omega)) (show _ = Dt.str ((t.drop p).take 3) from by rw [show cutL t (some (p : Int)) (some ((p : Int) + 3)) = (t.drop p).take 3 from (by have := cutab t p 0 3; rw [List.drop_zero] at this; simpa using this)])) (ev_c hd_MARKS) ro_inT) (fun _ => ev_op (ev_isD (ev_slS (ev_var rfl) (eo_some (ev_op (ev_var rfl) ev_int ro_add)) (eo_some (ev_op (ev_var rfl) ev_int ro_add)) (by omega)) (show _ = Dt.str (((t.drop p).drop 3).take 1) from by rw [show cutL t (some ((p : Int) + 3)) (some ((p : Int) + 4)) = ((t.drop p).drop 3).take 1 from cutab t p 3 4])) (ev_str [32, 10]) ro_inS) (fun _ => rfl))
def R_mr : List Sl → List MO → Sl → List MO → Prop := fun ss M r M' => ∃ (t : List Nat) (p : Nat), t.length ≤ 100000 ∧ ss = [.d (.str t), .d (.int (p : Nat))] ∧ M = [] ∧ r = .d (.int ((reachL (t.drop p) : Nat) : Int)) ∧ M' = []
theorem cal_mr {k : Nat} (D : Df K mg "mark_reach" s_mark_reach ["text", "line"]) : Cal P w K mg base (k + 1) "mark_reach" (SpR K 2 R_mr) [] := by
  refine cal_mk D sc_mark_reach rfl fun f cdv A outer s H E hr ss M r M' h => ?_
  obtain ⟨t, p, ht, rfl, rfl, rfl, rfl⟩ := h
  refine ⟨_, [], (pss_cons (ps_asg (pe_slice sl_str (pv 0) (po_some (pv 1)) (po_some (pe_op op_add (pv 1) pe_int))) (pg_name (i := 2) sc_mark_reach.nd rfl (by first | exact .inl rfl | exact .inr rfl))) (pss_cons (ps_if (pt_cmpR op_notIn_seq (pv 2) (pe_tup (pa_cons pe_str (pa_cons pe_str pa_nil))) (by rfl)) (pss_one (ps_ret pe_int)) pss_nil) (pss_cons (ps_asg pe_int (pg_name (i := 3) sc_mark_reach.nd rfl (by first | exact .inl rfl | exact .inr rfl))) (pss_cons (ps_while PassesOwn.never (PW.pt (pw_and (pt_cmpR op_lt (pv 3) pe_int (nomark _)) (pw_and1 (pt_cmpR op_eq (pe_slice sl_str (pv 0) (po_some (pe_op op_add (pv 1) (pv 3))) (po_some (pe_op op_add (pe_op op_add (pv 1) (pv 3)) pe_int))) (pv 2) (nomark _))))) (pss_one (ps_aug (i := 3) sc_mark_reach.nd rfl (.inl rfl) pe_int ip_add))) (pss_one (ps_ret (pv 3))))))), ?_, Nat.le_refl _, fun _ h => nomatch h⟩
  refine es_seq (es_asg (ev_isD (ev_slS (ev_var rfl) (eo_some (ev_var rfl)) (eo_some (ev_op (ev_var rfl) ev_int ro_add)) (by omega)) (show _ = Dt.str ((t.drop p).take 1) by rw [cutp1]))) ?_
  refine es_nG (G' := [_, _, _, _]) rfl ?_
  have tst : EvT K _ [some (.d (.str t)), some (.d (.int (p : Nat))), some (.d (.str ((t.drop p).take 1))), none] [] (!decide ((t.drop p).take 1 ∈ ([[45], [46]] : List (List Nat)))) [] := et_test (ev_op (ev_var (i := 2) rfl) (ev_tup (xs := [[45], [46]].map Dt.str) (ea_cons (ev_str _) (ea_cons (ev_str _) ea_nil)) (show 2 ≤ 1000 by decide)) ro_ninT)
  unfold reachL
  by_cases hc : (t.drop p).take 1 = [45] ∨ (t.drop p).take 1 = [46]
  · rw [if_pos hc]
    refine es_pass (et_is tst (by rw [decide_eq_true (by simpa using hc)] <;> rfl)) ?_
    refine es_seq (es_asg ev_int) ?_
    refine es_nG (G' := [_, _, _, _]) rfl ?_
    refine es_seq (es_while (α := Nat) (fun q => [some (.d (.str t)), some (.d (.int (p : Nat))), some (.d (.str ((t.drop p).take 1))), some (.d (.int (q : Nat)))]) (fun _ => []) (fun q => q ≤ 3) (fun q => decide ((q : Int) < 3) && decide (((t.drop p).drop q).take 1 = (t.drop p).take 1)) (fun q => .inl (q + 1)) (fun q => 3 - q) (fun q => .inl (rchL (t.drop p) (3 - q) q)) 1 (by decide) (fun q hq => ?_) (Lg.refl _) rfl
      (fun q hq => et_and (et_test (ev_op (ev_var (i := 3) rfl) ev_int ro_lt)) (fun _ => et_test (ev_op (ev_isD (ev_slS (ev_var (i := 0) rfl) (eo_some (ev_op (ev_var (i := 1) rfl) (ev_var (i := 3) rfl) ro_add)) (eo_some (ev_op (ev_op (ev_var (i := 1) rfl) (ev_var (i := 3) rfl) ro_add) ev_int ro_add)) (by omega)) (show _ = Dt.str (((t.drop p).drop q).take 1) by rw [cutpq])) (ev_var (i := 2) rfl) ro_eqS)) (fun _ => rfl)) (fun q hq hc => ⟨.inl ?_, fun a' e => ?_⟩)) (es_ret (ev_var rfl))
    · by_cases h3 : q = 3
      · subst h3
        rw [show decide (((3 : Nat) : Int) < 3) = false from by decide, Bool.false_and, if_neg Bool.false_ne_true] <;> rfl
      · obtain ⟨m, hm⟩ : ∃ m, 3 - q = m + 1 := ⟨2 - q, by omega⟩
        have hm2 : 3 - (q + 1) = m := by omega
        rw [hm, decide_eq_true (show (q : Int) < 3 by omega), Bool.true_and]
        show Sum.inl (if _ then _ else _) = _
        by_cases h : ((t.drop p).drop q).take 1 = (t.drop p).take 1
        · rw [if_pos h, if_pos (decide_eq_true h)]
          simp only [hm2]
        · rw [if_neg h, if_neg (by rw [decide_eq_false h]; exact Bool.false_ne_true)]
    · exact es_augI (a := (q : Nat)) (b := 1) (f := fun i j => i + j) rfl ev_int
    · cases e
      have := of_decide_eq_true (Bool.and_eq_true_iff.mp hc).1
      show q + 1 ≤ 3 ∧ 3 - (q + 1) < 3 - q
      omega
  · rw [if_neg hc]
    exact es_seqR (es_yes (et_is tst (by rw [decide_eq_false (by simpa using hc)] <;> rfl)) rfl (es_ret ev_int))
def R_rest : List Sl → List MO → Sl → List MO → Prop := fun ss M r M' => ∃ (t : List Nat) (p e : Nat), t.length ≤ 100000 ∧ ss = [.d (.str t), .d (.int (p : Nat)), .d (.int (e : Nat))] ∧ M = [] ∧ r = .d (.bl (restL (t.drop p) p e)) ∧ M' = []
theorem cal_rest {k : Nat} (D : Df K mg "is_rest" s_is_rest ["text", "place", "end"]) (c_FEED : Gc K mg "FEED" (.str [10])) : Cal P w K mg base (k + 1) "is_rest" (SpR K 3 R_rest) [] := by
  obtain ⟨v_FEED, u_FEED, hm_FEED, hr_FEED, hd_FEED⟩ := c_FEED.ex
  refine cal_mk D sc_is_rest rfl fun f cdv A outer s H E hr ss M r M' h => ?_
  obtain ⟨t, p, e, ht, rfl, rfl, rfl, rfl⟩ := h
  refine ⟨_, [], (pss_cons (ps_asg (pe_slice sl_str (pv 0) (po_some (pv 1)) (po_some (pe_op op_add (pv 1) pe_int))) (pg_name (i := 3) sc_is_rest.nd rfl (by first | exact .inl rfl | exact .inr rfl))) (pss_one (ps_ret (pe_or (pe_cmpR (show OpR _ (compareOp .In) (rIn K false) from op_in_seq) (pv 3) (pe_tup (pa_cons pe_str (pa_cons (pe_glob (by rfl) hm_FEED hr_FEED) pa_nil))) (by rfl)) (pe_one (pe_and (pe_cmpR op_eq (pv 3) pe_str (nomark _)) (pe_one (pe_cmpR op_gt (pv 1) (pv 2) (nomark _))))))))), ?_, Nat.le_refl _, fun _ h => nomatch h⟩
  refine es_seq (es_asg (ev_isD (ev_slS (ev_var rfl) (eo_some (ev_var rfl)) (eo_some (ev_op (ev_var rfl) ev_int ro_add)) (by omega)) (show _ = Dt.str ((t.drop p).take 1) by rw [cutp1]))) ?_
  refine es_nG (G' := [_, _, _, _]) rfl ?_
  refine es_retD (ev_orV (a := decide ((t.drop p).take 1 ∈ ([[], [10]] : List (List Nat)))) (c := decide ((t.drop p).take 1 = [35]) && decide (e < p)) (ev_op (ev_var rfl) (ev_tup (xs := [[], [10]].map Dt.str) (ea_cons (ev_str _) (ea_cons (ev_c hd_FEED) ea_nil)) (show 2 ≤ 1000 by decide)) ro_inT) (fun _ => ev_andV (a := decide ((t.drop p).take 1 = [35])) (c := decide (e < p)) (ev_op (ev_var rfl) (ev_str [35]) ro_eqS) (fun _ => ev_isD (ev_op (ev_var rfl) (ev_var rfl) ro_gt) (by congr 1; exact decide_eq_decide.mpr (by omega))) (fun _ => rfl)) (fun _ => rfl)) ?_
  unfold restL
  congr 2
  exact decide_eq_decide.mpr (by simp)
end
end T
namespace T
open PySem PySem.Spec PyProof.Rows L2 DJ LJ LamX
/-! ### the program: a block scalar's header -/
abbrev s_Header_init : Stmt := inClass (topS 21) 0
abbrev N_Header_init : List Str := ["self", "text", "place", "further"]
theorem sc_Header_init : FnScope N_Header_init ["self", "text", "place"] (defScope s_Header_init) := ⟨rfl, rfl, rfl, by decide +kernel, rfl, by decide +kernel, by decide +kernel⟩
abbrev s_Header_takes : Stmt := inClass (topS 21) 1
abbrev N_Header_takes : List Str := ["self", "sign"]
theorem sc_Header_takes : FnScope N_Header_takes ["self", "sign"] (defScope s_Header_takes) := ⟨rfl, rfl, rfl, by decide +kernel, rfl, by decide +kernel, by decide +kernel⟩
abbrev LIT : List Nat := [108, 105, 116, 101, 114, 97, 108]
abbrev FLD : List Nat := [102, 111, 108, 100, 101, 100]
abbrev BST : Kvs := [([124], LIT), ([62], FLD)]
abbrev kSt : Str := "style"
abbrev kDg : Str := "digit"
abbrev kKp : Str := "keeping"
abbrev kEn : Str := "end"
abbrev kLn : Str := "lines"
abbrev hd4 (st : List Nat) (dg : Nat) (kp : List Nat) (en : Nat) : Fs := [(kSt, .str (tx st)), (kDg, .int (dg : Nat)), (kKp, .str (tx kp)), (kEn, .int (en : Nat))]
abbrev hd5 (st : List Nat) (dg : Nat) (kp : List Nat) (en ln : Nat) : Fs := [(kSt, .str (tx st)), (kDg, .int (dg : Nat)), (kKp, .str (tx kp)), (kEn, .int (en : Nat)), (kLn, .int (ln : Nat))]
theorem pf_hit (k : Str) (a v : V) (r : Fs) : putF k v ((k, a) :: r) = (k, v) :: r := by unfold putF; rw [if_pos rfl]
theorem pf_go {k k' : Str} (h : k' ≠ k) (a v : V) (r : Fs) : putF k v ((k', a) :: r) = (k', a) :: putF k v r := by
  conv => lhs; unfold putF
  rw [if_neg h]
theorem lk_hit (k : Str) (a : V) (r : Fs) : List.lookup k ((k, a) :: r) = some a := by rw [List.lookup_cons, beq_self_eq_true]
theorem lk_go {k k' : Str} (h : (k == k') = false) (a : V) (r : Fs) : List.lookup k ((k', a) :: r) = List.lookup k r := by rw [List.lookup_cons, h]
def tkL (dg : Nat) (kp x : List Nat) : Bool × Nat × List Nat :=
  if (decide (x ∈ ([[43], [45]] : List (List Nat))) && decide (kp = [])) = true then (true, dg, x)
  else if ((!decide (x < [49]) && !decide ([57] < x)) && decide (dg = 0)) = true then (true, NumText.digitsVal x, kp)
  else (false, dg, kp)
section
variable {P : Program} {w : World} {K : PySem.W.Frag} {mg : Str → Option Value} {base : Heap} {C : Addr}
structure HCls (K : PySem.W.Frag) (C : Addr) : Prop where
  cl : Cls K C
  st : NoAttr K C kSt
  dg : NoAttr K C kDg
  kp : NoAttr K C kKp
  en : NoAttr K C kEn
  ln : NoAttr K C kLn
def R_takes (C : Addr) : List Sl → List MO → Sl → List MO → Prop := fun ss M r M' => ∃ (st kp x : List Nat) (dg en : Nat), x.length ≤ 1 ∧ ss = [.o 0, .d (.str x)] ∧ M = [insM C (hd4 st dg kp en)] ∧ r = .d (.bl (tkL dg kp x).1) ∧ M' = [insM C (hd4 st (tkL dg kp x).2.1 (tkL dg kp x).2.2 en)]
theorem mtd_takes {f : Addr} (D : ∃ fd, L2.Fun K "takes" "Header.takes" s_Header_takes f fd ∧ Binds K fd ["self", "sign"] []) (c : HCls K C) (m_int : mg "int" = none) : Mtd P w K mg base 1 f (SpR K 2 (R_takes C)) := by
  refine mtd_mk (k := 0) D sc_Header_takes rfl fun cdv A outer s' H E hr ss M r M' h => ?_
  obtain ⟨st, kp, x, dg, en, hx, rfl, rfl, rfl, rfl⟩ := h
  refine ⟨_, [], (pss_cons (ps_if (PW.pt (pw_and (pt_cmpR (show OpR _ (compareOp .In) (rIn K false) from op_in_seq) (pv 1) (pe_tup (pa_cons pe_str (pa_cons pe_str pa_nil))) (by rfl)) (pw_and1 (pt_cmpR op_eq (pe_fld (pv 0) (by rfl)) pe_str (nomark _))))) (pss_cons (ps_fld (pv 0) (pv 1) (by rfl)) (pss_one (ps_ret pe_bl))) pss_nil) (pss_cons (ps_if (PW.pt (pw_and (pt_chain op_le_str op_le_str pe_str (pv 1) pe_str) (pw_and1 (pt_cmpR op_eq (pe_fld (pv 0) (by rfl)) pe_int (nomark _))))) (pss_cons (ps_fld (pv 0) (pe_callTy call_int_str (by rfl) m_int (by decide +kernel) (pa_cons (pv 1) pa_nil)) (by rfl)) (pss_one (ps_ret pe_bl))) pss_nil) (pss_one (ps_ret pe_bl)))), ?_, Nat.le_refl _, fun _ h => nomatch h⟩
  have lK : List.lookup kKp (hd4 st dg kp en) = some (.str (tx kp)) := by
    show List.lookup kKp ((kSt, _) :: (kDg, _) :: (kKp, _) :: _) = _
    rw [lk_go (by decide), lk_go (by decide), lk_hit]
  have lD : List.lookup kDg (hd4 st dg kp en) = some (.int (dg : Nat)) := by
    show List.lookup kDg ((kSt, _) :: (kDg, _) :: _) = _
    rw [lk_go (by decide), lk_hit]
  have t1 : EvT K _ [some (.o 0), some (.d (.str x))] [insM C (hd4 st dg kp en)] (decide (x ∈ ([[43], [45]] : List (List Nat))) && decide (kp = [])) [insM C (hd4 st dg kp en)] := et_and (et_test (ev_op (ev_var (i := 1) rfl) (ev_tup (xs := [[43], [45]].map Dt.str) (ea_cons (ev_str _) (ea_cons (ev_str _) ea_nil)) (show 2 ≤ 1000 by decide)) ro_inT)) (fun _ => et_test (ev_op (ev_fldM (k := 0) (y := .str kp) (ev_var (i := 0) rfl) rfl c.cl c.kp lK (fun _ => rfl)) (ev_str []) ro_eqS)) (fun _ => rfl)
  have t2 : EvT K _ [some (.o 0), some (.d (.str x))] [insM C (hd4 st dg kp en)] ((!decide (x < [49]) && !decide ([57] < x)) && decide (dg = 0)) [insM C (hd4 st dg kp en)] := et_and (et_test (ev_chain (ev_str [49]) (ev_var (i := 1) rfl) ro_leS (fun _ => ev_str [57]) (fun _ => ro_leS) (fun _ => rfl))) (fun _ => et_is (et_test (ev_op (ev_fldM (k := 0) (y := .int (dg : Nat)) (ev_var (i := 0) rfl) rfl c.cl c.dg lD (fun _ => rfl)) ev_int ro_eqI)) (show decide (((dg : Nat) : Int) = 0) = decide (dg = 0) from decide_eq_decide.mpr (by omega))) (fun _ => rfl)
  unfold tkL
  by_cases h1 : (decide (x ∈ ([[43], [45]] : List (List Nat))) && decide (kp = [])) = true
  · rw [if_pos h1]
    refine es_seqR (es_yes t1 h1 (es_seq (es_fld (k := 0) (fs := hd4 st dg kp en) (y := .str x) (v := .str (tx x)) (ev_var rfl) (fun _ _ z => z) (ev_var rfl) rfl c.cl c.kp (show 4 < 1000 by decide)) ?_))
    refine es_nM (M' := [insM C (hd4 st dg x en)]) ?_ (es_ret ev_bl)
    show [insM C (putF kKp _ ((kSt, _) :: (kDg, _) :: (kKp, _) :: _))] = _
    rw [pf_go (by decide), pf_go (by decide), pf_hit]
  · rw [if_neg h1]
    refine es_pass (et_is t1 (Bool.eq_false_iff.mpr h1)) ?_
    by_cases h2 : ((!decide (x < [49]) && !decide ([57] < x)) && decide (dg = 0)) = true
    · rw [if_pos h2]
      have hd : x.all (fun c => decide (48 ≤ c) && decide (c ≤ 57)) = true ∧ x ≠ [] := by
        match x, hx with
        | [], _ => exact absurd h2 (by rw [show decide (([] : List Nat) < [49]) = true from by decide]; simp)
        | [c], _ =>
          rw [lt_one, lt_one] at h2
          simp only [Bool.and_eq_true, Bool.not_eq_true', decide_eq_false_iff_not] at h2
          refine ⟨?_, fun z => nomatch z⟩
          show (decide (48 ≤ c) && decide (c ≤ 57) && true) = true
          rw [decide_eq_true (show 48 ≤ c by omega), decide_eq_true (show c ≤ 57 by omega)] <;> rfl
      refine es_seqR (es_yes t2 h2 (es_seq (es_fld (k := 0) (fs := hd4 st dg kp en) (y := .int (NumText.digitsVal x : Nat)) (v := .int (NumText.digitsVal x : Nat)) (ev_cb (xs := [.str x]) (ea_cons (ev_var rfl) ea_nil) (rc_intS hd.1 hd.2 (by omega))) (fun _ _ z => z) (ev_var rfl) rfl c.cl c.dg (show 4 < 1000 by decide)) ?_))
      refine es_nM (M' := [insM C (hd4 st (NumText.digitsVal x) kp en)]) ?_ (es_ret ev_bl)
      show [insM C (putF kDg _ ((kSt, _) :: (kDg, _) :: _))] = _
      rw [pf_go (by decide), pf_hit]
    · rw [if_neg h2]
      exact es_pass (et_is t2 (Bool.eq_false_iff.mpr h2)) (es_ret ev_bl)
end
end T
namespace T
open PySem PySem.Spec PyProof.Rows L2 DJ LJ LamX
/-! ### the program: Header(text, place) -/
theorem tkL_no {dg : Nat} {kp x : List Nat} (h : (tkL dg kp x).1 = false) : tkL dg kp x = (false, dg, kp) := by
  unfold tkL at h ⊢
  split
  · rename_i e; rw [if_pos e] at h; cases h
  · rename_i e
    rw [if_neg e] at h
    split
    · rename_i e2; rw [if_pos e2] at h; cases h
    · rfl
theorem tk_feed (dg : Nat) (kp : List Nat) : (tkL dg kp [10]).1 = false := by
  unfold tkL
  rw [show decide (([10] : List Nat) ∈ ([[43], [45]] : List (List Nat))) = false from by decide, Bool.false_and, if_neg Bool.false_ne_true, show (!decide (([10] : List Nat) < [49])) = false from by decide, Bool.false_and, Bool.false_and, if_neg Bool.false_ne_true]
def tkW : Nat → List Nat → List Nat → Nat × List Nat × List Nat
  | dg, kp, [] => (dg, kp, [])
  | dg, kp, c :: r => if (tkL dg kp [c]).1 = true then tkW (tkL dg kp [c]).2.1 (tkL dg kp [c]).2.2 r else (dg, kp, c :: r)
theorem tkW_suf : ∀ (h : List Nat) (dg : Nat) (kp : List Nat), ∃ k, k ≤ h.length ∧ (tkW dg kp h).2.2 = h.drop k
  | [], dg, kp => ⟨0, Nat.le_refl _, rfl⟩
  | c :: r, dg, kp => by
    unfold tkW
    split
    · obtain ⟨k, h1, h2⟩ := tkW_suf r (tkL dg kp [c]).2.1 (tkL dg kp [c]).2.2
      exact ⟨k + 1, by rw [List.length_cons]; omega, h2⟩
    · exact ⟨0, Nat.zero_le _, rfl⟩
/-- the sign that stands next, on a line -/
def nxS (u : List Nat) : List Nat := (u ++ [10]).take 1
theorem nxS_is (u z : List Nat) : (u ++ 10 :: z).take 1 = nxS u := by cases u <;> rfl
theorem nxS_len (u : List Nat) : (nxS u).length ≤ 1 := by unfold nxS; rw [List.length_take]; omega
theorem lk_en (st kp : List Nat) (dg en : Nat) : List.lookup kEn (hd4 st dg kp en) = some (.int (en : Nat)) := by
  show List.lookup kEn ((kSt, _) :: (kDg, _) :: (kKp, _) :: (kEn, _) :: []) = _
  rw [lk_go (by decide), lk_go (by decide), lk_go (by decide), lk_hit]
abbrev kTk : Str := "takes"
theorem tk_none (st kp : List Nat) (dg en : Nat) : List.lookup kTk (hd4 st dg kp en) = none := by
  show List.lookup kTk ((kSt, _) :: (kDg, _) :: (kKp, _) :: (kEn, _) :: []) = _
  rw [lk_go (by decide), lk_go (by decide), lk_go (by decide), lk_go (by decide)] <;> rfl
theorem pf_en (st kp : List Nat) (dg en : Nat) (v : V) : putF kEn v (hd4 st dg kp en) = [(kSt, .str (tx st)), (kDg, .int (dg : Nat)), (kKp, .str (tx kp)), (kEn, v)] := by
  show putF kEn v ((kSt, _) :: (kDg, _) :: (kKp, _) :: (kEn, _) :: []) = _
  rw [pf_go (by decide), pf_go (by decide), pf_go (by decide), pf_hit]
theorem tk_ne {dg : Nat} {kp u : List Nat} (h : (tkL dg kp (nxS u)).1 = true) : 1 ≤ u.length := by
  cases u with
  | nil => rw [show nxS [] = [10] from rfl, tk_feed] at h; cases h
  | cons c r => exact Nat.succ_le_succ (Nat.zero_le _)
theorem loop_w {β : Type} {Q : Nat × List Nat × List Nat → Prop} (a : Nat × List Nat × List Nat) (_ : Q a) : (Sum.inl (tkW a.1 a.2.1 a.2.2) : (Nat × List Nat × List Nat) ⊕ β) = if (tkL a.1 a.2.1 (nxS a.2.2)).1 = true then (match (Sum.inl ((tkL a.1 a.2.1 (nxS a.2.2)).2.1, (tkL a.1 a.2.1 (nxS a.2.2)).2.2, a.2.2.drop 1) : (Nat × List Nat × List Nat) ⊕ β) with | .inl a' => .inl (tkW a'.1 a'.2.1 a'.2.2) | .inr o => .inr o) else .inl a := by
  obtain ⟨dg, kp, u⟩ := a
  cases u with
  | nil =>
    rw [if_neg (by show ¬ (tkL dg kp [10]).1 = true; rw [tk_feed]; exact Bool.false_ne_true)] <;> rfl
  | cons c r =>
    show Sum.inl (if (tkL dg kp [c]).1 = true then _ else _) = _
    by_cases e : (tkL dg kp [c]).1 = true
    · rw [if_pos e, if_pos (show (tkL dg kp (nxS (c :: r))).1 = true from e)] <;> rfl
    · rw [if_neg e, if_neg (show ¬ (tkL dg kp (nxS (c :: r))).1 = true from e)]
def hdU (h : List Nat) : Nat × List Nat × List Nat := tkW 0 [] h
def okH (h : List Nat) : Bool := restL ((hdU h).2.2.drop (pbL (hdU h).2.2) ++ [10]) (pbL (hdU h).2.2) 0
theorem rest_is (v z : List Nat) (e k : Nat) : restL (v ++ 10 :: z) (e + k) e = restL (v ++ [10]) k 0 := by
  unfold restL
  rw [nxS_is, nxS_is v []]
  congr 2
  exact decide_eq_decide.mpr (by omega)
def endH (p : Nat) (h u : List Nat) : Nat := p + 1 + (h.length - u.length)
structure HdP (t h z : List Nat) (p : Nat) (u : List Nat) : Prop where
  at_ : t.drop (endH p h u) = u ++ 10 :: z
  le : u.length ≤ h.length
theorem hdP_of {t h z : List Nat} {p q k : Nat} (hd : t.drop p = q :: (h ++ 10 :: z)) (hk : k ≤ h.length) : HdP t h z p (h.drop k) := by
  refine ⟨?_, by rw [List.length_drop]; omega⟩
  have e : endH p h (h.drop k) = p + (1 + k) := by unfold endH; rw [List.length_drop]; omega
  rw [e, ← List.drop_drop, hd, show 1 + k = k + 1 from Nat.add_comm 1 k, List.drop_succ_cons, List.drop_append_of_le_length hk]
section
variable {P : Program} {w : World} {K : PySem.W.Frag} {mg : Str → Option Value} {base : Heap} {C B : Addr}
def A_init (t h z st : List Nat) (p q : Nat) (ss : List Sl) : Prop := t.length ≤ 100000 ∧ t.drop p = q :: (h ++ 10 :: z) ∧ 10 ∉ h ∧ getK BST [q] = some st ∧ ss = [.o 0, .d (.str t), .d (.int (p : Nat))]
def R_init (C : Addr) : List Sl → List MO → Sl → List MO → Prop := fun ss M r M' => ∃ (t h z st : List Nat) (p q : Nat), A_init t h z st p q ss ∧ okH h = true ∧ M = [insM C []] ∧ r = .d .non ∧ M' = [insM C (hd5 st (hdU h).1 (hdU h).2.1 (endH p h (hdU h).2.2) (p + h.length + 2))]
def X_init (C B : Addr) : List Sl → List MO → Ex → List MO → Prop := fun ss M x M' => ∃ (t h z st : List Nat) (p q : Nat), A_init t h z st p q ss ∧ okH h = false ∧ M = [insM C []] ∧ x = ⟨.ref B, some ("place", .int ((endH p h (hdU h).2.2 + pbL (hdU h).2.2 : Nat) : Int))⟩ ∧ M' = [insM C (hd4 st (hdU h).1 (hdU h).2.1 (endH p h (hdU h).2.2))]
theorem mtd_hinit {f dS : Addr} {esS : Array DictEntry} {nS : Nat} (D : ∃ fd, L2.Fun K "__init__" "Header.__init__" s_Header_init f fd ∧ Binds K fd ["self", "text", "place"] []) (c : HCls K C) (c_STYLES_blockscalars : Gc K mg "STYLES_blockscalars" (.raw (.ref dS))) (tS : TDict K w dS BST esS nS) (h_takes : C8.Met P w K mg base 1 C "takes" (SpR K 2 (R_takes C)) [])
    (f_past_blanks : Cal P w K mg base 1 "past_blanks" (SpR K 2 R_pb) []) (f_is_rest : Cal P w K mg base 1 "is_rest" (SpR K 3 R_rest) []) (f_past_line : Cal P w K mg base 2 "past_line" (SpR K 2 R_pl) []) (T_Refused : Xi P w K mg base "Refused" "place" B) :
    LJ.MtdX P w K mg base 4 f (SpX K 3 (R_init C) (X_init C B)) := by
  obtain ⟨v_STYLES_blockscalars, u_STYLES_blockscalars, hm_STYLES_blockscalars, hr_STYLES_blockscalars, hd_STYLES_blockscalars⟩ := c_STYLES_blockscalars.ex
  refine LJ.mtd_mkKX (k := 3) D sc_Header_init rfl fun cdv A outer s' H E hr tk po => ⟨fun ss M r M' h => ?_, fun ss M x M' h => ?_⟩
  · obtain ⟨t, h, z, st, p, q, ⟨ht, hd, hn, hst, rfl⟩, hok, rfl, rfl, rfl⟩ := h
    refine ⟨_, [], [some (.o 0), some (.d (.str t)), some (.d (.int (p : Nat))), some (.d (.int ((endH p h (hdU h).2.2 + pbL (hdU h).2.2 : Nat) : Int)))], (pss_cons (ps_fld (pv 0) (pe_ix ix_kdict (pe_glob (by rfl) hm_STYLES_blockscalars hr_STYLES_blockscalars) (pe_ix ix_str (pv 1) (pv 2) (fun _ _ => rfl)) (fun _ _ => rfl)) (by rfl)) (pss_cons (ps_fld (pv 0) pe_int (by rfl)) (pss_cons (ps_fld (pv 0) pe_str (by rfl)) (pss_cons (ps_fld (pv 0) (pe_op op_add (pv 2) pe_int) (by rfl)) (pss_cons (ps_while po (pt_val (C8.pe_mt h_takes hr (by omega) (pv 0) (pa_cons (pe_slice sl_str (pv 1) (po_some (pe_fld (pv 0) (by rfl))) (po_some (pe_op op_add (pe_fld (pv 0) (by rfl)) pe_int))) pa_nil))) (pss_one (ps_fldaug (pv 0) pe_int iop_add))) (pss_cons (ps_asg (pe_c f_past_blanks hr (by omega) (by rfl) (pa_cons (pv 1) (pa_cons (pe_fld (pv 0) (by rfl)) pa_nil))) (pg_name (i := 3) sc_Header_init.nd rfl (by first | exact .inl rfl | exact .inr rfl))) (pss_cons (ps_if (pt_not (pt_val (pe_c f_is_rest hr (by omega) (by rfl) (pa_cons (pv 1) (pa_cons (pv 3) (pa_cons (pe_fld (pv 0) (by rfl)) pa_nil)))))) (pss_one (ps_raiseI rfl tk T_Refused hr (by omega) (by rfl) (pa_cons (pv 3) pa_nil))) pss_nil) (pss_one (ps_fld (pv 0) (pe_c f_past_line hr (by omega) (by rfl) (pa_cons (pv 1) (pa_cons (pv 3) pa_nil))) (by rfl)))))))))), ?_, Nat.le_refl _, rfl⟩
    have hp : p < t.length := by
      have := congrArg List.length hd
      rw [List.length_drop, List.length_cons] at this
      omega
    have hx1 : atI t (p : Int) = some q := by
      rw [atI_nat hp, ← List.getElem?_eq_getElem hp]
      have := congrArg (fun l => l[0]?) hd
      simp only [List.getElem?_drop, Nat.add_zero, List.getElem?_cons_zero] at this
      exact this
    have e0 : endH p h h = p + 1 := by unfold endH; omega
    have hP0 : HdP t h z p h := hdP_of (k := 0) hd (Nat.zero_le _)
    obtain ⟨k, hk, hu⟩ := tkW_suf h 0 []
    have hP := hdP_of (z := z) hd hk
    rw [← hu] at hP
    have hn2 : 10 ∉ (hdU h).2.2 := fun z => hn (by rw [show (hdU h).2.2 = h.drop k from hu] at z; exact List.mem_of_mem_drop z)
    have hP1 : t.drop (endH p h (hdU h).2.2) = (hdU h).2.2 ++ 10 :: z := hP.at_
    have hP2 : (hdU h).2.2.length ≤ h.length := hP.le
    have hpb := pbL_le (hdU h).2.2
    have hfe : t.drop (endH p h (hdU h).2.2 + pbL (hdU h).2.2) = (hdU h).2.2.drop (pbL (hdU h).2.2) ++ 10 :: z := by
      rw [← List.drop_drop, hP1, List.drop_append_of_le_length hpb]
    have hrest : restL (t.drop (endH p h (hdU h).2.2 + pbL (hdU h).2.2)) (endH p h (hdU h).2.2 + pbL (hdU h).2.2) (endH p h (hdU h).2.2) = okH h := by rw [hfe, rest_is] <;> rfl
    have hle : endH p h (hdU h).2.2 ≤ t.length := by
      have := line_lt hP1
      omega
    have lE : List.lookup kEn (hd4 st (hdU h).1 (hdU h).2.1 (endH p h (hdU h).2.2)) = some (.int (endH p h (hdU h).2.2 : Nat)) := by
      show List.lookup kEn ((kSt, _) :: (kDg, _) :: (kKp, _) :: (kEn, _) :: []) = _
      rw [lk_go (by decide), lk_go (by decide), lk_go (by decide), lk_hit]
    refine es_seq (es_fld (k := 0) (fs := []) (y := .str st) (v := .str (tx st)) (ev_op (ev_c hd_STYLES_blockscalars) (ev_op (ev_var rfl) (ev_var rfl) (ro_ixS (c := q) (by omega) hx1)) (ro_kd (tS.hit hst))) (fun _ _ z => z) (ev_var rfl) rfl c.cl c.st (show 0 < 1000 by decide)) ?_
    refine es_nM (M' := [insM C ([(kSt, .str (tx st))])]) rfl ?_
    refine es_seq (es_fld (k := 0) (fs := [(kSt, .str (tx st))]) (y := .int 0) (v := .int 0) ev_int (fun _ _ z => z) (ev_var rfl) rfl c.cl c.dg (show 1 < 1000 by decide)) ?_
    refine es_nM (M' := [insM C ([(kSt, .str (tx st)), (kDg, .int 0)])]) (by show [insM C (putF kDg _ ((kSt, _) :: []))] = _; rw [pf_go (by decide)] <;> rfl) ?_
    refine es_seq (es_fld (k := 0) (fs := [(kSt, .str (tx st)), (kDg, .int 0)]) (y := .str []) (v := .str (tx [])) (ev_str []) (fun _ _ z => z) (ev_var rfl) rfl c.cl c.kp (show 2 < 1000 by decide)) ?_
    refine es_nM (M' := [insM C ([(kSt, .str (tx st)), (kDg, .int 0), (kKp, .str (tx []))])]) (by show [insM C (putF kKp _ ((kSt, _) :: (kDg, _) :: []))] = _; rw [pf_go (by decide), pf_go (by decide)] <;> rfl) ?_
    refine es_seq (es_fld (k := 0) (fs := [(kSt, .str (tx st)), (kDg, .int 0), (kKp, .str (tx []))]) (y := .int ((p : Int) + 1)) (v := .int ((p : Int) + 1)) (ev_op (ev_var rfl) ev_int ro_add) (fun _ _ z => z) (ev_var rfl) rfl c.cl c.en (show 3 < 1000 by decide)) ?_
    refine es_nM (M' := [insM C (hd4 st 0 [] (endH p h h))]) (by show [insM C (putF kEn _ ((kSt, _) :: (kDg, _) :: (kKp, _) :: []))] = _; rw [pf_go (by decide), pf_go (by decide), pf_go (by decide), e0] <;> rfl) ?_
    refine es_seq (es_whileT (α := Nat × List Nat × List Nat) (fun _ => [some (.o 0), some (.d (.str t)), some (.d (.int (p : Nat))), none]) (fun a => [insM C (hd4 st a.1 a.2.1 (endH p h a.2.2))]) (fun a => [insM C (hd4 st (tkL a.1 a.2.1 (nxS a.2.2)).2.1 (tkL a.1 a.2.1 (nxS a.2.2)).2.2 (endH p h a.2.2))]) (fun a => HdP t h z p a.2.2) (fun a => (tkL a.1 a.2.1 (nxS a.2.2)).1) (fun a => .inl ((tkL a.1 a.2.1 (nxS a.2.2)).2.1, (tkL a.1 a.2.1 (nxS a.2.2)).2.2, a.2.2.drop 1)) (fun a => a.2.2.length) (fun a => .inl (tkW a.1 a.2.1 a.2.2)) (0, [], h) rfl hP0 (loop_w) (Lg.refl _) rfl (fun a _ hc => by rw [tkL_no hc])
      (fun a ha => et_B (ev_meth (fs := hd4 st a.1 a.2.1 (endH p h a.2.2)) (ds := [.str (nxS a.2.2)]) (ev_var (i := 0) rfl) (tk_none _ _ _ _) (ea_cons (ev_isD (ev_slS (ev_var (i := 1) rfl) (eo_some (ev_fldM (k := 0) (y := .int (endH p h a.2.2 : Nat)) (ev_var (i := 0) rfl) rfl c.cl c.en (lk_en _ _ _ _) (fun _ => rfl))) (eo_some (ev_op (ev_fldM (k := 0) (y := .int (endH p h a.2.2 : Nat)) (ev_var (i := 0) rfl) rfl c.cl c.en (lk_en _ _ _ _) (fun _ => rfl)) ev_int ro_add)) (by omega)) (show _ = Dt.str (nxS a.2.2) by rw [cutp1, ha.at_, nxS_is])) ea_nil) ⟨st, a.2.1, nxS a.2.2, a.1, endH p h a.2.2, nxS_len _, rfl, rfl, rfl, rfl⟩ rfl))
      (fun a ha hc => ⟨.inl (es_nxM (es_fldAug (k := 0) (x := .int (endH p h a.2.2 : Nat)) (y := .int 1) (z := .int ((endH p h a.2.2 : Nat) + 1 : Int)) (u := .int ((endH p h a.2.2 : Nat) + 1 : Int)) (ev_var rfl) rfl c.cl c.en (lk_en _ _ _ _) (fun _ => rfl) ev_int ro_add (fun _ _ z => z) (by rw [pf_en]; show 4 ≤ 1000; decide) (show 4 < 1000 by decide)) (by
        have hne := tk_ne hc
        show [insM C (putF kEn _ (hd4 st _ _ _))] = [insM C (hd4 st _ _ (endH p h (a.2.2.drop 1)))]
        rw [pf_en]
        have e2 : endH p h (a.2.2.drop 1) = endH p h a.2.2 + 1 := by unfold endH; rw [List.length_drop]; have := ha.le; omega
        rw [e2] <;> rfl)), fun a' e => by
        cases e
        have hne := tk_ne hc
        refine ⟨⟨?_, ?_⟩, ?_⟩
        · show t.drop (endH p h (a.2.2.drop 1)) = a.2.2.drop 1 ++ 10 :: z
          have e2 : endH p h (a.2.2.drop 1) = endH p h a.2.2 + 1 := by unfold endH; rw [List.length_drop]; have := ha.le; omega
          rw [e2, ← List.drop_drop, ha.at_, List.drop_append_of_le_length hne]
        · show (a.2.2.drop 1).length ≤ _; rw [List.length_drop]; have := ha.le; omega
        · show (a.2.2.drop 1).length < _; rw [List.length_drop]; omega⟩)) ?_
    refine es_seq (es_asg (ev_call0 (ds := [.str t, .int (endH p h (hdU h).2.2 : Nat)]) (es := []) (z := .int (endH p h (hdU h).2.2 + pbL (hdU h).2.2 : Nat)) (ea_cons (ev_var rfl) (ea_cons (ev_fldM (k := 0) (y := .int (endH p h (hdU h).2.2 : Nat)) (ev_var (i := 0) rfl) rfl c.cl c.en lE (fun _ => rfl)) ea_nil)) ⟨t, endH p h (hdU h).2.2, ht, hle, rfl, rfl, by rw [hP1, pbL_feed], rfl⟩ rfl (fun _ => rfl))) ?_
    refine es_nG (G' := [_, _, _, _]) rfl ?_
    refine es_pass (et_is (et_not (et_B (ev_call0 (ds := [.str t, .int (endH p h (hdU h).2.2 + pbL (hdU h).2.2 : Nat), .int (endH p h (hdU h).2.2 : Nat)]) (es := []) (z := .bl (restL (t.drop (endH p h (hdU h).2.2 + pbL (hdU h).2.2)) (endH p h (hdU h).2.2 + pbL (hdU h).2.2) (endH p h (hdU h).2.2))) (ea_cons (ev_var rfl) (ea_cons (ev_var rfl) (ea_cons (ev_fldM (k := 0) (y := .int (endH p h (hdU h).2.2 : Nat)) (ev_var (i := 0) rfl) rfl c.cl c.en lE (fun _ => rfl)) ea_nil))) ⟨t, _, endH p h (hdU h).2.2, ht, rfl, rfl, rfl, rfl⟩ rfl (fun _ => rfl)))) (by rw [hrest, hok] <;> rfl)) ?_
    refine es_nxM (M1 := [insM C (putF kLn (.int (p + h.length + 2 : Nat)) (hd4 st (hdU h).1 (hdU h).2.1 (endH p h (hdU h).2.2)))]) (es_fld (k := 0) (fs := hd4 st (hdU h).1 (hdU h).2.1 (endH p h (hdU h).2.2)) (y := .int (p + h.length + 2 : Nat)) (v := .int (p + h.length + 2 : Nat)) (ev_isD (ev_call0 (ds := [.str t, .int (endH p h (hdU h).2.2 + pbL (hdU h).2.2 : Nat)]) (es := []) (z := .int ((endH p h (hdU h).2.2 + pbL (hdU h).2.2 + ((hdU h).2.2.drop (pbL (hdU h).2.2)).length + 1 : Nat) : Int)) (ea_cons (ev_var rfl) (ea_cons (ev_var rfl) ea_nil)) ⟨t, _, z, _, ht, hfe, fun z => hn2 (List.mem_of_mem_drop z), rfl, rfl, rfl, rfl⟩ rfl (fun _ => rfl)) (by congr 2; rw [List.length_drop]; unfold endH; omega)) (fun _ _ z => z) (ev_var rfl) rfl c.cl c.ln (show 4 < 1000 by decide)) ?_
    show [insM C (putF kLn _ ((kSt, _) :: (kDg, _) :: (kKp, _) :: (kEn, _) :: []))] = _
    rw [pf_go (by decide), pf_go (by decide), pf_go (by decide), pf_go (by decide)] <;> rfl
  · obtain ⟨t, h, z, st, p, q, ⟨ht, hd, hn, hst, rfl⟩, hok, rfl, rfl, rfl⟩ := h
    refine ⟨_, [], [none, none, none, none], (pss_cons (ps_fld (pv 0) (pe_ix ix_kdict (pe_glob (by rfl) hm_STYLES_blockscalars hr_STYLES_blockscalars) (pe_ix ix_str (pv 1) (pv 2) (fun _ _ => rfl)) (fun _ _ => rfl)) (by rfl)) (pss_cons (ps_fld (pv 0) pe_int (by rfl)) (pss_cons (ps_fld (pv 0) pe_str (by rfl)) (pss_cons (ps_fld (pv 0) (pe_op op_add (pv 2) pe_int) (by rfl)) (pss_cons (ps_while po (pt_val (C8.pe_mt h_takes hr (by omega) (pv 0) (pa_cons (pe_slice sl_str (pv 1) (po_some (pe_fld (pv 0) (by rfl))) (po_some (pe_op op_add (pe_fld (pv 0) (by rfl)) pe_int))) pa_nil))) (pss_one (ps_fldaug (pv 0) pe_int iop_add))) (pss_cons (ps_asg (pe_c f_past_blanks hr (by omega) (by rfl) (pa_cons (pv 1) (pa_cons (pe_fld (pv 0) (by rfl)) pa_nil))) (pg_name (i := 3) sc_Header_init.nd rfl (by first | exact .inl rfl | exact .inr rfl))) (pss_cons (ps_if (pt_not (pt_val (pe_c f_is_rest hr (by omega) (by rfl) (pa_cons (pv 1) (pa_cons (pv 3) (pa_cons (pe_fld (pv 0) (by rfl)) pa_nil)))))) (pss_one (ps_raiseI rfl tk T_Refused hr (by omega) (by rfl) (pa_cons (pv 3) pa_nil))) pss_nil) (pss_one (ps_fld (pv 0) (pe_c f_past_line hr (by omega) (by rfl) (pa_cons (pv 1) (pa_cons (pv 3) pa_nil))) (by rfl)))))))))), ?_, Nat.le_refl _⟩
    have hp : p < t.length := by
      have := congrArg List.length hd
      rw [List.length_drop, List.length_cons] at this
      omega
    have hx1 : atI t (p : Int) = some q := by
      rw [atI_nat hp, ← List.getElem?_eq_getElem hp]
      have := congrArg (fun l => l[0]?) hd
      simp only [List.getElem?_drop, Nat.add_zero, List.getElem?_cons_zero] at this
      exact this
    have e0 : endH p h h = p + 1 := by unfold endH; omega
    have hP0 : HdP t h z p h := hdP_of (k := 0) hd (Nat.zero_le _)
    obtain ⟨k, hk, hu⟩ := tkW_suf h 0 []
    have hP := hdP_of (z := z) hd hk
    rw [← hu] at hP
    have hn2 : 10 ∉ (hdU h).2.2 := fun z => hn (by rw [show (hdU h).2.2 = h.drop k from hu] at z; exact List.mem_of_mem_drop z)
    have hP1 : t.drop (endH p h (hdU h).2.2) = (hdU h).2.2 ++ 10 :: z := hP.at_
    have hP2 : (hdU h).2.2.length ≤ h.length := hP.le
    have hpb := pbL_le (hdU h).2.2
    have hfe : t.drop (endH p h (hdU h).2.2 + pbL (hdU h).2.2) = (hdU h).2.2.drop (pbL (hdU h).2.2) ++ 10 :: z := by
      rw [← List.drop_drop, hP1, List.drop_append_of_le_length hpb]
    have hrest : restL (t.drop (endH p h (hdU h).2.2 + pbL (hdU h).2.2)) (endH p h (hdU h).2.2 + pbL (hdU h).2.2) (endH p h (hdU h).2.2) = okH h := by rw [hfe, rest_is] <;> rfl
    have hle : endH p h (hdU h).2.2 ≤ t.length := by
      have := line_lt hP1
      omega
    have lE : List.lookup kEn (hd4 st (hdU h).1 (hdU h).2.1 (endH p h (hdU h).2.2)) = some (.int (endH p h (hdU h).2.2 : Nat)) := by
      show List.lookup kEn ((kSt, _) :: (kDg, _) :: (kKp, _) :: (kEn, _) :: []) = _
      rw [lk_go (by decide), lk_go (by decide), lk_go (by decide), lk_hit]
    refine er_seq2 (es_fld (k := 0) (fs := []) (y := .str st) (v := .str (tx st)) (ev_op (ev_c hd_STYLES_blockscalars) (ev_op (ev_var rfl) (ev_var rfl) (ro_ixS (c := q) (by omega) hx1)) (ro_kd (tS.hit hst))) (fun _ _ z => z) (ev_var rfl) rfl c.cl c.st (show 0 < 1000 by decide)) ?_
    refine er_nM (M' := [insM C ([(kSt, .str (tx st))])]) rfl ?_
    refine er_seq2 (es_fld (k := 0) (fs := [(kSt, .str (tx st))]) (y := .int 0) (v := .int 0) ev_int (fun _ _ z => z) (ev_var rfl) rfl c.cl c.dg (show 1 < 1000 by decide)) ?_
    refine er_nM (M' := [insM C ([(kSt, .str (tx st)), (kDg, .int 0)])]) (by show [insM C (putF kDg _ ((kSt, _) :: []))] = _; rw [pf_go (by decide)] <;> rfl) ?_
    refine er_seq2 (es_fld (k := 0) (fs := [(kSt, .str (tx st)), (kDg, .int 0)]) (y := .str []) (v := .str (tx [])) (ev_str []) (fun _ _ z => z) (ev_var rfl) rfl c.cl c.kp (show 2 < 1000 by decide)) ?_
    refine er_nM (M' := [insM C ([(kSt, .str (tx st)), (kDg, .int 0), (kKp, .str (tx []))])]) (by show [insM C (putF kKp _ ((kSt, _) :: (kDg, _) :: []))] = _; rw [pf_go (by decide), pf_go (by decide)] <;> rfl) ?_
    refine er_seq2 (es_fld (k := 0) (fs := [(kSt, .str (tx st)), (kDg, .int 0), (kKp, .str (tx []))]) (y := .int ((p : Int) + 1)) (v := .int ((p : Int) + 1)) (ev_op (ev_var rfl) ev_int ro_add) (fun _ _ z => z) (ev_var rfl) rfl c.cl c.en (show 3 < 1000 by decide)) ?_
    refine er_nM (M' := [insM C (hd4 st 0 [] (endH p h h))]) (by show [insM C (putF kEn _ ((kSt, _) :: (kDg, _) :: (kKp, _) :: []))] = _; rw [pf_go (by decide), pf_go (by decide), pf_go (by decide), e0] <;> rfl) ?_
    refine er_seq2 (es_whileT (α := Nat × List Nat × List Nat) (fun _ => [some (.o 0), some (.d (.str t)), some (.d (.int (p : Nat))), none]) (fun a => [insM C (hd4 st a.1 a.2.1 (endH p h a.2.2))]) (fun a => [insM C (hd4 st (tkL a.1 a.2.1 (nxS a.2.2)).2.1 (tkL a.1 a.2.1 (nxS a.2.2)).2.2 (endH p h a.2.2))]) (fun a => HdP t h z p a.2.2) (fun a => (tkL a.1 a.2.1 (nxS a.2.2)).1) (fun a => .inl ((tkL a.1 a.2.1 (nxS a.2.2)).2.1, (tkL a.1 a.2.1 (nxS a.2.2)).2.2, a.2.2.drop 1)) (fun a => a.2.2.length) (fun a => .inl (tkW a.1 a.2.1 a.2.2)) (0, [], h) rfl hP0 (loop_w) (Lg.refl _) rfl (fun a _ hc => by rw [tkL_no hc])
      (fun a ha => et_B (ev_meth (fs := hd4 st a.1 a.2.1 (endH p h a.2.2)) (ds := [.str (nxS a.2.2)]) (ev_var (i := 0) rfl) (tk_none _ _ _ _) (ea_cons (ev_isD (ev_slS (ev_var (i := 1) rfl) (eo_some (ev_fldM (k := 0) (y := .int (endH p h a.2.2 : Nat)) (ev_var (i := 0) rfl) rfl c.cl c.en (lk_en _ _ _ _) (fun _ => rfl))) (eo_some (ev_op (ev_fldM (k := 0) (y := .int (endH p h a.2.2 : Nat)) (ev_var (i := 0) rfl) rfl c.cl c.en (lk_en _ _ _ _) (fun _ => rfl)) ev_int ro_add)) (by omega)) (show _ = Dt.str (nxS a.2.2) by rw [cutp1, ha.at_, nxS_is])) ea_nil) ⟨st, a.2.1, nxS a.2.2, a.1, endH p h a.2.2, nxS_len _, rfl, rfl, rfl, rfl⟩ rfl))
      (fun a ha hc => ⟨.inl (es_nxM (es_fldAug (k := 0) (x := .int (endH p h a.2.2 : Nat)) (y := .int 1) (z := .int ((endH p h a.2.2 : Nat) + 1 : Int)) (u := .int ((endH p h a.2.2 : Nat) + 1 : Int)) (ev_var rfl) rfl c.cl c.en (lk_en _ _ _ _) (fun _ => rfl) ev_int ro_add (fun _ _ z => z) (by rw [pf_en]; show 4 ≤ 1000; decide) (show 4 < 1000 by decide)) (by
        have hne := tk_ne hc
        show [insM C (putF kEn _ (hd4 st _ _ _))] = [insM C (hd4 st _ _ (endH p h (a.2.2.drop 1)))]
        rw [pf_en]
        have e2 : endH p h (a.2.2.drop 1) = endH p h a.2.2 + 1 := by unfold endH; rw [List.length_drop]; have := ha.le; omega
        rw [e2] <;> rfl)), fun a' e => by
        cases e
        have hne := tk_ne hc
        refine ⟨⟨?_, ?_⟩, ?_⟩
        · show t.drop (endH p h (a.2.2.drop 1)) = a.2.2.drop 1 ++ 10 :: z
          have e2 : endH p h (a.2.2.drop 1) = endH p h a.2.2 + 1 := by unfold endH; rw [List.length_drop]; have := ha.le; omega
          rw [e2, ← List.drop_drop, ha.at_, List.drop_append_of_le_length hne]
        · show (a.2.2.drop 1).length ≤ _; rw [List.length_drop]; have := ha.le; omega
        · show (a.2.2.drop 1).length < _; rw [List.length_drop]; omega⟩)) ?_
    refine er_seq2 (es_asg (ev_call0 (ds := [.str t, .int (endH p h (hdU h).2.2 : Nat)]) (es := []) (z := .int (endH p h (hdU h).2.2 + pbL (hdU h).2.2 : Nat)) (ea_cons (ev_var rfl) (ea_cons (ev_fldM (k := 0) (y := .int (endH p h (hdU h).2.2 : Nat)) (ev_var (i := 0) rfl) rfl c.cl c.en lE (fun _ => rfl)) ea_nil)) ⟨t, endH p h (hdU h).2.2, ht, hle, rfl, rfl, by rw [hP1, pbL_feed], rfl⟩ rfl (fun _ => rfl))) ?_
    refine er_nG (G' := [_, _, _, _]) rfl ?_
    refine er_weak (er_seq1 (er_if (b := true) (et_is (et_not (et_B (ev_call0 (ds := [.str t, .int (endH p h (hdU h).2.2 + pbL (hdU h).2.2 : Nat), .int (endH p h (hdU h).2.2 : Nat)]) (es := []) (z := .bl (restL (t.drop (endH p h (hdU h).2.2 + pbL (hdU h).2.2)) (endH p h (hdU h).2.2 + pbL (hdU h).2.2) (endH p h (hdU h).2.2))) (ea_cons (ev_var rfl) (ea_cons (ev_var rfl) (ea_cons (ev_fldM (k := 0) (y := .int (endH p h (hdU h).2.2 : Nat)) (ev_var (i := 0) rfl) rfl c.cl c.en lE (fun _ => rfl)) ea_nil))) ⟨t, _, endH p h (hdU h).2.2, ht, rfl, rfl, rfl, rfl⟩ rfl (fun _ => rfl)))) (by rw [hrest, hok] <;> rfl)) (fun _ => er_raiseI T_Refused.ox T_Refused.no (ea_cons (ev_var rfl) ea_nil)) (fun z => nomatch z))) ?_
    exact lg_cons (lg_cons (lg_cons (lg_cons lg_nil (.inr rfl)) (.inr rfl)) (.inr rfl)) (.inr rfl)
end
end T
namespace T
open PySem PySem.Spec PyProof.Rows L2 DJ LJ LamX
/-! ### the program: how deep a block scalar's lines lie -/
abbrev s_found_indentation : Stmt := topS 22
abbrev N_found_indentation : List Str := ["text", "line", "above", "most", "place", "blanks"]
theorem sc_found_indentation : FnScope N_found_indentation ["text", "line", "above"] (defScope s_found_indentation) := ⟨rfl, rfl, rfl, by decide +kernel, rfl, by decide +kernel, by decide +kernel⟩
def J : List (List Nat) → List Nat
  | [] => []
  | l :: r => l ++ 10 :: J r
def mkL (l : List Nat) : Bool := decide ((l ++ [32]).take 4 ∈ ([[45, 45, 45, 32], [46, 46, 46, 32]] : List (List Nat)))
theorem mark_is {l : List Nat} (z : List Nat) (h : 10 ∉ l) : markAt (l ++ 10 :: z) = mkL l := by
  unfold markAt mkL
  match l, h with
  | [], _ => cases z with
    | nil => decide
    | cons a z => cases z with
      | nil => simp
      | cons b z => simp
  | [a], _ => cases z <;> simp
  | [a, b], _ => simp
  | [a, b, c], _ => simp [sub_one]
  | a :: b :: c :: d :: r, h =>
    have hd : d ≠ 10 := fun e => h (by simp [e])
    simp [sub_one, hd]
    by_cases e : d = 32 <;> simp [e]
def fiR (n a : Nat) : Nat → List (List Nat) → Nat ⊕ Nat
  | m, [] => .inl m
  | m, l :: r => if pbL l = l.length then fiR n a (max m l.length) r
    else if (decide (pbL l < a) || mkL l) = true then .inl m
    else if pbL l < m then .inr (n - (J (l :: r)).length + pbL l + (if pbL l = 0 then reachL (l ++ 10 :: J r) else 0))
    else .inl (pbL l)
abbrev Fs2 := Nat × List (List Nat)
def wI (a : Nat) : Nat → List (List Nat) → Fs2 ⊕ Out
  | m, [] => .inl (m, [])
  | m, l :: r => if pbL l = l.length then wI a (max m l.length) r
    else if (decide (pbL l < a) || mkL l) = true then .inr (.rt (.d (.int (m : Nat))) [])
    else if pbL l < m then .inl (m, l :: r)
    else .inr (.rt (.d (.int (pbL l : Nat))) [])
theorem wI_1 {a m : Nat} {l : List Nat} {r : List (List Nat)} (c1 : pbL l = l.length) : wI a m (l :: r) = wI a (max m l.length) r := by
  show (if pbL l = l.length then _ else _) = _
  rw [if_pos c1]
theorem wI_2 {a m : Nat} {l : List Nat} {r : List (List Nat)} (c1 : ¬ pbL l = l.length) (c2 : (decide (pbL l < a) || mkL l) = true) : wI a m (l :: r) = .inr (.rt (.d (.int (m : Nat))) []) := by
  show (if pbL l = l.length then _ else _) = _
  rw [if_neg c1, if_pos c2]
theorem wI_3 {a m : Nat} {l : List Nat} {r : List (List Nat)} (c1 : ¬ pbL l = l.length) (c2 : ¬ (decide (pbL l < a) || mkL l) = true) (c3 : ¬ pbL l < m) : wI a m (l :: r) = .inr (.rt (.d (.int (pbL l : Nat))) []) := by
  show (if pbL l = l.length then _ else _) = _
  rw [if_neg c1, if_neg c2, if_neg c3]
theorem wI_is {n a v : Nat} : ∀ (ls : List (List Nat)) (m : Nat), fiR n a m ls = .inl v → wI a m ls = .inl (v, []) ∨ wI a m ls = .inr (.rt (.d (.int (v : Nat))) [])
  | [], m, h => by cases h; exact .inl rfl
  | l :: r, m, h => by
    unfold fiR at h
    unfold wI
    split
    · rename_i e
      rw [if_pos e] at h
      exact wI_is r _ h
    · rename_i e
      rw [if_neg e] at h
      split
      · rename_i e2
        rw [if_pos e2] at h
        cases h
        exact .inr rfl
      · rename_i e2
        rw [if_neg e2] at h
        split
        · rename_i e3
          rw [if_pos e3] at h
          cases h
        · rename_i e3
          rw [if_neg e3] at h
          cases h
          exact .inr rfl
/-- the lines that still stand, at a place of the text -/
structure LsP (t : List Nat) (ls : List (List Nat)) : Prop where
  at_ : t.drop (t.length - (J ls).length) = J ls
  le : (J ls).length ≤ t.length
  no : ∀ l ∈ ls, 10 ∉ l
def posL (t : List Nat) (ls : List (List Nat)) : Nat := t.length - (J ls).length
theorem LsP.tl {t l : List Nat} {r : List (List Nat)} (h : LsP t (l :: r)) : LsP t r ∧ posL t r = posL t (l :: r) + l.length + 1 := by
  have h1 : t.drop (t.length - (l ++ 10 :: J r).length) = l ++ 10 :: J r := h.at_
  have h2 : (l ++ 10 :: J r).length ≤ t.length := h.le
  have e : posL t r = posL t (l :: r) + (l.length + 1) := by
    unfold posL
    show t.length - (J r).length = t.length - (l ++ 10 :: J r).length + (l.length + 1)
    rw [List.length_append, List.length_cons] at h2 ⊢
    omega
  refine ⟨⟨?_, ?_, fun x hx => h.no x (List.mem_cons_of_mem _ hx)⟩, e⟩
  · show t.drop (posL t r) = J r
    rw [e, ← List.drop_drop]
    show (t.drop (t.length - (l ++ 10 :: J r).length)).drop (l.length + 1) = J r
    rw [h1, show l.length + 1 = l.length + 1 from rfl, ← List.drop_drop, List.drop_left]
    rfl
  · rw [List.length_append, List.length_cons] at h2
    omega
/-- what is true of the first line -/
structure LnP (t l z : List Nat) (p : Nat) : Prop where
  at_ : t.drop p = l ++ 10 :: z
  no : 10 ∉ l
  lt : p + l.length < t.length
  bl : t.drop (p + pbL l) = l.drop (pbL l) ++ 10 :: z
  le : pbL l ≤ l.length
  sg : (t.drop (p + pbL l)).take 1 = [] ∨ (t.drop (p + pbL l)).take 1 = [10] ↔ pbL l = l.length
theorem LsP.ln {t l : List Nat} {r : List (List Nat)} (h : LsP t (l :: r)) : LnP t l (J r) (posL t (l :: r)) := by
  have h1 : t.drop (posL t (l :: r)) = l ++ 10 :: J r := h.at_
  have hb := pbL_le l
  have hn := h.no l (List.mem_cons_self ..)
  have hbl : t.drop (posL t (l :: r) + pbL l) = l.drop (pbL l) ++ 10 :: J r := by
    rw [← List.drop_drop, h1, List.drop_append_of_le_length hb]
  refine ⟨h1, hn, by have := line_lt h1; omega, hbl, hb, ?_⟩
  rw [hbl]
  constructor
  · intro z
    by_cases e : pbL l = l.length
    · exact e
    · have hlt : pbL l < l.length := by omega
      rw [List.drop_eq_getElem_cons hlt, List.cons_append, List.take_succ_cons] at z
      rcases z with z | z
      · cases z
      · have : l[pbL l] = 10 := (List.cons.inj z).1
        exact absurd (List.getElem_mem hlt) (by rw [this]; exact hn)
  · intro e
    rw [e, List.drop_length]
    exact .inr rfl
section
variable {P : Program} {w : World} {K : PySem.W.Frag} {mg : Str → Option Value} {base : Heap} {B : Addr}
def A_fi (t : List Nat) (ls : List (List Nat)) (a : Nat) (ss : List Sl) : Prop := t.length ≤ 100000 ∧ LsP t ls ∧ ss = [.d (.str t), .d (.int (posL t ls : Nat)), .d (.int ((a : Int) - 1))]
def R_fi : List Sl → List MO → Sl → List MO → Prop := fun ss M r M' => ∃ (t : List Nat) (ls : List (List Nat)) (a v : Nat), A_fi t ls a ss ∧ fiR t.length a a ls = .inl v ∧ M = [] ∧ r = .d (.int (v : Nat)) ∧ M' = []
def X_fi (B : Addr) : List Sl → List MO → Ex → List MO → Prop := fun ss M x M' => ∃ (t : List Nat) (ls : List (List Nat)) (a y : Nat), A_fi t ls a ss ∧ fiR t.length a a ls = .inr y ∧ M = [] ∧ x = ⟨.ref B, some ("place", .int (y : Nat))⟩ ∧ M' = []
abbrev encI (t : List Nat) (a : Nat) (s : Fs2) : List (Option Sl) := [some (.d (.str t)), some (.d (.int (posL t s.2 : Nat))), some (.d (.int ((a : Int) - 1))), some (.d (.int (s.1 : Nat))), none, none]
theorem cal_fi {k : Nat} (D : Df K mg "found_indentation" s_found_indentation ["text", "line", "above"]) (c_FEED : Gc K mg "FEED" (.str [10])) (f_past_blanks : Cal P w K mg base (k + 1) "past_blanks" (SpR K 2 R_pb) []) (f_is_mark : Cal P w K mg base (k + 1) "is_mark" (SpR K 2 R_mk) []) (f_mark_reach : Cal P w K mg base (k + 1) "mark_reach" (SpR K 2 R_mr) []) (T_Refused : Xi P w K mg base "Refused" "place" B) (m_len : mg "len" = none) (m_max : mg "max" = none) :
    CalX P w K mg base (k + 3) "found_indentation" (SpX K 3 R_fi (X_fi B)) [] := by
  obtain ⟨v_FEED, u_FEED, hm_FEED, hr_FEED, hd_FEED⟩ := c_FEED.ex
  refine cal_mkX (k := k + 2) D sc_found_indentation rfl fun f cdv A outer s H E hr tk po => ⟨fun ss M r M' h => ?_, fun ss M x M' h => ?_⟩
  · obtain ⟨t, ls, a, v, ⟨ht, hls, rfl⟩, hq, rfl, rfl, rfl⟩ := h
    refine ⟨_, [], (pss_cons (ps_asg (pe_op op_add (pv 2) pe_int) (pg_name (i := 3) sc_found_indentation.nd rfl (by first | exact .inl rfl | exact .inr rfl))) (pss_cons (ps_while po (pt_cmpR op_lt (pv 1) (pe_callB call_len_str (by rfl) m_len PySem.boot_len (pa_cons (pv 0) pa_nil)) (nomark _)) (pss_cons (ps_asg (pe_c f_past_blanks hr (by omega) (by rfl) (pa_cons (pv 0) (pa_cons (pv 1) pa_nil))) (pg_name (i := 4) sc_found_indentation.nd rfl (by first | exact .inl rfl | exact .inr rfl))) (pss_cons (ps_asg (pe_op op_sub (pv 4) (pv 1)) (pg_name (i := 5) sc_found_indentation.nd rfl (by first | exact .inl rfl | exact .inr rfl))) (pss_one (ps_if (pt_cmpR (show OpR _ (compareOp .In) (rIn K false) from op_in_seq) (pe_slice sl_str (pv 0) (po_some (pv 4)) (po_some (pe_op op_add (pv 4) pe_int))) (pe_tup (pa_cons pe_str (pa_cons (pe_glob (by rfl) hm_FEED hr_FEED) pa_nil))) (by rfl)) (pss_cons (ps_asg (pe_callB (call_max2 rfl) (by rfl) m_max (by decide +kernel) (pa_cons (pv 3) (pa_cons (pv 5) pa_nil))) (pg_name (i := 3) sc_found_indentation.nd rfl (by first | exact .inl rfl | exact .inr rfl))) (pss_one (ps_asg (pe_op op_add (pv 4) pe_int) (pg_name (i := 1) sc_found_indentation.nd rfl (by first | exact .inl rfl | exact .inr rfl))))) (pss_one (ps_if (PW.pt (pw_or (pt_cmpR op_le (pv 5) (pv 2) (nomark _)) (pw_or1 (pt_val (pe_c f_is_mark hr (by omega) (by rfl) (pa_cons (pv 0) (pa_cons (pv 1) pa_nil))))))) (pss_one (ps_ret (pv 3))) (pss_one (ps_if (pt_cmpR op_lt (pv 5) (pv 3) (nomark _)) (pss_one (ps_raiseI rfl tk T_Refused hr (by omega) (by rfl) (pa_cons (pe_op op_add (pv 4) (pe_ifExp (pt_cmpR op_eq (pv 5) pe_int (nomark _)) (pe_c f_mark_reach hr (by omega) (by rfl) (pa_cons (pv 0) (pa_cons (pv 4) pa_nil))) pe_int)) pa_nil))) (pss_one (ps_ret (pv 5)))))))))))) (pss_one (ps_ret (pv 3))))), .inl ⟨?_, fun j h => nomatch h⟩, Nat.le_refl _⟩
    refine es_seq (es_asg (ev_isD (ev_op (ev_var rfl) ev_int ro_add) (show _ = Dt.int (a : Nat) by congr 1; omega))) ?_
    refine es_nG (G' := [_, _, _, _, _, _]) rfl ?_
    rcases wI_is ls a hq with hw | hw
    · exact es_seq (es_whileO (α := Fs2) (encI t a) (fun _ => []) (fun s => LsP t s.2 ∧ fiR t.length a s.1 s.2 = .inl v) (fun s => !decide (s.2 = [])) (fun s => match s.2 with
      | [] => .inl s
      | l :: r => if pbL l = l.length then .inl (max s.1 l.length, r) else if (decide (pbL l < a) || mkL l) = true then .inr (.rt (.d (.int (s.1 : Nat))) []) else if pbL l < s.1 then .inl s else .inr (.rt (.d (.int (pbL l : Nat))) [])) (fun s => s.2.length) (fun s => wI a s.1 s.2) (a, ls) (by rw [hw] <;> rfl) ⟨hls, hq⟩ (fun s hs => by
        obtain ⟨m, ls⟩ := s
        cases ls with
        | nil => rfl
        | cons l r =>
          rw [if_pos (by rw [decide_eq_false (fun z => nomatch z)] <;> rfl)]
          have hs2 : fiR t.length a m (l :: r) = .inl v := hs.2
          unfold fiR at hs2
          show wI a m (l :: r) = _
          by_cases c1 : pbL l = l.length
          · simp only [if_pos c1]
            exact wI_1 c1
          · simp only [if_neg c1] at hs2 ⊢
            by_cases c2 : (decide (pbL l < a) || mkL l) = true
            · simp only [if_pos c2]
              exact wI_2 c1 c2
            · simp only [if_neg c2] at hs2 ⊢
              by_cases c3 : pbL l < m
              · rw [if_pos c3] at hs2; cases hs2
              · simp only [if_neg c3]
                exact wI_3 c1 c2 c3) (Lg.refl _) rfl (fun s hs => et_is (et_test (ev_op (ev_var (i := 1) rfl) (ev_cb (xs := [.str t]) (ea_cons (ev_var (i := 0) rfl) ea_nil) (rc_lenS (by omega))) ro_lt)) (by
        obtain ⟨m, ls⟩ := s
        cases ls with
        | nil => exact decide_eq_false (by show ¬ ((posL t [] : Nat) : Int) < _; unfold posL; show ¬ ((t.length - 0 : Nat) : Int) < _; omega)
        | cons l r =>
          have h1 : LsP t (l :: r) := hs.1
          have := h1.ln.lt
          exact (decide_eq_true (by show ((posL t (l :: r) : Nat) : Int) < _; omega)).trans (by rw [decide_eq_false (fun z => nomatch z)] <;> rfl))) (fun s hs hc => by
        obtain ⟨m, ls⟩ := s
        cases ls with
        | nil => exact absurd hc (by simp)
        | cons l r =>
          obtain ⟨hl, hv⟩ := hs
          have hl : LsP t (l :: r) := hl
          have hn := hl.ln
          have ht2 := hl.tl
          have hp : posL t (l :: r) ≤ t.length := by have := hn.lt; omega
          have hv : fiR t.length a m (l :: r) = .inl v := hv
          unfold fiR at hv
          simp only
          by_cases c1 : pbL l = l.length
          · rw [if_pos c1] at hv ⊢
            refine ⟨.inl ?_, fun a' e => by cases e; exact ⟨⟨ht2.1, hv⟩, Nat.lt_succ_self _⟩⟩
            refine es_seq (es_asg (ev_isD (ev_call0 (ds := [.str t, .int (posL t (l :: r) : Nat)]) (es := []) (z := .int ((posL t (l :: r) + pbL (t.drop (posL t (l :: r))) : Nat) : Int)) (ea_cons (ev_var rfl) (ea_cons (ev_var rfl) ea_nil)) ⟨t, _, ht, hp, rfl, rfl, rfl, rfl⟩ rfl (fun _ => rfl)) (show _ = Dt.int (posL t (l :: r) + pbL l : Nat) by rw [hn.at_, pbL_feed]))) ?_
            refine es_nG (G' := [_, _, _, _, _, _]) rfl ?_
            refine es_seq (es_asg (ev_isD (ev_op (ev_var rfl) (ev_var rfl) ro_sub) (show Dt.int (((posL t (l :: r) + pbL l : Nat) : Int) - ((posL t (l :: r) : Nat) : Int)) = Dt.int (pbL l : Nat) by congr 1; omega))) ?_
            refine es_nG (G' := [_, _, _, _, _, _]) rfl ?_
            exact es_nxw (es_yes (et_is (et_test (ev_op (ev_isD (ev_slS (ev_var rfl) (eo_some (ev_var rfl)) (eo_some (ev_op (ev_var rfl) ev_int ro_add)) (by omega)) (show _ = Dt.str ((t.drop (posL t (l :: r) + pbL l)).take 1) by rw [cutp1])) (ev_tup (xs := [[], [10]].map Dt.str) (ea_cons (ev_str _) (ea_cons (ev_c hd_FEED) ea_nil)) (show 2 ≤ 1000 by decide)) ro_inT)) (show _ = decide (pbL l = l.length) from decide_eq_decide.mpr (by rw [List.mem_cons, List.mem_singleton]; exact hn.sg))) (decide_eq_true c1) (es_seq (es_asg (ev_isD (ev_cb (xs := [.int (m : Nat), .int (pbL l : Nat)]) (ea_cons (ev_var rfl) (ea_cons (ev_var rfl) ea_nil)) rc_max2) (show _ = Dt.int (max m l.length : Nat) by congr 1; rw [c1]; split <;> omega))) (es_nG (G' := [_, _, _, _, _, _]) rfl (es_asg (ev_isD (ev_op (ev_var rfl) ev_int ro_add) (show _ = Dt.int (posL t r : Nat) by congr 1; rw [ht2.2, c1]; omega)))))) (lg_cons (lg_cons (lg_cons (lg_cons (lg_cons (lg_cons lg_nil (.inr rfl)) (.inr rfl)) (.inl rfl)) (.inl rfl)) (.inl rfl)) (.inl rfl))
          · rw [if_neg c1] at hv ⊢
            by_cases c2 : (decide (pbL l < a) || mkL l) = true
            · rw [if_pos c2] at hv ⊢
              refine ⟨?_, fun a' e => nomatch e⟩
              show EvS K _ _ _ (.rt _ _)
              refine es_seq (es_asg (ev_isD (ev_call0 (ds := [.str t, .int (posL t (l :: r) : Nat)]) (es := []) (z := .int ((posL t (l :: r) + pbL (t.drop (posL t (l :: r))) : Nat) : Int)) (ea_cons (ev_var rfl) (ea_cons (ev_var rfl) ea_nil)) ⟨t, _, ht, hp, rfl, rfl, rfl, rfl⟩ rfl (fun _ => rfl)) (show _ = Dt.int (posL t (l :: r) + pbL l : Nat) by rw [hn.at_, pbL_feed]))) ?_
              refine es_nG (G' := [_, _, _, _, _, _]) rfl ?_
              refine es_seq (es_asg (ev_isD (ev_op (ev_var rfl) (ev_var rfl) ro_sub) (show Dt.int (((posL t (l :: r) + pbL l : Nat) : Int) - ((posL t (l :: r) : Nat) : Int)) = Dt.int (pbL l : Nat) by congr 1; omega))) ?_
              refine es_nG (G' := [_, _, _, _, _, _]) rfl ?_
              exact es_no (et_is (et_test (ev_op (ev_isD (ev_slS (ev_var rfl) (eo_some (ev_var rfl)) (eo_some (ev_op (ev_var rfl) ev_int ro_add)) (by omega)) (show _ = Dt.str ((t.drop (posL t (l :: r) + pbL l)).take 1) by rw [cutp1])) (ev_tup (xs := [[], [10]].map Dt.str) (ea_cons (ev_str _) (ea_cons (ev_c hd_FEED) ea_nil)) (show 2 ≤ 1000 by decide)) ro_inT)) (show _ = decide (pbL l = l.length) from decide_eq_decide.mpr (by rw [List.mem_cons, List.mem_singleton]; exact hn.sg))) (decide_eq_false c1) (es_yes (et_or (b := decide (pbL l < a)) (c := mkL l) (et_is (et_test (ev_op (ev_var rfl) (ev_var rfl) ro_le)) (decide_eq_decide.mpr (by omega))) (fun _ => et_is (et_B (ev_call0 (ds := [.str t, .int (posL t (l :: r) : Nat)]) (es := []) (z := .bl (markAt (t.drop (posL t (l :: r))))) (ea_cons (ev_var rfl) (ea_cons (ev_var rfl) ea_nil)) ⟨t, _, ht, rfl, rfl, rfl, rfl⟩ rfl (fun _ => rfl))) (by rw [hn.at_, mark_is _ hn.no])) (fun _ => rfl)) c2 (es_ret (ev_var rfl)))
            · rw [if_neg c2] at hv ⊢
              by_cases c3 : pbL l < m
              · rw [if_pos c3] at hv; cases hv
              · rw [if_neg c3]
                refine ⟨?_, fun a' e => nomatch e⟩
                show EvS K _ _ _ (.rt _ _)
                refine es_seq (es_asg (ev_isD (ev_call0 (ds := [.str t, .int (posL t (l :: r) : Nat)]) (es := []) (z := .int ((posL t (l :: r) + pbL (t.drop (posL t (l :: r))) : Nat) : Int)) (ea_cons (ev_var rfl) (ea_cons (ev_var rfl) ea_nil)) ⟨t, _, ht, hp, rfl, rfl, rfl, rfl⟩ rfl (fun _ => rfl)) (show _ = Dt.int (posL t (l :: r) + pbL l : Nat) by rw [hn.at_, pbL_feed]))) ?_
                refine es_nG (G' := [_, _, _, _, _, _]) rfl ?_
                refine es_seq (es_asg (ev_isD (ev_op (ev_var rfl) (ev_var rfl) ro_sub) (show Dt.int (((posL t (l :: r) + pbL l : Nat) : Int) - ((posL t (l :: r) : Nat) : Int)) = Dt.int (pbL l : Nat) by congr 1; omega))) ?_
                refine es_nG (G' := [_, _, _, _, _, _]) rfl ?_
                exact es_no (et_is (et_test (ev_op (ev_isD (ev_slS (ev_var rfl) (eo_some (ev_var rfl)) (eo_some (ev_op (ev_var rfl) ev_int ro_add)) (by omega)) (show _ = Dt.str ((t.drop (posL t (l :: r) + pbL l)).take 1) by rw [cutp1])) (ev_tup (xs := [[], [10]].map Dt.str) (ea_cons (ev_str _) (ea_cons (ev_c hd_FEED) ea_nil)) (show 2 ≤ 1000 by decide)) ro_inT)) (show _ = decide (pbL l = l.length) from decide_eq_decide.mpr (by rw [List.mem_cons, List.mem_singleton]; exact hn.sg))) (decide_eq_false c1) (es_no (et_or (b := decide (pbL l < a)) (c := mkL l) (et_is (et_test (ev_op (ev_var rfl) (ev_var rfl) ro_le)) (decide_eq_decide.mpr (by omega))) (fun _ => et_is (et_B (ev_call0 (ds := [.str t, .int (posL t (l :: r) : Nat)]) (es := []) (z := .bl (markAt (t.drop (posL t (l :: r))))) (ea_cons (ev_var rfl) (ea_cons (ev_var rfl) ea_nil)) ⟨t, _, ht, rfl, rfl, rfl, rfl⟩ rfl (fun _ => rfl))) (by rw [hn.at_, mark_is _ hn.no])) (fun _ => rfl)) (Bool.eq_false_iff.mpr c2) (es_no (et_is (et_test (ev_op (ev_var rfl) (ev_var rfl) ro_lt)) (show _ = decide (pbL l < m) from decide_eq_decide.mpr (by omega))) (decide_eq_false c3) (es_ret (ev_var rfl)))))) (es_ret (ev_var rfl))
    · exact es_seqR (es_whileO (α := Fs2) (encI t a) (fun _ => []) (fun s => LsP t s.2 ∧ fiR t.length a s.1 s.2 = .inl v) (fun s => !decide (s.2 = [])) (fun s => match s.2 with
      | [] => .inl s
      | l :: r => if pbL l = l.length then .inl (max s.1 l.length, r) else if (decide (pbL l < a) || mkL l) = true then .inr (.rt (.d (.int (s.1 : Nat))) []) else if pbL l < s.1 then .inl s else .inr (.rt (.d (.int (pbL l : Nat))) [])) (fun s => s.2.length) (fun s => wI a s.1 s.2) (a, ls) (by rw [hw] <;> rfl) ⟨hls, hq⟩ (fun s hs => by
        obtain ⟨m, ls⟩ := s
        cases ls with
        | nil => rfl
        | cons l r =>
          rw [if_pos (by rw [decide_eq_false (fun z => nomatch z)] <;> rfl)]
          have hs2 : fiR t.length a m (l :: r) = .inl v := hs.2
          unfold fiR at hs2
          show wI a m (l :: r) = _
          by_cases c1 : pbL l = l.length
          · simp only [if_pos c1]
            exact wI_1 c1
          · simp only [if_neg c1] at hs2 ⊢
            by_cases c2 : (decide (pbL l < a) || mkL l) = true
            · simp only [if_pos c2]
              exact wI_2 c1 c2
            · simp only [if_neg c2] at hs2 ⊢
              by_cases c3 : pbL l < m
              · rw [if_pos c3] at hs2; cases hs2
              · simp only [if_neg c3]
                exact wI_3 c1 c2 c3) (Lg.refl _) rfl (fun s hs => et_is (et_test (ev_op (ev_var (i := 1) rfl) (ev_cb (xs := [.str t]) (ea_cons (ev_var (i := 0) rfl) ea_nil) (rc_lenS (by omega))) ro_lt)) (by
        obtain ⟨m, ls⟩ := s
        cases ls with
        | nil => exact decide_eq_false (by show ¬ ((posL t [] : Nat) : Int) < _; unfold posL; show ¬ ((t.length - 0 : Nat) : Int) < _; omega)
        | cons l r =>
          have h1 : LsP t (l :: r) := hs.1
          have := h1.ln.lt
          exact (decide_eq_true (by show ((posL t (l :: r) : Nat) : Int) < _; omega)).trans (by rw [decide_eq_false (fun z => nomatch z)] <;> rfl))) (fun s hs hc => by
        obtain ⟨m, ls⟩ := s
        cases ls with
        | nil => exact absurd hc (by simp)
        | cons l r =>
          obtain ⟨hl, hv⟩ := hs
          have hl : LsP t (l :: r) := hl
          have hn := hl.ln
          have ht2 := hl.tl
          have hp : posL t (l :: r) ≤ t.length := by have := hn.lt; omega
          have hv : fiR t.length a m (l :: r) = .inl v := hv
          unfold fiR at hv
          simp only
          by_cases c1 : pbL l = l.length
          · rw [if_pos c1] at hv ⊢
            refine ⟨.inl ?_, fun a' e => by cases e; exact ⟨⟨ht2.1, hv⟩, Nat.lt_succ_self _⟩⟩
            refine es_seq (es_asg (ev_isD (ev_call0 (ds := [.str t, .int (posL t (l :: r) : Nat)]) (es := []) (z := .int ((posL t (l :: r) + pbL (t.drop (posL t (l :: r))) : Nat) : Int)) (ea_cons (ev_var rfl) (ea_cons (ev_var rfl) ea_nil)) ⟨t, _, ht, hp, rfl, rfl, rfl, rfl⟩ rfl (fun _ => rfl)) (show _ = Dt.int (posL t (l :: r) + pbL l : Nat) by rw [hn.at_, pbL_feed]))) ?_
            refine es_nG (G' := [_, _, _, _, _, _]) rfl ?_
            refine es_seq (es_asg (ev_isD (ev_op (ev_var rfl) (ev_var rfl) ro_sub) (show Dt.int (((posL t (l :: r) + pbL l : Nat) : Int) - ((posL t (l :: r) : Nat) : Int)) = Dt.int (pbL l : Nat) by congr 1; omega))) ?_
            refine es_nG (G' := [_, _, _, _, _, _]) rfl ?_
            exact es_nxw (es_yes (et_is (et_test (ev_op (ev_isD (ev_slS (ev_var rfl) (eo_some (ev_var rfl)) (eo_some (ev_op (ev_var rfl) ev_int ro_add)) (by omega)) (show _ = Dt.str ((t.drop (posL t (l :: r) + pbL l)).take 1) by rw [cutp1])) (ev_tup (xs := [[], [10]].map Dt.str) (ea_cons (ev_str _) (ea_cons (ev_c hd_FEED) ea_nil)) (show 2 ≤ 1000 by decide)) ro_inT)) (show _ = decide (pbL l = l.length) from decide_eq_decide.mpr (by rw [List.mem_cons, List.mem_singleton]; exact hn.sg))) (decide_eq_true c1) (es_seq (es_asg (ev_isD (ev_cb (xs := [.int (m : Nat), .int (pbL l : Nat)]) (ea_cons (ev_var rfl) (ea_cons (ev_var rfl) ea_nil)) rc_max2) (show _ = Dt.int (max m l.length : Nat) by congr 1; rw [c1]; split <;> omega))) (es_nG (G' := [_, _, _, _, _, _]) rfl (es_asg (ev_isD (ev_op (ev_var rfl) ev_int ro_add) (show _ = Dt.int (posL t r : Nat) by congr 1; rw [ht2.2, c1]; omega)))))) (lg_cons (lg_cons (lg_cons (lg_cons (lg_cons (lg_cons lg_nil (.inr rfl)) (.inr rfl)) (.inl rfl)) (.inl rfl)) (.inl rfl)) (.inl rfl))
          · rw [if_neg c1] at hv ⊢
            by_cases c2 : (decide (pbL l < a) || mkL l) = true
            · rw [if_pos c2] at hv ⊢
              refine ⟨?_, fun a' e => nomatch e⟩
              show EvS K _ _ _ (.rt _ _)
              refine es_seq (es_asg (ev_isD (ev_call0 (ds := [.str t, .int (posL t (l :: r) : Nat)]) (es := []) (z := .int ((posL t (l :: r) + pbL (t.drop (posL t (l :: r))) : Nat) : Int)) (ea_cons (ev_var rfl) (ea_cons (ev_var rfl) ea_nil)) ⟨t, _, ht, hp, rfl, rfl, rfl, rfl⟩ rfl (fun _ => rfl)) (show _ = Dt.int (posL t (l :: r) + pbL l : Nat) by rw [hn.at_, pbL_feed]))) ?_
              refine es_nG (G' := [_, _, _, _, _, _]) rfl ?_
              refine es_seq (es_asg (ev_isD (ev_op (ev_var rfl) (ev_var rfl) ro_sub) (show Dt.int (((posL t (l :: r) + pbL l : Nat) : Int) - ((posL t (l :: r) : Nat) : Int)) = Dt.int (pbL l : Nat) by congr 1; omega))) ?_
              refine es_nG (G' := [_, _, _, _, _, _]) rfl ?_
              exact es_no (et_is (et_test (ev_op (ev_isD (ev_slS (ev_var rfl) (eo_some (ev_var rfl)) (eo_some (ev_op (ev_var rfl) ev_int ro_add)) (by omega)) (show _ = Dt.str ((t.drop (posL t (l :: r) + pbL l)).take 1) by rw [cutp1])) (ev_tup (xs := [[], [10]].map Dt.str) (ea_cons (ev_str _) (ea_cons (ev_c hd_FEED) ea_nil)) (show 2 ≤ 1000 by decide)) ro_inT)) (show _ = decide (pbL l = l.length) from decide_eq_decide.mpr (by rw [List.mem_cons, List.mem_singleton]; exact hn.sg))) (decide_eq_false c1) (es_yes (et_or (b := decide (pbL l < a)) (c := mkL l) (et_is (et_test (ev_op (ev_var rfl) (ev_var rfl) ro_le)) (decide_eq_decide.mpr (by omega))) (fun _ => et_is (et_B (ev_call0 (ds := [.str t, .int (posL t (l :: r) : Nat)]) (es := []) (z := .bl (markAt (t.drop (posL t (l :: r))))) (ea_cons (ev_var rfl) (ea_cons (ev_var rfl) ea_nil)) ⟨t, _, ht, rfl, rfl, rfl, rfl⟩ rfl (fun _ => rfl))) (by rw [hn.at_, mark_is _ hn.no])) (fun _ => rfl)) c2 (es_ret (ev_var rfl)))
            · rw [if_neg c2] at hv ⊢
              by_cases c3 : pbL l < m
              · rw [if_pos c3] at hv; cases hv
              · rw [if_neg c3]
                refine ⟨?_, fun a' e => nomatch e⟩
                show EvS K _ _ _ (.rt _ _)
                refine es_seq (es_asg (ev_isD (ev_call0 (ds := [.str t, .int (posL t (l :: r) : Nat)]) (es := []) (z := .int ((posL t (l :: r) + pbL (t.drop (posL t (l :: r))) : Nat) : Int)) (ea_cons (ev_var rfl) (ea_cons (ev_var rfl) ea_nil)) ⟨t, _, ht, hp, rfl, rfl, rfl, rfl⟩ rfl (fun _ => rfl)) (show _ = Dt.int (posL t (l :: r) + pbL l : Nat) by rw [hn.at_, pbL_feed]))) ?_
                refine es_nG (G' := [_, _, _, _, _, _]) rfl ?_
                refine es_seq (es_asg (ev_isD (ev_op (ev_var rfl) (ev_var rfl) ro_sub) (show Dt.int (((posL t (l :: r) + pbL l : Nat) : Int) - ((posL t (l :: r) : Nat) : Int)) = Dt.int (pbL l : Nat) by congr 1; omega))) ?_
                refine es_nG (G' := [_, _, _, _, _, _]) rfl ?_
                exact es_no (et_is (et_test (ev_op (ev_isD (ev_slS (ev_var rfl) (eo_some (ev_var rfl)) (eo_some (ev_op (ev_var rfl) ev_int ro_add)) (by omega)) (show _ = Dt.str ((t.drop (posL t (l :: r) + pbL l)).take 1) by rw [cutp1])) (ev_tup (xs := [[], [10]].map Dt.str) (ea_cons (ev_str _) (ea_cons (ev_c hd_FEED) ea_nil)) (show 2 ≤ 1000 by decide)) ro_inT)) (show _ = decide (pbL l = l.length) from decide_eq_decide.mpr (by rw [List.mem_cons, List.mem_singleton]; exact hn.sg))) (decide_eq_false c1) (es_no (et_or (b := decide (pbL l < a)) (c := mkL l) (et_is (et_test (ev_op (ev_var rfl) (ev_var rfl) ro_le)) (decide_eq_decide.mpr (by omega))) (fun _ => et_is (et_B (ev_call0 (ds := [.str t, .int (posL t (l :: r) : Nat)]) (es := []) (z := .bl (markAt (t.drop (posL t (l :: r))))) (ea_cons (ev_var rfl) (ea_cons (ev_var rfl) ea_nil)) ⟨t, _, ht, rfl, rfl, rfl, rfl⟩ rfl (fun _ => rfl))) (by rw [hn.at_, mark_is _ hn.no])) (fun _ => rfl)) (Bool.eq_false_iff.mpr c2) (es_no (et_is (et_test (ev_op (ev_var rfl) (ev_var rfl) ro_lt)) (show _ = decide (pbL l < m) from decide_eq_decide.mpr (by omega))) (decide_eq_false c3) (es_ret (ev_var rfl))))))
  · obtain ⟨t, ls, a, y, ⟨ht, hls, rfl⟩, hq, rfl, rfl, rfl⟩ := h
    refine ⟨_, [], [none, none, none, none, none, none], (pss_cons (ps_asg (pe_op op_add (pv 2) pe_int) (pg_name (i := 3) sc_found_indentation.nd rfl (by first | exact .inl rfl | exact .inr rfl))) (pss_cons (ps_while po (pt_cmpR op_lt (pv 1) (pe_callB call_len_str (by rfl) m_len PySem.boot_len (pa_cons (pv 0) pa_nil)) (nomark _)) (pss_cons (ps_asg (pe_c f_past_blanks hr (by omega) (by rfl) (pa_cons (pv 0) (pa_cons (pv 1) pa_nil))) (pg_name (i := 4) sc_found_indentation.nd rfl (by first | exact .inl rfl | exact .inr rfl))) (pss_cons (ps_asg (pe_op op_sub (pv 4) (pv 1)) (pg_name (i := 5) sc_found_indentation.nd rfl (by first | exact .inl rfl | exact .inr rfl))) (pss_one (ps_if (pt_cmpR (show OpR _ (compareOp .In) (rIn K false) from op_in_seq) (pe_slice sl_str (pv 0) (po_some (pv 4)) (po_some (pe_op op_add (pv 4) pe_int))) (pe_tup (pa_cons pe_str (pa_cons (pe_glob (by rfl) hm_FEED hr_FEED) pa_nil))) (by rfl)) (pss_cons (ps_asg (pe_callB (call_max2 rfl) (by rfl) m_max (by decide +kernel) (pa_cons (pv 3) (pa_cons (pv 5) pa_nil))) (pg_name (i := 3) sc_found_indentation.nd rfl (by first | exact .inl rfl | exact .inr rfl))) (pss_one (ps_asg (pe_op op_add (pv 4) pe_int) (pg_name (i := 1) sc_found_indentation.nd rfl (by first | exact .inl rfl | exact .inr rfl))))) (pss_one (ps_if (PW.pt (pw_or (pt_cmpR op_le (pv 5) (pv 2) (nomark _)) (pw_or1 (pt_val (pe_c f_is_mark hr (by omega) (by rfl) (pa_cons (pv 0) (pa_cons (pv 1) pa_nil))))))) (pss_one (ps_ret (pv 3))) (pss_one (ps_if (pt_cmpR op_lt (pv 5) (pv 3) (nomark _)) (pss_one (ps_raiseI rfl tk T_Refused hr (by omega) (by rfl) (pa_cons (pe_op op_add (pv 4) (pe_ifExp (pt_cmpR op_eq (pv 5) pe_int (nomark _)) (pe_c f_mark_reach hr (by omega) (by rfl) (pa_cons (pv 0) (pa_cons (pv 4) pa_nil))) pe_int)) pa_nil))) (pss_one (ps_ret (pv 5)))))))))))) (pss_one (ps_ret (pv 3))))), ?_, Nat.le_refl _⟩
    refine er_seq2 (es_asg (ev_isD (ev_op (ev_var rfl) ev_int ro_add) (show _ = Dt.int (a : Nat) by congr 1; omega))) ?_
    refine er_nG (G' := [_, _, _, _, _, _]) rfl ?_
    refine er_seq1 (er_while (α := Fs2) (encI t a) (fun _ => []) (fun s => LsP t s.2 ∧ fiR t.length a s.1 s.2 = .inr y) (fun s => s.2.length) (a, ls) ⟨hls, hq⟩ (Lg.refl _) rfl (fun s hs => et_is (et_test (ev_op (ev_var (i := 1) rfl) (ev_cb (xs := [.str t]) (ea_cons (ev_var (i := 0) rfl) ea_nil) (rc_lenS (by omega))) ro_lt)) (decide_eq_true (by
      cases hl : s.2 with
      | nil => have := hs.2; rw [hl] at this; cases this
      | cons l r => have := (hl ▸ hs.1 : LsP t (l :: r)).ln.lt; omega))) (fun s hs => ?_))
    obtain ⟨m, ls⟩ := s
    cases ls with
    | nil => cases hs.2
    | cons l r =>
      obtain ⟨hl, hv⟩ := hs
      have hl : LsP t (l :: r) := hl
      have hn := hl.ln
      have ht2 := hl.tl
      have hp : posL t (l :: r) ≤ t.length := by have := hn.lt; omega
      unfold fiR at hv
      by_cases c1 : pbL l = l.length
      · rw [if_pos c1] at hv
        refine .inl ⟨(max m l.length, r), ⟨ht2.1, hv⟩, Nat.lt_succ_self _, ?_⟩
        refine es_seq (es_asg (ev_isD (ev_call0 (ds := [.str t, .int (posL t (l :: r) : Nat)]) (es := []) (z := .int ((posL t (l :: r) + pbL (t.drop (posL t (l :: r))) : Nat) : Int)) (ea_cons (ev_var rfl) (ea_cons (ev_var rfl) ea_nil)) ⟨t, _, ht, hp, rfl, rfl, rfl, rfl⟩ rfl (fun _ => rfl)) (show _ = Dt.int (posL t (l :: r) + pbL l : Nat) by rw [hn.at_, pbL_feed]))) ?_
        refine es_nG (G' := [_, _, _, _, _, _]) rfl ?_
        refine es_seq (es_asg (ev_isD (ev_op (ev_var rfl) (ev_var rfl) ro_sub) (show Dt.int (((posL t (l :: r) + pbL l : Nat) : Int) - ((posL t (l :: r) : Nat) : Int)) = Dt.int (pbL l : Nat) by congr 1; omega))) ?_
        refine es_nG (G' := [_, _, _, _, _, _]) rfl ?_
        exact es_nxw (es_yes (et_is (et_test (ev_op (ev_isD (ev_slS (ev_var rfl) (eo_some (ev_var rfl)) (eo_some (ev_op (ev_var rfl) ev_int ro_add)) (by omega)) (show _ = Dt.str ((t.drop (posL t (l :: r) + pbL l)).take 1) by rw [cutp1])) (ev_tup (xs := [[], [10]].map Dt.str) (ea_cons (ev_str _) (ea_cons (ev_c hd_FEED) ea_nil)) (show 2 ≤ 1000 by decide)) ro_inT)) (show _ = decide (pbL l = l.length) from decide_eq_decide.mpr (by rw [List.mem_cons, List.mem_singleton]; exact hn.sg))) (decide_eq_true c1) (es_seq (es_asg (ev_isD (ev_cb (xs := [.int (m : Nat), .int (pbL l : Nat)]) (ea_cons (ev_var rfl) (ea_cons (ev_var rfl) ea_nil)) rc_max2) (show _ = Dt.int (max m l.length : Nat) by congr 1; rw [c1]; split <;> omega))) (es_nG (G' := [_, _, _, _, _, _]) rfl (es_asg (ev_isD (ev_op (ev_var rfl) ev_int ro_add) (show _ = Dt.int (posL t r : Nat) by congr 1; rw [ht2.2, c1]; omega)))))) (lg_cons (lg_cons (lg_cons (lg_cons (lg_cons (lg_cons lg_nil (.inr rfl)) (.inr rfl)) (.inl rfl)) (.inl rfl)) (.inl rfl)) (.inl rfl))
      · rw [if_neg c1] at hv
        by_cases c2 : (decide (pbL l < a) || mkL l) = true
        · rw [if_pos c2] at hv; cases hv
        · rw [if_neg c2] at hv
          by_cases c3 : pbL l < m
          · rw [if_pos c3] at hv
            cases hv
            refine .inr ?_
            refine er_seq2 (es_asg (ev_isD (ev_call0 (ds := [.str t, .int (posL t (l :: r) : Nat)]) (es := []) (z := .int ((posL t (l :: r) + pbL (t.drop (posL t (l :: r))) : Nat) : Int)) (ea_cons (ev_var rfl) (ea_cons (ev_var rfl) ea_nil)) ⟨t, _, ht, hp, rfl, rfl, rfl, rfl⟩ rfl (fun _ => rfl)) (show _ = Dt.int (posL t (l :: r) + pbL l : Nat) by rw [hn.at_, pbL_feed]))) ?_
            refine er_nG (G' := [_, _, _, _, _, _]) rfl ?_
            refine er_seq2 (es_asg (ev_isD (ev_op (ev_var rfl) (ev_var rfl) ro_sub) (show Dt.int (((posL t (l :: r) + pbL l : Nat) : Int) - ((posL t (l :: r) : Nat) : Int)) = Dt.int (pbL l : Nat) by congr 1; omega))) ?_
            refine er_nG (G' := [_, _, _, _, _, _]) rfl ?_
            refine er_weak (er_if (b := false) (et_is (et_is (et_test (ev_op (ev_isD (ev_slS (ev_var rfl) (eo_some (ev_var rfl)) (eo_some (ev_op (ev_var rfl) ev_int ro_add)) (by omega)) (show _ = Dt.str ((t.drop (posL t (l :: r) + pbL l)).take 1) by rw [cutp1])) (ev_tup (xs := [[], [10]].map Dt.str) (ea_cons (ev_str _) (ea_cons (ev_c hd_FEED) ea_nil)) (show 2 ≤ 1000 by decide)) ro_inT)) (show _ = decide (pbL l = l.length) from decide_eq_decide.mpr (by rw [List.mem_cons, List.mem_singleton]; exact hn.sg))) (decide_eq_false c1)) (fun z => nomatch z) (fun _ => er_if (b := false) (et_is (et_or (b := decide (pbL l < a)) (c := mkL l) (et_is (et_test (ev_op (ev_var rfl) (ev_var rfl) ro_le)) (decide_eq_decide.mpr (by omega))) (fun _ => et_is (et_B (ev_call0 (ds := [.str t, .int (posL t (l :: r) : Nat)]) (es := []) (z := .bl (markAt (t.drop (posL t (l :: r))))) (ea_cons (ev_var rfl) (ea_cons (ev_var rfl) ea_nil)) ⟨t, _, ht, rfl, rfl, rfl, rfl⟩ rfl (fun _ => rfl))) (by rw [hn.at_, mark_is _ hn.no])) (fun _ => rfl)) (Bool.eq_false_iff.mpr c2)) (fun z => nomatch z) (fun _ => er_if (b := true) (et_is (et_is (et_test (ev_op (ev_var rfl) (ev_var rfl) ro_lt)) (show _ = decide (pbL l < m) from decide_eq_decide.mpr (by omega))) (decide_eq_true c3)) (fun _ => er_raiseI T_Refused.ox T_Refused.no (ea_cons (ev_isD (ev_op (ev_var rfl) (ev_iteI (b := decide (pbL l = 0)) (i := ((reachL (l.drop (pbL l) ++ 10 :: J r) : Nat) : Int)) (j := 0) (et_is (et_test (ev_op (ev_var rfl) ev_int ro_eqI)) (decide_eq_decide.mpr (by omega))) (fun _ => ev_isD (ev_call0 (ds := [.str t, .int (posL t (l :: r) + pbL l : Nat)]) (es := []) (z := .int ((reachL (t.drop (posL t (l :: r) + pbL l)) : Nat) : Int)) (ea_cons (ev_var rfl) (ea_cons (ev_var rfl) ea_nil)) ⟨t, _, ht, rfl, rfl, rfl, rfl⟩ rfl (fun _ => rfl)) (by rw [hn.bl])) (fun _ => ev_int)) ro_add) (by
              congr 1
              by_cases z : pbL l = 0
              · rw [if_pos (decide_eq_true z), if_pos z, z, List.drop_zero]; unfold posL; omega
              · rw [if_neg (by rw [decide_eq_false z]; exact Bool.false_ne_true), if_neg z]; unfold posL; omega)) ea_nil)) (fun z => nomatch z)))) ?_
            exact lg_cons (lg_cons (lg_cons (lg_cons (lg_cons (lg_cons lg_nil (.inr rfl)) (.inr rfl)) (.inr rfl)) (.inr rfl)) (.inr rfl)) (.inr rfl)
          · rw [if_neg c3] at hv; cases hv
end
end T
namespace T
open PySem PySem.Spec PyProof.Rows L2 DJ LJ LamX
/-! ### the program: a block scalar's lines -/
abbrev s_content_lines : Stmt := topS 23
abbrev N_content_lines : List Str := ["text", "line", "deep", "rows", "place", "end"]
theorem sc_content_lines : FnScope N_content_lines ["text", "line", "deep"] (defScope s_content_lines) := ⟨rfl, rfl, rfl, by decide +kernel, rfl, by decide +kernel, by decide +kernel⟩
abbrev s_last_content : Stmt := topS 24
abbrev N_last_content : List Str := ["rows", "last"]
theorem sc_last_content : FnScope N_last_content ["rows"] (defScope s_last_content) := ⟨rfl, rfl, rfl, by decide +kernel, rfl, by decide +kernel, by decide +kernel⟩
theorem es_bkw {K : PySem.W.Frag} {t : TS} {G G1 G2 : List (Option Sl)} {M M1 : List MO} (h : EvS K t G M (.bk G1 M1)) (l : Lg G1 G2) : EvS K t G M (.bk G2 M1) := fun F B as σ H ow sl D gd => h F B as σ H ow sl D fun B' as' σ' H' g p o' s' => gd B' as' σ' H' g p o' (s'.weak l)
theorem es_ctw {K : PySem.W.Frag} {t : TS} {G G1 G2 : List (Option Sl)} {M M1 : List MO} (h : EvS K t G M (.ct G1 M1)) (l : Lg G1 G2) : EvS K t G M (.ct G2 M1) := fun F B as σ H ow sl D gd => h F B as σ H ow sl D fun B' as' σ' H' g p o' s' => gd B' as' σ' H' g p o' (s'.weak l)
theorem cut_line {t l z : List Nat} {p d : Nat} (h : t.drop p = l ++ 10 :: z) (hd : d ≤ l.length) : cutL t (some (((p : Nat) : Int) + (d : Nat))) (some ((p + l.length : Nat) : Int)) = l.drop d := by
  show cutL t (some ((p + d : Nat) : Int)) (some ((p + l.length : Nat) : Int)) = _
  rw [cutL_nat, ← List.drop_drop, h, List.drop_append_of_le_length hd, show p + l.length - (p + d) = (l.drop d).length by rw [List.length_drop]; omega, List.take_left]
def bare (d : Nat) (l : List Nat) : Bool := decide (pbL l = l.length) && decide (l.length ≤ d)
def full (d : Nat) (l : List Nat) : Bool := decide (d ≤ pbL l) && !(decide (d = 0) && mkL l)
def clL (d : Nat) : List (List Nat) → List (List Nat) × List (List Nat)
  | [] => ([], [])
  | l :: r => if bare d l = true then ([] :: (clL d r).1, (clL d r).2) else if full d l = true then (l.drop d :: (clL d r).1, (clL d r).2) else ([], l :: r)
theorem clL_1 {d : Nat} {l : List Nat} {r : List (List Nat)} (h : bare d l = true) : clL d (l :: r) = ([] :: (clL d r).1, (clL d r).2) := by
  show (if _ then _ else _) = _
  rw [if_pos h]
theorem clL_2 {d : Nat} {l : List Nat} {r : List (List Nat)} (h : ¬ bare d l = true) (h2 : full d l = true) : clL d (l :: r) = (l.drop d :: (clL d r).1, (clL d r).2) := by
  show (if _ then _ else _) = _
  rw [if_neg h, if_pos h2]
theorem clL_3 {d : Nat} {l : List Nat} {r : List (List Nat)} (h : ¬ bare d l = true) (h2 : ¬ full d l = true) : clL d (l :: r) = ([], l :: r) := by
  show (if _ then _ else _) = _
  rw [if_neg h, if_neg h2]
def rwD (row : List Nat) : Dt := .tup [.str row, .bl true]
abbrev Rs := List (List Nat) × List (List Nat)
abbrev encC (t : List Nat) (d : Nat) (s : Rs) : List (Option Sl) := [some (.d (.str t)), some (.d (.int (posL t s.2 : Nat))), some (.d (.int (d : Nat))), some (.o 0), none, none]
abbrev memC (s : Rs) : List MO := [.lst (s.1.map rwD)]
def endC (d : Nat) (s : Rs) : Rs := (s.1 ++ (clL d s.2).1, (clL d s.2).2)
def wC (t : List Nat) (d : Nat) (s : Rs) : Rs ⊕ Out := if (clL d s.2).2 = [] then .inl (endC d s) else .inr (.nx (encC t d (endC d s)) (memC (endC d s)))
def fC (t : List Nat) (d : Nat) (s : Rs) : Rs ⊕ Out := match s.2 with
  | [] => .inl s
  | l :: r => if bare d l = true then .inl (s.1 ++ [[]], r) else if full d l = true then .inl (s.1 ++ [l.drop d], r) else .inr (.nx (encC t d s) (memC s))
theorem clL_mem (d : Nat) : ∀ ls : List (List Nat), (clL d ls).1.length + (clL d ls).2.length = ls.length ∧ ∃ k, (clL d ls).2 = ls.drop k ∧ k = (clL d ls).1.length
  | [] => ⟨rfl, 0, rfl, rfl⟩
  | l :: r => by
    obtain ⟨h1, k, h2, h3⟩ := clL_mem d r
    by_cases c1 : bare d l = true
    · rw [clL_1 c1]
      exact ⟨by simp only [List.length_cons]; omega, k + 1, h2, by simp only [List.length_cons]; omega⟩
    · by_cases c2 : full d l = true
      · rw [clL_2 c1 c2]
        exact ⟨by simp only [List.length_cons]; omega, k + 1, h2, by simp only [List.length_cons]; omega⟩
      · rw [clL_3 c1 c2]
        exact ⟨by simp, 0, rfl, rfl⟩
theorem wC_eq {t : List Nat} {d : Nat} (s : Rs) : wC t d s = if (!decide (s.2 = [])) = true then (match fC t d s with | .inl a' => wC t d a' | .inr o => .inr o) else .inl s := by
  obtain ⟨rs, ls⟩ := s
  cases ls with
  | nil =>
    show (if ([] : List (List Nat)) = [] then Sum.inl (rs ++ [], []) else _) = _
    rw [if_pos rfl, List.append_nil] <;> rfl
  | cons l r =>
    rw [if_pos (by rw [decide_eq_false (fun z => nomatch z)] <;> rfl)]
    unfold fC
    simp only
    by_cases c1 : bare d l = true
    · rw [if_pos c1]
      unfold wC endC
      simp only [clL_1 c1, List.append_assoc, List.cons_append, List.nil_append]
    · rw [if_neg c1]
      by_cases c2 : full d l = true
      · rw [if_pos c2]
        unfold wC endC
        simp only [clL_2 c1 c2, List.append_assoc, List.cons_append, List.nil_append]
      · rw [if_neg c2]
        unfold wC endC
        simp only [clL_3 c1 c2, List.append_nil]
        rw [if_neg (fun z => nomatch z)]
def trimN (rows : List (List Nat)) : Nat → Nat
  | 0 => 0
  | q + 1 => if rows.getD q [] = [] then trimN rows q else q + 1
theorem trimN_le (rows : List (List Nat)) : ∀ q, trimN rows q ≤ q
  | 0 => Nat.le_refl _
  | q + 1 => by
    have := trimN_le rows q
    unfold trimN
    split <;> omega
section
variable {P : Program} {w : World} {K : PySem.W.Frag} {mg : Str → Option Value} {base : Heap}
def R_cl : List Sl → List MO → Sl → List MO → Prop := fun ss M r M' => ∃ (t : List Nat) (ls : List (List Nat)) (d : Nat), t.length ≤ 100000 ∧ LsP t ls ∧ ss = [.d (.str t), .d (.int (posL t ls : Nat)), .d (.int (d : Nat))] ∧ M = [] ∧ r = .d (.tup [.lst ((clL d ls).1.map rwD), .int (posL t (clL d ls).2 : Nat)]) ∧ M' = []
theorem cal_cl {k : Nat} (D : Df K mg "content_lines" s_content_lines ["text", "line", "deep"]) (f_past_blanks : Cal P w K mg base (k + 1) "past_blanks" (SpR K 2 R_pb) []) (f_line_end : Cal P w K mg base (k + 1) "line_end" (SpR K 2 R_le) []) (f_past_line : Cal P w K mg base (k + 2) "past_line" (SpR K 2 R_pl) []) (f_is_mark : Cal P w K mg base (k + 1) "is_mark" (SpR K 2 R_mk) []) (m_len : mg "len" = none) :
    Cal P w K mg base (k + 3) "content_lines" (SpR K 3 R_cl) [] := by
  refine cal_mk (k := k + 2) D sc_content_lines rfl fun f cdv A outer s H E hr ss M r M' h => ?_
  obtain ⟨t, ls, d, ht, hls, rfl, rfl, rfl, rfl⟩ := h
  refine ⟨_, [.gone], (pss_cons (ps_asg (pe_lst pa_nil) (pg_name (i := 3) sc_content_lines.nd rfl (by first | exact .inl rfl | exact .inr rfl))) (pss_cons (ps_while PassesOwn.never (pt_cmpR op_lt (pv 1) (pe_callB call_len_str (by rfl) m_len PySem.boot_len (pa_cons (pv 0) pa_nil)) (nomark _)) (pss_cons (ps_asg (pe_c f_past_blanks hr (by omega) (by rfl) (pa_cons (pv 0) (pa_cons (pv 1) pa_nil))) (pg_name (i := 4) sc_content_lines.nd rfl (by first | exact .inl rfl | exact .inr rfl))) (pss_cons (ps_asg (pe_c f_line_end hr (by omega) (by rfl) (pa_cons (pv 0) (pa_cons (pv 4) pa_nil))) (pg_name (i := 5) sc_content_lines.nd rfl (by first | exact .inl rfl | exact .inr rfl))) (pss_cons (ps_if (PW.pt (pw_and (pt_cmpR op_eq (pv 4) (pv 5) (nomark _)) (pw_and1 (pt_cmpR op_le (pe_op op_sub (pv 5) (pv 1)) (pv 2) (nomark _))))) (pss_one (ps_expr (pe_bm PySem.F.plainAttrs_list PySem.F.slot_list_append PySem.F.type_list_append mt_append (pv 3) (pa_cons (pe_tup (pa_cons pe_str (pa_cons (pe_cmpR op_lt (pv 5) (pe_callB call_len_str (by rfl) m_len PySem.boot_len (pa_cons (pv 0) pa_nil)) (nomark _)) pa_nil))) pa_nil)))) (pss_one (ps_if (PW.pt (pw_and (pt_cmpR op_ge (pe_op op_sub (pv 4) (pv 1)) (pv 2) (nomark _)) (pw_and1 (pt_not (PW.pt (pw_and (pt_cmpR op_eq (pv 2) pe_int (nomark _)) (pw_and1 (pt_val (pe_c f_is_mark hr (by omega) (by rfl) (pa_cons (pv 0) (pa_cons (pv 1) pa_nil))))))))))) (pss_one (ps_expr (pe_bm PySem.F.plainAttrs_list PySem.F.slot_list_append PySem.F.type_list_append mt_append (pv 3) (pa_cons (pe_tup (pa_cons (pe_slice sl_str (pv 0) (po_some (pe_op op_add (pv 1) (pv 2))) (po_some (pv 5))) (pa_cons (pe_cmpR op_lt (pv 5) (pe_callB call_len_str (by rfl) m_len PySem.boot_len (pa_cons (pv 0) pa_nil)) (nomark _)) pa_nil))) pa_nil)))) (pss_one ps_break)))) (pss_one (ps_asg (pe_c f_past_line hr (by omega) (by rfl) (pa_cons (pv 0) (pa_cons (pv 5) pa_nil))) (pg_name (i := 1) sc_content_lines.nd rfl (by first | exact .inl rfl | exact .inr rfl)))))))) (pss_one (ps_ret (pe_tup (pa_cons (pv 3) (pa_cons (pv 1) pa_nil))))))), ?_, Nat.zero_le _, fun _ h => nomatch h⟩
  refine es_seq (es_asg (ev_lstO (xs := []) ea_nil (Nat.zero_le _))) ?_
  refine es_nG (G' := [_, _, _, _, _, _]) rfl ?_
  refine es_seq (es_whileO (α := Rs) (encC t d) memC (fun s => LsP t s.2 ∧ s.1.length + (J s.2).length ≤ t.length) (fun s => !decide (s.2 = [])) (fC t d) (fun s => s.2.length) (wC t d) ([], ls) (o := .nx (encC t d (clL d ls)) (memC (clL d ls))) (by unfold wC; split <;> rfl) ⟨hls, by have := hls.le; show 0 + (J ls).length ≤ t.length; omega⟩ (fun s _ => (wC_eq s).trans (by cases fC t d s <;> rfl)) (Lg.refl _) rfl (fun s hs => et_is (et_test (ev_op (ev_var (i := 1) rfl) (ev_cb (xs := [.str t]) (ea_cons (ev_var (i := 0) rfl) ea_nil) (rc_lenS (by omega))) ro_lt)) (by
        obtain ⟨m, ls⟩ := s
        cases ls with
        | nil => exact decide_eq_false (by show ¬ ((posL t [] : Nat) : Int) < _; unfold posL; show ¬ ((t.length - 0 : Nat) : Int) < _; omega)
        | cons l r =>
          have h1 : LsP t (l :: r) := hs.1
          have := h1.ln.lt
          exact (decide_eq_true (by show ((posL t (l :: r) : Nat) : Int) < _; omega)).trans (by rw [decide_eq_false (fun z => nomatch z)] <;> rfl))) (fun s hs hc => by
        obtain ⟨rs, ls⟩ := s
        cases ls with
        | nil => exact absurd hc (by simp)
        | cons l r =>
          obtain ⟨hl, hv⟩ := hs
          have hl : LsP t (l :: r) := hl
          have hv : rs.length + (l ++ 10 :: J r).length ≤ t.length := hv
          rw [List.length_append, List.length_cons] at hv
          have hn := hl.ln
          have ht2 := hl.tl
          have hp : posL t (l :: r) ≤ t.length := by have := hn.lt; omega
          have hpb := hn.le
          have hpe : t.drop (posL t (l :: r) + l.length) = [] ++ 10 :: J r := by rw [← List.drop_drop, hn.at_, List.drop_left] <;> rfl
          show Turns K _ _ _ _ _ (fC t d (rs, l :: r)) ∧ ∀ a', fC t d (rs, l :: r) = .inl a' → _
          have fe : fC t d (rs, l :: r) = if bare d l = true then .inl (rs ++ [[]], r) else if full d l = true then .inl (rs ++ [l.drop d], r) else .inr (.nx (encC t d (rs, l :: r)) (memC (rs, l :: r))) := rfl
          rw [fe]
          by_cases c1 : bare d l = true
          · rw [if_pos c1]
            refine ⟨.inl ?_, fun a' e => by cases e; exact ⟨⟨ht2.1, by show (rs ++ [[]]).length + (J r).length ≤ t.length; rw [List.length_append]; show rs.length + 1 + (J r).length ≤ t.length; omega⟩, Nat.lt_succ_self _⟩⟩
            refine es_seq (es_asg (ev_isD (ev_call0 (ds := [.str t, .int (posL t (l :: r) : Nat)]) (es := []) (z := .int ((posL t (l :: r) + pbL (t.drop (posL t (l :: r))) : Nat) : Int)) (ea_cons (ev_var rfl) (ea_cons (ev_var rfl) ea_nil)) ⟨t, _, ht, hp, rfl, rfl, rfl, rfl⟩ rfl (fun _ => rfl)) (show _ = Dt.int (posL t (l :: r) + pbL l : Nat) by rw [hn.at_, pbL_feed]))) ?_
            refine es_nG (G' := [_, _, _, _, _, _]) rfl ?_
            refine es_seq (es_asg (ev_isD (ev_call0 (ds := [.str t, .int (posL t (l :: r) + pbL l : Nat)]) (es := []) (z := .int ((posL t (l :: r) + pbL l + (l.drop (pbL l)).length : Nat) : Int)) (ea_cons (ev_var rfl) (ea_cons (ev_var rfl) ea_nil)) ⟨t, _, J r, _, ht, hn.bl, fun z => hn.no (List.mem_of_mem_drop z), rfl, rfl, rfl, rfl⟩ rfl (fun _ => rfl)) (show _ = Dt.int (posL t (l :: r) + l.length : Nat) by congr 2; rw [List.length_drop]; omega))) ?_
            refine es_nG (G' := [_, _, _, _, _, _]) rfl ?_
            refine es_nxw (es_seq (es_yes (et_and (et_is (et_test (ev_op (ev_var rfl) (ev_var rfl) ro_eqI)) (show decide (((posL t (l :: r) + pbL l : Nat) : Int) = ((posL t (l :: r) + l.length : Nat) : Int)) = decide (pbL l = l.length) from decide_eq_decide.mpr (by omega))) (fun _ => et_is (et_test (ev_op (ev_op (ev_var rfl) (ev_var rfl) ro_sub) (ev_var rfl) ro_le)) (show decide (((posL t (l :: r) + l.length : Nat) : Int) - ((posL t (l :: r) : Nat) : Int) ≤ (d : Nat)) = decide (l.length ≤ d) from decide_eq_decide.mpr (by omega))) (fun _ => rfl)) c1 (es_nxM (es_appO (k := 0) (xs := rs.map rwD) (x := rwD []) (M2 := [.lst (rs.map rwD)]) (ev_var rfl) (ev_isD (ev_tup (xs := [.str [], .bl true]) (ea_cons (ev_str _) (ea_cons (ev_isD (ev_op (ev_var rfl) (ev_cb (xs := [.str t]) (ea_cons (ev_var rfl) ea_nil) (rc_lenS (by omega))) ro_lt) (show Dt.bl (decide (((posL t (l :: r) + l.length : Nat) : Int) < ((t.length : Nat) : Int))) = Dt.bl true by rw [decide_eq_true (by have := hn.lt; omega)])) ea_nil)) (show 2 ≤ 1000 by decide)) rfl) ⟨_, rfl⟩ rfl (by rw [List.length_map]; omega)) (M2 := [.lst ((rs ++ [[]]).map rwD)]) (by rw [List.map_append] <;> rfl))) (es_asg (ev_isD (ev_call0 (ds := [.str t, .int (posL t (l :: r) + l.length : Nat)]) (es := []) (z := .int ((posL t (l :: r) + l.length + ([] : List Nat).length + 1 : Nat) : Int)) (ea_cons (ev_var rfl) (ea_cons (ev_var rfl) ea_nil)) ⟨t, [], J r, _, ht, hpe, (fun z => nomatch z), rfl, rfl, rfl, rfl⟩ rfl (fun _ => rfl)) (show _ = Dt.int (posL t r : Nat) by rw [ht2.2] <;> rfl)))) ?_
            exact lg_cons (lg_cons (lg_cons (lg_cons (lg_cons (lg_cons lg_nil (.inr rfl)) (.inr rfl)) (.inl rfl)) (.inl rfl)) (.inl rfl)) (.inl rfl)
          · rw [if_neg c1]
            by_cases c2 : full d l = true
            · rw [if_pos c2]
              refine ⟨.inl ?_, fun a' e => by cases e; exact ⟨⟨ht2.1, by show (rs ++ [l.drop d]).length + (J r).length ≤ t.length; rw [List.length_append]; show rs.length + 1 + (J r).length ≤ t.length; omega⟩, Nat.lt_succ_self _⟩⟩
              have hd : d ≤ pbL l := by
                unfold full at c2
                exact of_decide_eq_true (Bool.and_eq_true_iff.mp c2).1
              refine es_seq (es_asg (ev_isD (ev_call0 (ds := [.str t, .int (posL t (l :: r) : Nat)]) (es := []) (z := .int ((posL t (l :: r) + pbL (t.drop (posL t (l :: r))) : Nat) : Int)) (ea_cons (ev_var rfl) (ea_cons (ev_var rfl) ea_nil)) ⟨t, _, ht, hp, rfl, rfl, rfl, rfl⟩ rfl (fun _ => rfl)) (show _ = Dt.int (posL t (l :: r) + pbL l : Nat) by rw [hn.at_, pbL_feed]))) ?_
              refine es_nG (G' := [_, _, _, _, _, _]) rfl ?_
              refine es_seq (es_asg (ev_isD (ev_call0 (ds := [.str t, .int (posL t (l :: r) + pbL l : Nat)]) (es := []) (z := .int ((posL t (l :: r) + pbL l + (l.drop (pbL l)).length : Nat) : Int)) (ea_cons (ev_var rfl) (ea_cons (ev_var rfl) ea_nil)) ⟨t, _, J r, _, ht, hn.bl, fun z => hn.no (List.mem_of_mem_drop z), rfl, rfl, rfl, rfl⟩ rfl (fun _ => rfl)) (show _ = Dt.int (posL t (l :: r) + l.length : Nat) by congr 2; rw [List.length_drop]; omega))) ?_
              refine es_nG (G' := [_, _, _, _, _, _]) rfl ?_
              refine es_nxw (es_seq (es_no (et_and (et_is (et_test (ev_op (ev_var rfl) (ev_var rfl) ro_eqI)) (show decide (((posL t (l :: r) + pbL l : Nat) : Int) = ((posL t (l :: r) + l.length : Nat) : Int)) = decide (pbL l = l.length) from decide_eq_decide.mpr (by omega))) (fun _ => et_is (et_test (ev_op (ev_op (ev_var rfl) (ev_var rfl) ro_sub) (ev_var rfl) ro_le)) (show decide (((posL t (l :: r) + l.length : Nat) : Int) - ((posL t (l :: r) : Nat) : Int) ≤ (d : Nat)) = decide (l.length ≤ d) from decide_eq_decide.mpr (by omega))) (fun _ => rfl)) (Bool.eq_false_iff.mpr c1) (es_yes (et_and (et_is (et_test (ev_op (ev_op (ev_var rfl) (ev_var rfl) ro_sub) (ev_var rfl) ro_ge)) (show decide (((d : Nat) : Int) ≤ ((posL t (l :: r) + pbL l : Nat) : Int) - ((posL t (l :: r) : Nat) : Int)) = decide (d ≤ pbL l) from decide_eq_decide.mpr (by omega))) (fun _ => et_not (et_and (et_is (et_test (ev_op (ev_var rfl) ev_int ro_eqI)) (show decide (((d : Nat) : Int) = 0) = decide (d = 0) from decide_eq_decide.mpr (by omega))) (fun _ => et_is (et_B (ev_call0 (ds := [.str t, .int (posL t (l :: r) : Nat)]) (es := []) (z := .bl (markAt (t.drop (posL t (l :: r))))) (ea_cons (ev_var rfl) (ea_cons (ev_var rfl) ea_nil)) ⟨t, _, ht, rfl, rfl, rfl, rfl⟩ rfl (fun _ => rfl))) (by rw [hn.at_, mark_is _ hn.no])) (fun _ => rfl))) (fun _ => rfl)) c2 (es_nxM (es_appO (k := 0) (xs := rs.map rwD) (x := rwD (l.drop d)) (M2 := [.lst (rs.map rwD)]) (ev_var rfl) (ev_isD (ev_tup (xs := [.str (l.drop d), .bl true]) (ea_cons (ev_isD (ev_slS (ev_var rfl) (eo_some (ev_op (ev_var rfl) (ev_var rfl) ro_add)) (eo_some (ev_var rfl)) (by omega)) (show _ = Dt.str (l.drop d) by rw [cut_line hn.at_ (by omega)])) (ea_cons (ev_isD (ev_op (ev_var rfl) (ev_cb (xs := [.str t]) (ea_cons (ev_var rfl) ea_nil) (rc_lenS (by omega))) ro_lt) (show Dt.bl (decide (((posL t (l :: r) + l.length : Nat) : Int) < ((t.length : Nat) : Int))) = Dt.bl true by rw [decide_eq_true (by have := hn.lt; omega)])) ea_nil)) (show 2 ≤ 1000 by decide)) rfl) ⟨_, rfl⟩ rfl (by rw [List.length_map]; omega)) (M2 := [.lst ((rs ++ [l.drop d]).map rwD)]) (by rw [List.map_append] <;> rfl)))) (es_asg (ev_isD (ev_call0 (ds := [.str t, .int (posL t (l :: r) + l.length : Nat)]) (es := []) (z := .int ((posL t (l :: r) + l.length + ([] : List Nat).length + 1 : Nat) : Int)) (ea_cons (ev_var rfl) (ea_cons (ev_var rfl) ea_nil)) ⟨t, [], J r, _, ht, hpe, (fun z => nomatch z), rfl, rfl, rfl, rfl⟩ rfl (fun _ => rfl)) (show _ = Dt.int (posL t r : Nat) by rw [ht2.2] <;> rfl)))) ?_
              exact lg_cons (lg_cons (lg_cons (lg_cons (lg_cons (lg_cons lg_nil (.inr rfl)) (.inr rfl)) (.inl rfl)) (.inl rfl)) (.inl rfl)) (.inl rfl)
            · rw [if_neg c2]
              refine ⟨?_, fun a' e => nomatch e⟩
              show EvS K _ _ _ (.bk _ _)
              refine es_bkw (G1 := [some (.d (.str t)), some (.d (.int (posL t (l :: r) : Nat))), some (.d (.int (d : Nat))), some (.o 0), some (.d (.int (posL t (l :: r) + pbL l : Nat))), some (.d (.int (posL t (l :: r) + l.length : Nat)))]) ?_ (lg_cons (lg_cons (lg_cons (lg_cons (lg_cons (lg_cons lg_nil (.inr rfl)) (.inr rfl)) (.inl rfl)) (.inl rfl)) (.inl rfl)) (.inl rfl))
              refine es_seq (es_asg (ev_isD (ev_call0 (ds := [.str t, .int (posL t (l :: r) : Nat)]) (es := []) (z := .int ((posL t (l :: r) + pbL (t.drop (posL t (l :: r))) : Nat) : Int)) (ea_cons (ev_var rfl) (ea_cons (ev_var rfl) ea_nil)) ⟨t, _, ht, hp, rfl, rfl, rfl, rfl⟩ rfl (fun _ => rfl)) (show _ = Dt.int (posL t (l :: r) + pbL l : Nat) by rw [hn.at_, pbL_feed]))) ?_
              refine es_nG (G' := [_, _, _, _, _, _]) rfl ?_
              refine es_seq (es_asg (ev_isD (ev_call0 (ds := [.str t, .int (posL t (l :: r) + pbL l : Nat)]) (es := []) (z := .int ((posL t (l :: r) + pbL l + (l.drop (pbL l)).length : Nat) : Int)) (ea_cons (ev_var rfl) (ea_cons (ev_var rfl) ea_nil)) ⟨t, _, J r, _, ht, hn.bl, fun z => hn.no (List.mem_of_mem_drop z), rfl, rfl, rfl, rfl⟩ rfl (fun _ => rfl)) (show _ = Dt.int (posL t (l :: r) + l.length : Nat) by congr 2; rw [List.length_drop]; omega))) ?_
              refine es_nG (G' := [_, _, _, _, _, _]) rfl ?_
              exact es_seqB (es_no (et_and (et_is (et_test (ev_op (ev_var rfl) (ev_var rfl) ro_eqI)) (show decide (((posL t (l :: r) + pbL l : Nat) : Int) = ((posL t (l :: r) + l.length : Nat) : Int)) = decide (pbL l = l.length) from decide_eq_decide.mpr (by omega))) (fun _ => et_is (et_test (ev_op (ev_op (ev_var rfl) (ev_var rfl) ro_sub) (ev_var rfl) ro_le)) (show decide (((posL t (l :: r) + l.length : Nat) : Int) - ((posL t (l :: r) : Nat) : Int) ≤ (d : Nat)) = decide (l.length ≤ d) from decide_eq_decide.mpr (by omega))) (fun _ => rfl)) (Bool.eq_false_iff.mpr c1) (es_no (et_and (et_is (et_test (ev_op (ev_op (ev_var rfl) (ev_var rfl) ro_sub) (ev_var rfl) ro_ge)) (show decide (((d : Nat) : Int) ≤ ((posL t (l :: r) + pbL l : Nat) : Int) - ((posL t (l :: r) : Nat) : Int)) = decide (d ≤ pbL l) from decide_eq_decide.mpr (by omega))) (fun _ => et_not (et_and (et_is (et_test (ev_op (ev_var rfl) ev_int ro_eqI)) (show decide (((d : Nat) : Int) = 0) = decide (d = 0) from decide_eq_decide.mpr (by omega))) (fun _ => et_is (et_B (ev_call0 (ds := [.str t, .int (posL t (l :: r) : Nat)]) (es := []) (z := .bl (markAt (t.drop (posL t (l :: r))))) (ea_cons (ev_var rfl) (ea_cons (ev_var rfl) ea_nil)) ⟨t, _, ht, rfl, rfl, rfl, rfl⟩ rfl (fun _ => rfl))) (by rw [hn.at_, mark_is _ hn.no])) (fun _ => rfl))) (fun _ => rfl)) (Bool.eq_false_iff.mpr c2) es_brk)))) ?_
  exact es_ret (ev_tup (xs := [.lst ((clL d ls).1.map rwD), .int (posL t (clL d ls).2 : Nat)]) (ea_cons (ev_freeze (k := 0) (ev_var rfl) rfl) (ea_cons (ev_var rfl) ea_nil)) (show 2 ≤ 1000 by decide))
def R_lc : List Sl → List MO → Sl → List MO → Prop := fun ss M r M' => ∃ rows : List (List Nat), rows.length ≤ 100000 ∧ ss = [.d (.lst (rows.map rwD))] ∧ M = [] ∧ r = .d (.int ((trimN rows rows.length : Nat) - 1 : Int)) ∧ M' = []
theorem cal_lc {k : Nat} (D : Df K mg "last_content" s_last_content ["rows"]) (m_len : mg "len" = none) : Cal P w K mg base (k + 1) "last_content" (SpR K 1 R_lc) [] := by
  refine cal_mk D sc_last_content rfl fun f cdv A outer s H E hr ss M r M' h => ?_
  obtain ⟨rows, hl, rfl, rfl, rfl, rfl⟩ := h
  refine ⟨_, [], (pss_cons (ps_asg (pe_op op_sub (pe_callB call_len_seq (by rfl) m_len PySem.boot_len (pa_cons (pv 0) pa_nil)) pe_int) (pg_name (i := 1) sc_last_content.nd rfl (by first | exact .inl rfl | exact .inr rfl))) (pss_cons (ps_while PassesOwn.never (PW.pt (pw_and (pt_cmpR op_ge (pv 1) pe_int (nomark _)) (pw_and1 (pt_cmpR op_eq (pe_ix ix_seq (pe_ix ix_list (pv 0) (pv 1) (fun _ _ => rfl)) pe_int (fun _ _ => rfl)) pe_str (nomark _))))) (pss_one (ps_aug (i := 1) sc_last_content.nd rfl (.inl rfl) pe_int ip_sub))) (pss_one (ps_ret (pv 1))))), ?_, Nat.le_refl _, fun _ h => nomatch h⟩
  refine es_seq (es_asg (ev_isD (ev_op (ev_cb (xs := [.lst (rows.map rwD)]) (ea_cons (ev_var rfl) ea_nil) rc_lenL) ev_int ro_sub) (show _ = Dt.int ((rows.length : Nat) - 1 : Int) by rw [List.length_map]))) ?_
  refine es_nG (G' := [_, _]) rfl ?_
  refine es_seq (es_while (α := Nat) (fun q => [some (.d (.lst (rows.map rwD))), some (.d (.int ((q : Nat) - 1 : Int)))]) (fun _ => []) (fun q => q ≤ rows.length) (fun q => decide (1 ≤ q) && decide (rows.getD (q - 1) [] = [])) (fun q => .inl (q - 1)) (fun q => q) (fun q => .inl (trimN rows q)) rows.length (Nat.le_refl _) (fun q hq => ?_) (Lg.refl _) rfl (fun q hq => et_and (et_is (et_test (ev_op (ev_var (i := 1) rfl) ev_int ro_ge)) (decide_eq_decide.mpr (by omega))) (fun h => et_test (ev_op (ev_op (ev_op (ev_var (i := 0) rfl) (ev_var (i := 1) rfl) (ro_ixL (x := rwD (rows.getD (q - 1) [])) ?_)) ev_int (ro_ixT' (x := .str (rows.getD (q - 1) [])) rfl)) (ev_str []) ro_eqS)) (fun _ => rfl)) (fun q hq hc => ⟨.inl ?_, fun a' e => ?_⟩)) (es_ret (ev_var rfl))
  · cases q with
    | zero => rfl
    | succ q =>
      rw [show decide (1 ≤ q + 1) = true from decide_eq_true (by omega), Bool.true_and]
      show Sum.inl (if _ then _ else _) = _
      by_cases e : rows.getD q [] = []
      · rw [if_pos e, if_pos (show decide (rows.getD (q + 1 - 1) [] = []) = true from decide_eq_true e)] <;> rfl
      · rw [if_neg e, if_neg (by rw [show rows.getD (q + 1 - 1) [] = rows.getD q [] from rfl, decide_eq_false e]; exact Bool.false_ne_true)]
  · have h1 : 1 ≤ q := of_decide_eq_true h
    have hx : q - 1 < rows.length := by omega
    rw [show ((q : Nat) - 1 : Int) = ((q - 1 : Nat) : Int) by omega, atI_nat (by rw [List.length_map]; exact hx), List.getElem_map]
    rw [List.getD_eq_getElem?_getD, List.getElem?_eq_getElem hx] <;> rfl
  · have h1 : 1 ≤ q := of_decide_eq_true (Bool.and_eq_true_iff.mp hc).1
    refine es_nG (G' := [_, _]) rfl (es_nxw (G1 := [some (.d (.lst (rows.map rwD))), some (.d (.int (((q : Nat) - 1 : Int) - 1)))]) (es_augI (i := 1) (a := (q : Nat) - 1) (b := 1) (f := fun i j => i - j) rfl ev_int) ?_)
    rw [show (((q : Nat) - 1 : Int) - 1) = (((q - 1 : Nat) : Int) - 1) by omega]
    exact Lg.refl _
  · cases e
    have h1 : 1 ≤ q := of_decide_eq_true (Bool.and_eq_true_iff.mp hc).1
    exact ⟨by omega, by omega⟩
end
end T
namespace T
open PySem PySem.Spec PyProof.Rows L2 DJ LJ LamX
/-! ### the program: a block scalar's value -/
abbrev s_body_of : Stmt := topS 25
abbrev N_body_of : List Str := ["rows", "folded", "parts", "feeds", "before", "row", "_"]
theorem sc_body_of : FnScope N_body_of ["rows", "folded"] (defScope s_body_of) := ⟨rfl, rfl, rfl, by decide +kernel, rfl, by decide +kernel, by decide +kernel⟩
abbrev s_value_of : Stmt := topS 26
abbrev N_value_of : List Str := ["rows", "folded", "keeping", "last", "kept", "body", "row", "fed"]
theorem sc_value_of : FnScope N_value_of ["rows", "folded", "keeping"] (defScope s_value_of) := ⟨rfl, rfl, rfl, by decide +kernel, rfl, by decide +kernel, by decide +kernel⟩
theorem et_truB {K : PySem.W.Frag} {te : TE} {G : List (Option Sl)} {M M1 : List MO} {b : Bool} (h : EvE K te G M (.d (.bl b)) M1) : EvT K (fun σ H Q => te σ H fun x H' => ∃ k, TruV K x H' k ∧ Q k H') G M b M1 := fun F B as σ H ow sl Q q =>
  h F B as σ H ow sl _ fun v B1 as1 H1 g p o r => by
    have r : v = .bl b := r
    subst r
    exact ⟨_, rfl, q B1 as1 H1 g p o⟩
def fds (n : Nat) : List Nat := List.replicate n 10
theorem fds_is (n : Nat) : (List.replicate ((n : Nat) : Int).toNat ([10] : List Nat)).flatten = fds n := by
  rw [Int.toNat_natCast]
  unfold fds
  induction n with
  | zero => rfl
  | succ n ih => rw [List.replicate_succ, List.flatten_cons, ih] <;> rfl
theorem fds_len (n : Nat) : (fds n).length = n := List.length_replicate
theorem fds_nil (n : Nat) : fds n = [] ↔ n = 0 := by
  rw [← List.length_eq_zero_iff, fds_len]
def bareL (l : List Nat) : Bool := !decide (l.getD 0 0 ∈ ([32, 9] : List Nat))
def sepL (fo : Bool) (n : Nat) (b row : List Nat) : List Nat := if b = [] then fds n else if (fo && (bareL b && bareL row)) = true then (if fds n = [] then [32] else fds n) else fds (n + 1)
abbrev Bs := List (List Nat) × Nat × List Nat
def stB (fo : Bool) (a : Bs) (row : List Nat) : Bs := if row = [] then (a.1, a.2.1 + 1, a.2.2) else (a.1 ++ [sepL fo a.2.1 a.2.2 row, row], 0, row)
def runB (fo : Bool) (rows : List (List Nat)) : Bs := rows.foldl (stB fo) ([], 0, [])
def bodyL (fo : Bool) (rows : List (List Nat)) : List Nat := (runB fo rows).1.flatten
def lens (xs : List (List Nat)) : Nat := (xs.map List.length).sum
theorem lens_app (xs ys : List (List Nat)) : lens (xs ++ ys) = lens xs + lens ys := by unfold lens; rw [List.map_append, List.sum_append]
theorem sep_len (fo : Bool) (n : Nat) (b row : List Nat) : (sepL fo n b row).length ≤ n + 1 := by
  unfold sepL
  split
  · rw [fds_len]; omega
  · split
    · split
      · show 1 ≤ _; omega
      · rw [fds_len]; omega
    · rw [fds_len]; omega
theorem run_snoc (fo : Bool) (rows : List (List Nat)) (row : List Nat) : runB fo (rows ++ [row]) = stB fo (runB fo rows) row := by
  unfold runB
  rw [List.foldl_append] <;> rfl
theorem stB_size (fo : Bool) (a : Bs) (row : List Nat) : lens (stB fo a row).1 + (stB fo a row).2.1 ≤ lens a.1 + a.2.1 + 1 + row.length ∧ (stB fo a row).1.length ≤ a.1.length + 2 := by
  unfold stB
  split
  · exact ⟨by show lens a.1 + (a.2.1 + 1) ≤ _; omega, Nat.le_add_right _ _⟩
  · have := sep_len fo a.2.1 a.2.2 row
    refine ⟨?_, by rw [List.length_append] <;> exact Nat.le_refl _⟩
    show lens (a.1 ++ [_, row]) + 0 ≤ _
    rw [lens_app]
    show lens a.1 + ((sepL fo a.2.1 a.2.2 row).length + (row.length + 0)) + 0 ≤ _
    omega
theorem run_size (fo : Bool) (rows : List (List Nat)) : ∀ i, i ≤ rows.length → lens (runB fo (rows.take i)).1 + (runB fo (rows.take i)).2.1 ≤ i + lens (rows.take i) ∧ (runB fo (rows.take i)).1.length ≤ 2 * i
  | 0, _ => ⟨Nat.le_refl _, Nat.le_refl _⟩
  | i + 1, h => by
    obtain ⟨h1, h2⟩ := run_size fo rows i (by omega)
    have hi : i < rows.length := by omega
    rw [List.take_succ, List.getElem?_eq_getElem hi]
    show lens (runB fo (rows.take i ++ [rows[i]])).1 + (runB fo (rows.take i ++ [rows[i]])).2.1 ≤ i + 1 + lens (rows.take i ++ [rows[i]]) ∧ (runB fo (rows.take i ++ [rows[i]])).1.length ≤ 2 * (i + 1)
    rw [run_snoc, lens_app]
    obtain ⟨h3, h4⟩ := stB_size fo (runB fo (rows.take i)) rows[i]
    have : lens [rows[i]] = rows[i].length := Nat.add_zero _
    rw [this]
    omega
theorem row_le : ∀ {rows : List (List Nat)} {x : List Nat}, x ∈ rows → x.length ≤ lens rows
  | y :: r, x, h => by
    have e : lens (y :: r) = y.length + lens r := by unfold lens; rw [List.map_cons, List.sum_cons]
    rcases List.mem_cons.mp h with rfl | h
    · omega
    · have := row_le h; omega
theorem run_b (fo : Bool) (rows : List (List Nat)) : ∀ i, i ≤ rows.length → (runB fo (rows.take i)).2.2.length ≤ lens rows
  | 0, _ => Nat.zero_le _
  | i + 1, h => by
    have h1 := run_b fo rows i (by omega)
    have hi : i < rows.length := by omega
    rw [List.take_succ, List.getElem?_eq_getElem hi]
    show (runB fo (rows.take i ++ [rows[i]])).2.2.length ≤ _
    rw [run_snoc]
    unfold stB
    split
    · exact h1
    · exact row_le (List.getElem_mem hi)
theorem lens_take (rows : List (List Nat)) (i : Nat) : lens (rows.take i) ≤ lens rows := by
  have := lens_app (rows.take i) (rows.drop i)
  rw [List.take_append_drop] at this
  omega
def keptL (rows : List (List Nat)) : List Nat := fds (rows.length - trimN rows rows.length)
def valL (rows : List (List Nat)) (fo : Bool) (kp : List Nat) : List Nat :=
  if trimN rows rows.length = 0 then (if kp = [43] then keptL rows else [])
  else if kp = [45] then bodyL fo (rows.take (trimN rows rows.length)) else (bodyL fo (rows.take (trimN rows rows.length)) ++ [10]) ++ (if kp = [43] then keptL rows else [])
theorem cut_to {α : Type} (l : List α) (k : Nat) : cutL l none (some (((k : Nat) : Int) - 1 + 1)) = l.take k := by
  rw [show ((k : Nat) : Int) - 1 + 1 = ((k : Nat) : Int) by omega, cutL_to]
theorem cut_from {α : Type} (l : List α) (k : Nat) : cutL l (some (((k : Nat) : Int) - 1 + 1)) none = l.drop k := by
  rw [show ((k : Nat) : Int) - 1 + 1 = ((k : Nat) : Int) by omega, cutL_from]
theorem filt_all {α : Type} : ∀ xs : List α, xs.filter (fun _ => true) = xs
  | [] => rfl
  | x :: xs => by rw [List.filter_cons_of_pos rfl, filt_all xs]
theorem body_len (fo : Bool) (rows : List (List Nat)) : (bodyL fo rows).length ≤ rows.length + lens rows := by
  have := (run_size fo rows rows.length (Nat.le_refl _)).1
  rw [List.take_length] at this
  unfold bodyL
  rw [List.length_flatten]
  show lens _ ≤ _
  omega
section
variable {P : Program} {w : World} {K : PySem.W.Frag} {mg : Str → Option Value} {base : Heap}
def RowsOk (rows : List (List Nat)) : Prop := rows.length + lens rows ≤ 100000
def R_body : List Sl → List MO → Sl → List MO → Prop := fun ss M r M' => ∃ (rows : List (List Nat)) (fo : Bool), RowsOk rows ∧ ss = [.d (.lst (rows.map rwD)), .d (.bl fo)] ∧ M = [] ∧ r = .d (.str (bodyL fo rows)) ∧ M' = []
abbrev encB (rows : List (List Nat)) (fo : Bool) (a : Bs) : List (Option Sl) := [some (.d (.lst (rows.map rwD))), some (.d (.bl fo)), some (.o 0), some (.d (.int (a.2.1 : Nat))), some (.d (.str a.2.2)), none, none]
theorem cal_body {k : Nat} (D : Df K mg "body_of" s_body_of ["rows", "folded"]) (c_FEED : Gc K mg "FEED" (.str [10])) : Cal P w K mg base (k + 1) "body_of" (SpR K 2 R_body) [] := by
  obtain ⟨v_FEED, u_FEED, hm_FEED, hr_FEED, hd_FEED⟩ := c_FEED.ex
  refine cal_mk D sc_body_of rfl fun f cdv A outer s H E hr ss M r M' h => ?_
  obtain ⟨rows, fo, hok, rfl, rfl, rfl, rfl⟩ := h
  have hok : rows.length + lens rows ≤ 100000 := hok
  refine ⟨_, [.gone], (pss_cons (ps_asg (pe_lst pa_nil) (pg_name (i := 2) sc_body_of.nd rfl (by first | exact .inl rfl | exact .inr rfl))) (pss_cons (ps_asg pe_int (pg_name (i := 3) sc_body_of.nd rfl (by first | exact .inl rfl | exact .inr rfl))) (pss_cons (ps_asg pe_str (pg_name (i := 4) sc_body_of.nd rfl (by first | exact .inl rfl | exact .inr rfl))) (pss_cons (ps_for PassesOwn.never rfl (pi_list (pv 0)) (pg_tup rfl (pgs_cons (pg_name (i := 5) sc_body_of.nd rfl (by first | exact .inl rfl | exact .inr rfl)) (pgs_cons (pg_name (i := 6) sc_body_of.nd rfl (by first | exact .inl rfl | exact .inr rfl)) pgs_nil))) (pss_cons (ps_if (pt_cmpR op_eq (pv 5) pe_str (nomark _)) (pss_cons (ps_aug (i := 3) sc_body_of.nd rfl (.inl rfl) pe_int ip_add) (pss_one ps_continue)) pss_nil) (pss_cons (ps_if (pt_cmpR op_eq (pv 4) pe_str (nomark _)) (pss_one (ps_expr (pe_bm PySem.F.plainAttrs_list PySem.F.slot_list_append PySem.F.type_list_append mt_append (pv 2) (pa_cons (pe_op op_repN (pe_glob (by rfl) hm_FEED hr_FEED) (pv 3)) pa_nil)))) (pss_one (ps_if (PW.pt (pw_and (pt_val (pv 1)) (pw_and (pt_cmpR op_notIn_str (pe_ix ix_str (pv 4) pe_int (fun _ _ => rfl)) pe_str (by rfl)) (pw_and1 (pt_cmpR op_notIn_str (pe_ix ix_str (pv 5) pe_int (fun _ _ => rfl)) pe_str (by rfl)))))) (pss_one (ps_expr (pe_bm PySem.F.plainAttrs_list PySem.F.slot_list_append PySem.F.type_list_append mt_append (pv 2) (pa_cons (pe_orT (pe_op op_repN (pe_glob (by rfl) hm_FEED hr_FEED) (pv 3)) (pe_one pe_str)) pa_nil)))) (pss_one (ps_expr (pe_bm PySem.F.plainAttrs_list PySem.F.slot_list_append PySem.F.type_list_append mt_append (pv 2) (pa_cons (pe_op op_repN (pe_glob (by rfl) hm_FEED hr_FEED) (pe_op op_add (pv 3) pe_int)) pa_nil))))))) (pss_cons (ps_expr (pe_bm PySem.F.plainAttrs_list PySem.F.slot_list_append PySem.F.type_list_append mt_append (pv 2) (pa_cons (pv 5) pa_nil))) (pss_cons (ps_asg (pv 5) (pg_name (i := 4) sc_body_of.nd rfl (by first | exact .inl rfl | exact .inr rfl))) (pss_one (ps_asg pe_int (pg_name (i := 3) sc_body_of.nd rfl (by first | exact .inl rfl | exact .inr rfl))))))))) (pss_one (ps_ret (pe_m1 PySem.F.slot_str_join PySem.F.type_str_join mt_join pe_str (pv 2)))))))), ?_, Nat.zero_le _, fun _ h => nomatch h⟩
  refine es_seq (es_asg (ev_lstO (xs := []) ea_nil (Nat.zero_le _))) ?_
  refine es_nG (G' := [_, _, _, _, _, _, _]) rfl ?_
  refine es_seq (es_asg ev_int) ?_
  refine es_nG (G' := [_, _, _, _, _, _, _]) rfl ?_
  refine es_seq (es_asg (ev_str [])) ?_
  refine es_nG (G' := [_, _, _, _, _, _, _]) rfl ?_
  refine es_seq (es_forN rows rwD (fun i => encB rows fo (runB fo (rows.take i))) (fun i => [.lst ((runB fo (rows.take i)).1.map .str)]) (ei_list (ev_var rfl)) (Lg.refl _) fun i row hx => ?_) ?_
  · have hi : i < rows.length := (List.getElem?_eq_some_iff.mp hx).1
    obtain ⟨s1, s2⟩ := run_size fo rows i (by omega)
    have s3 := lens_take rows i
    have s4 := run_b fo rows i (by omega)
    have e1 : runB fo (rows.take (i + 1)) = stB fo (runB fo (rows.take i)) row := by
      rw [List.take_succ, hx]
      exact run_snoc fo _ _
    have hrl : row.length ≤ 100000 := by
      have h2 := lens_app (rows.take i) (rows.drop i)
      rw [List.take_append_drop, List.drop_eq_getElem_cons hi] at h2
      have h3 : rows[i] = row := by
        rw [List.getElem?_eq_getElem hi] at hx
        exact Option.some.inj hx
      rw [h3] at h2
      have h4 : lens (row :: rows.drop (i + 1)) = row.length + lens (rows.drop (i + 1)) := by unfold lens; rw [List.map_cons, List.sum_cons]
      omega
    rw [e1]
    generalize runB fo (rows.take i) = a at *
    obtain ⟨ps, n, b⟩ := a
    simp only at s1 s2 s4
    refine ⟨_, eg_tup (egs_cons eg_name (egs_cons eg_name egs_nil)) rfl, ?_⟩
    have t0 : EvT K _ ((((encB rows fo (ps, n, b)).set 5 (some (.d (.str row)))).set 6 (some (.d (.bl true))))) [.lst (ps.map .str)] (decide (row = [])) [.lst (ps.map .str)] := et_test (ev_op (ev_var (i := 5) rfl) (ev_str []) ro_eqS)
    by_cases c0 : row = []
    · refine .inr ?_
      have e2 : stB fo (ps, n, b) row = (ps, n + 1, b) := if_pos c0
      rw [e2]
      refine es_ctw (G1 := [some (.d (.lst (rows.map rwD))), some (.d (.bl fo)), some (.o 0), some (.d (.int ((n : Nat) + 1 : Int))), some (.d (.str b)), some (.d (.str row)), some (.d (.bl true))]) ?_ (lg_cons (lg_cons (lg_cons (lg_cons (lg_cons (lg_cons (lg_cons lg_nil (.inr rfl)) (.inr rfl)) (.inl rfl)) (.inl rfl)) (.inl rfl)) (.inl rfl)) (.inl rfl))
      refine es_seqC (es_yes t0 (decide_eq_true c0) (es_seq (es_augI (i := 3) (a := (n : Nat)) (b := 1) (f := fun i j => i + j) rfl ev_int) ?_))
      exact es_nG (G' := [_, _, _, _, _, _, _]) rfl es_cont
    · refine .inl ?_
      have e2 : stB fo (ps, n, b) row = (ps ++ [sepL fo n b row, row], 0, row) := if_neg c0
      rw [e2]
      refine es_nxw (G1 := [some (.d (.lst (rows.map rwD))), some (.d (.bl fo)), some (.o 0), some (.d (.int 0)), some (.d (.str row)), some (.d (.str row)), some (.d (.bl true))]) ?_ (lg_cons (lg_cons (lg_cons (lg_cons (lg_cons (lg_cons (lg_cons lg_nil (.inr rfl)) (.inr rfl)) (.inl rfl)) (.inl rfl)) (.inl rfl)) (.inl rfl)) (.inl rfl))
      refine es_pass (et_is t0 (decide_eq_false c0)) ?_
      refine es_nG (G' := [_, _, _, _, _, _, _]) rfl ?_
      have hz : ps.length < 500000 := by omega
      have app : ∀ {x : List Nat} {te : TE} {to : TE}, EvE K to [some (.d (.lst (rows.map rwD))), some (.d (.bl fo)), some (.o 0), some (.d (.int (n : Nat))), some (.d (.str b)), some (.d (.str row)), some (.d (.bl true))] [.lst (ps.map .str)] (.o 0) [.lst (ps.map .str)] → EvE K te [some (.d (.lst (rows.map rwD))), some (.d (.bl fo)), some (.o 0), some (.d (.int (n : Nat))), some (.d (.str b)), some (.d (.str row)), some (.d (.bl true))] [.lst (ps.map .str)] (.d (.str x)) [.lst (ps.map .str)] → EvS K (tDrop (tBM K "list" rAppend to (tCons te tNil))) [some (.d (.lst (rows.map rwD))), some (.d (.bl fo)), some (.o 0), some (.d (.int (n : Nat))), some (.d (.str b)), some (.d (.str row)), some (.d (.bl true))] [.lst (ps.map .str)] (.nx [some (.d (.lst (rows.map rwD))), some (.d (.bl fo)), some (.o 0), some (.d (.int (n : Nat))), some (.d (.str b)), some (.d (.str row)), some (.d (.bl true))] [.lst ((ps ++ [x]).map .str)]) := fun h1 h2 => es_nxM (es_appO (k := 0) (xs := ps.map .str) h1 h2 ⟨_, rfl⟩ rfl (by rw [List.length_map]; omega)) (by rw [List.map_append] <;> rfl)
      refine es_seq (G1 := [some (.d (.lst (rows.map rwD))), some (.d (.bl fo)), some (.o 0), some (.d (.int (n : Nat))), some (.d (.str b)), some (.d (.str row)), some (.d (.bl true))]) (M1 := [.lst ((ps ++ [sepL fo n b row]).map .str)]) ?_ ?_
      · have rp : ∀ (m : Nat), m ≤ 100001 → ∀ {te tf : TE}, EvE K te [some (.d (.lst (rows.map rwD))), some (.d (.bl fo)), some (.o 0), some (.d (.int (n : Nat))), some (.d (.str b)), some (.d (.str row)), some (.d (.bl true))] [.lst (ps.map .str)] (.d (.str [10])) [.lst (ps.map .str)] → EvE K tf [some (.d (.lst (rows.map rwD))), some (.d (.bl fo)), some (.o 0), some (.d (.int (n : Nat))), some (.d (.str b)), some (.d (.str row)), some (.d (.bl true))] [.lst (ps.map .str)] (.d (.int (m : Nat))) [.lst (ps.map .str)] → m ≤ 100000 → EvE K (tOp rRepN te tf) [some (.d (.lst (rows.map rwD))), some (.d (.bl fo)), some (.o 0), some (.d (.int (n : Nat))), some (.d (.str b)), some (.d (.str row)), some (.d (.bl true))] [.lst (ps.map .str)] (.d (.str (fds m))) [.lst (ps.map .str)] := fun m _ _ _ h1 h2 hm => ev_isD (ev_op h1 h2 (ro_repN (by omega) (by omega) (by rw [Int.toNat_natCast]; show 1 * m ≤ _; omega))) (by rw [fds_is])
        have hb0 : ¬ b = [] → atI b 0 = some (b.getD 0 0) := fun h => by
          cases b with
          | nil => exact absurd rfl h
          | cons c r =>
            show atI (c :: r) ((0 : Nat) : Int) = some c
            rw [atI_nat (Nat.succ_pos _)] <;> rfl
        have hr0 : atI row 0 = some (row.getD 0 0) := by
          cases row with
          | nil => exact absurd rfl c0
          | cons c r =>
            show atI (c :: r) ((0 : Nat) : Int) = some c
            rw [atI_nat (Nat.succ_pos _)] <;> rfl
        unfold sepL
        by_cases c1 : b = []
        · rw [if_pos c1]
          exact es_yes (et_test (ev_op (ev_var rfl) (ev_str []) ro_eqS)) (decide_eq_true c1) (app (ev_var rfl) (rp n (by omega) (ev_c hd_FEED) (ev_var rfl) (by omega)))
        · rw [if_neg c1]
          refine es_no (et_test (ev_op (ev_var rfl) (ev_str []) ro_eqS)) (decide_eq_false c1) ?_
          have t2 : EvT K _ [some (.d (.lst (rows.map rwD))), some (.d (.bl fo)), some (.o 0), some (.d (.int (n : Nat))), some (.d (.str b)), some (.d (.str row)), some (.d (.bl true))] [.lst (ps.map .str)] (fo && (bareL b && bareL row)) [.lst (ps.map .str)] := et_and (et_B (ev_var (i := 1) rfl)) (fun _ => et_and (et_is (et_test (ev_op (ev_op (ev_var (i := 4) rfl) ev_int (ro_ixS (c := b.getD 0 0) (by omega) (hb0 c1))) (ev_str [32, 9]) ro_ninS)) (by unfold bareL; rw [sub_one])) (fun _ => et_is (et_test (ev_op (ev_op (ev_var (i := 5) rfl) ev_int (ro_ixS (c := row.getD 0 0) (by omega) hr0)) (ev_str [32, 9]) ro_ninS)) (by unfold bareL; rw [sub_one])) (fun _ => rfl)) (fun _ => rfl)
          by_cases c2 : (fo && (bareL b && bareL row)) = true
          · rw [if_pos c2]
            exact es_yes t2 c2 (app (ev_var rfl) (ev_orS (rp n (by omega) (ev_c hd_FEED) (ev_var rfl) (by omega)) (by rw [fds_len]; omega) (fun _ => ev_str [32])))
          · rw [if_neg c2]
            exact es_no t2 (Bool.eq_false_iff.mpr c2) (app (ev_var rfl) (rp (n + 1) (by omega) (ev_c hd_FEED) (ev_op (ev_var rfl) ev_int ro_add) (by omega)))
      · refine es_seq (es_nxM (es_appO (k := 0) (xs := (ps ++ [sepL fo n b row]).map .str) (x := .str row) (ev_var rfl) (ev_var rfl) ⟨_, rfl⟩ rfl (by rw [List.length_map, List.length_append]; show ps.length + 1 < _; omega)) (M2 := [.lst ((ps ++ [sepL fo n b row, row]).map .str)]) (by rw [List.map_append, List.map_append, List.append_assoc] <;> rfl)) ?_
        refine es_seq (es_asg (ev_var rfl)) ?_
        refine es_nG (G' := [_, _, _, _, _, _, _]) rfl ?_
        exact es_nxw (es_asg ev_int) (Lg.refl _)
  · obtain ⟨s1, s2⟩ := run_size fo rows rows.length (Nat.le_refl _)
    rw [List.take_length] at s1 s2
    simp only [List.take_length]
    exact es_ret (ev_isD (ev_m1 (ev_str []) (ev_freeze (k := 0) (ev_var rfl) rfl) (rm_join (xs := (runB fo rows).1) (by show lens _ + _ * 0 ≤ _; omega))) (by rw [joinL_nil] <;> rfl))
def R_val : List Sl → List MO → Sl → List MO → Prop := fun ss M r M' => ∃ (rows : List (List Nat)) (fo : Bool) (kp : List Nat), RowsOk rows ∧ ss = [.d (.lst (rows.map rwD)), .d (.bl fo), .d (.str kp)] ∧ M = [] ∧ r = .d (.str (valL rows fo kp)) ∧ M' = []
theorem cal_val {k : Nat} (D : Df K mg "value_of" s_value_of ["rows", "folded", "keeping"]) (c_FEED : Gc K mg "FEED" (.str [10])) (f_last_content : Cal P w K mg base (k + 1) "last_content" (SpR K 1 R_lc) []) (f_body_of : Cal P w K mg base (k + 1) "body_of" (SpR K 2 R_body) []) (m_len : mg "len" = none) : Cal P w K mg base (k + 2) "value_of" (SpR K 3 R_val) [] := by
  obtain ⟨v_FEED, u_FEED, hm_FEED, hr_FEED, hd_FEED⟩ := c_FEED.ex
  refine cal_mk D sc_value_of rfl fun f cdv A outer s H E hr ss M r M' h => ?_
  obtain ⟨rows, fo, kp, hok, rfl, rfl, rfl, rfl⟩ := h
  have hok : rows.length + lens rows ≤ 100000 := hok
  refine ⟨_, [], (pss_cons (ps_asg (pe_c f_last_content hr (by omega) (by rfl) (pa_cons (pv 0) pa_nil)) (pg_name (i := 3) sc_value_of.nd rfl (by first | exact .inl rfl | exact .inr rfl))) (pss_cons (ps_asg (pe_op op_repN (pe_glob (by rfl) hm_FEED hr_FEED) (pe_callB call_len_seq (by rfl) m_len PySem.boot_len (pa_cons (pe_lc (own := [("row", 6), ("fed", 7)]) (g := (gTup _ 2 (gCons (gName 6) (gCons (gName 7) gNil)))) (by rfl) sc_value_of.nd (pi_list (pe_slice sl_list (pv 0) (po_some (pe_op op_add (pv 3) pe_int)) po_none)) (blkOk_by (own := [("row", 6), ("fed", 7)]) (N := N_value_of) (sc := defScope s_value_of) (by decide +kernel)) (fun _ _ _ _ _ => (pg_tup rfl (pgs_cons (pg_name (i := 6) sc_value_of.nd rfl (by first | exact .inl rfl | exact .inr rfl)) (pgs_cons (pg_name (i := 7) sc_value_of.nd rfl (by first | exact .inl rfl | exact .inr rfl)) pgs_nil)))) (fun _ _ _ _ _ => pts_one (pt_val (pv 7))) (fun _ _ _ _ _ => (pv 6))) pa_nil))) (pg_name (i := 4) sc_value_of.nd rfl (by first | exact .inl rfl | exact .inr rfl))) (pss_cons (ps_if (pt_cmpR op_lt (pv 3) pe_int (nomark _)) (pss_one (ps_ret (pe_ifExp (pt_cmpR op_eq (pv 2) pe_str (nomark _)) (pv 4) pe_str))) pss_nil) (pss_cons (ps_asg (pe_c f_body_of hr (by omega) (by rfl) (pa_cons (pe_slice sl_list (pv 0) po_none (po_some (pe_op op_add (pv 3) pe_int))) (pa_cons (pv 1) pa_nil))) (pg_name (i := 5) sc_value_of.nd rfl (by first | exact .inl rfl | exact .inr rfl))) (pss_cons (ps_if (PW.pt (pw_or (pt_cmpR op_eq (pv 2) pe_str (nomark _)) (pw_or1 (pt_not (pt_truth (pe_ix ix_seq (pe_ix ix_list (pv 0) (pv 3) (fun _ _ => rfl)) pe_int (fun _ _ => rfl)) (by intro _; rfl)))))) (pss_one (ps_ret (pv 5))) pss_nil) (pss_one (ps_ret (pe_op op_add_str (pe_op op_add_str (pv 5) (pe_glob (by rfl) hm_FEED hr_FEED)) (pe_ifExp (pt_cmpR op_eq (pv 2) pe_str (nomark _)) (pv 4) pe_str))))))))), ?_, Nat.le_refl _, fun _ h => nomatch h⟩
  have hk := trimN_le rows rows.length
  refine es_seq (es_asg (ev_call0 (ds := [.lst (rows.map rwD)]) (es := []) (z := .int ((trimN rows rows.length : Nat) - 1 : Int)) (ea_cons (ev_var rfl) ea_nil) ⟨rows, by omega, rfl, rfl, rfl, rfl⟩ rfl (fun _ => rfl))) ?_
  refine es_nG (G' := [_, _, _, _, _, _, _, _]) rfl ?_
  refine es_seq (es_asg (ev_isD (ev_op (ev_c hd_FEED) (ev_isD (ev_cb (xs := [.lst (((rows.drop (trimN rows rows.length)).filter (fun _ => true)).map Dt.str)]) (ea_cons (ev_lcF (rows.drop (trimN rows rows.length)) rwD Dt.str (fun _ => true) (ei_list (ev_isD (ev_wk (ev_slL (ev_var rfl) (eo_some (ev_op (ev_var rfl) ev_int ro_add)) eo_none) lstX_lst) (by rw [cut_from, List.map_drop]))) (by rw [List.length_drop]; omega) (hw_tup2 (by decide) (by decide)) fun row hx => ⟨_, eg_tup (egs_cons eg_name (egs_cons eg_name egs_nil)) rfl, et_B (ev_var rfl), fun _ => ev_var rfl⟩) ea_nil) rc_lenL) (show _ = Dt.int (rows.length - trimN rows rows.length : Nat) by rw [filt_all, List.length_map, List.length_drop])) (ro_repN (by omega) (by omega) (by rw [Int.toNat_natCast]; show 1 * _ ≤ _; omega))) (show _ = Dt.str (keptL rows) by rw [fds_is] <;> rfl))) ?_
  refine es_nG (G' := [_, _, _, _, _, _, _, _]) rfl ?_
  have t1 : EvT K _ [some (.d (.lst (rows.map rwD))), some (.d (.bl fo)), some (.d (.str kp)), some (.d (.int ((trimN rows rows.length : Nat) - 1 : Int))), some (.d (.str (keptL rows))), none, none, none] [] (decide (trimN rows rows.length = 0)) [] := et_is (et_test (ev_op (ev_var (i := 3) rfl) ev_int ro_lt)) (show decide (((trimN rows rows.length : Nat) - 1 : Int) < 0) = decide (trimN rows rows.length = 0) from decide_eq_decide.mpr (by omega))
  unfold valL
  by_cases c1 : trimN rows rows.length = 0
  · rw [if_pos c1]
    exact es_seqR (es_yes t1 (decide_eq_true c1) (es_ret (ev_isD (ev_iteS (et_test (ev_op (ev_var rfl) (ev_str [43]) ro_eqS)) (fun _ => ev_var rfl) (fun _ => ev_str [])) (by by_cases z : kp = [43] <;> simp [z]))))
  · rw [if_neg c1]
    refine es_pass (et_is t1 (decide_eq_false c1)) ?_
    have hlt := lens_take rows (trimN rows rows.length)
    have hl2 : (rows.take (trimN rows rows.length)).length ≤ rows.length := by rw [List.length_take]; omega
    have hbl := body_len fo (rows.take (trimN rows rows.length))
    refine es_seq (es_asg (ev_call0 (ds := [.lst ((rows.take (trimN rows rows.length)).map rwD), .bl fo]) (es := []) (z := .str (bodyL fo (rows.take (trimN rows rows.length)))) (ea_cons (ev_isD (ev_wk (ev_slL (ev_var rfl) eo_none (eo_some (ev_op (ev_var rfl) ev_int ro_add))) lstX_lst) (by rw [cut_to, List.map_take])) (ea_cons (ev_var rfl) ea_nil)) ⟨_, fo, show (rows.take (trimN rows rows.length)).length + lens (rows.take (trimN rows rows.length)) ≤ 100000 by omega, rfl, rfl, rfl, rfl⟩ rfl (fun _ => rfl))) ?_
    refine es_nG (G' := [_, _, _, _, _, _, _, _]) rfl ?_
    have hx : trimN rows rows.length - 1 < rows.length := by omega
    have hat : atI (rows.map rwD) ((trimN rows rows.length : Nat) - 1 : Int) = some (rwD (rows.getD (trimN rows rows.length - 1) [])) := by
      rw [show ((trimN rows rows.length : Nat) - 1 : Int) = ((trimN rows rows.length - 1 : Nat) : Int) by omega, atI_nat (by rw [List.length_map]; exact hx), List.getElem_map]
      rw [List.getD_eq_getElem?_getD, List.getElem?_eq_getElem hx] <;> rfl
    have t2 : EvT K _ [some (.d (.lst (rows.map rwD))), some (.d (.bl fo)), some (.d (.str kp)), some (.d (.int ((trimN rows rows.length : Nat) - 1 : Int))), some (.d (.str (keptL rows))), some (.d (.str (bodyL fo (rows.take (trimN rows rows.length))))), none, none] [] (decide (kp = [45]) || !true) [] := et_or (et_test (ev_op (ev_var (i := 2) rfl) (ev_str [45]) ro_eqS)) (fun _ => et_not (et_truB (ev_op (ev_op (ev_var (i := 0) rfl) (ev_var (i := 3) rfl) (ro_ixL hat)) ev_int (ro_ixT' (i := 1) (x := .bl true) rfl)))) (fun _ => rfl)
    by_cases c2 : kp = [45]
    · rw [if_pos c2]
      exact es_seqR (es_yes t2 (by rw [decide_eq_true c2] <;> rfl) (es_ret (ev_var rfl)))
    · rw [if_neg c2]
      refine es_pass (et_is t2 (by rw [decide_eq_false c2] <;> rfl)) ?_
      have hkl : (keptL rows).length ≤ 100000 := by unfold keptL; rw [fds_len]; omega
      exact es_ret (ev_isD (ev_op (ev_op (ev_var rfl) (ev_c hd_FEED) (ro_addS (by show _ + 1 ≤ _; omega))) (ev_iteS (et_test (ev_op (ev_var rfl) (ev_str [43]) ro_eqS)) (fun _ => ev_var rfl) (fun _ => ev_str [])) (ro_addS (by rw [List.length_append]; show _ + 1 + _ ≤ _; split <;> first | omega | (show _ + 1 + 0 ≤ _; omega)))) (by by_cases z : kp = [43] <;> simp [z]))
end
end T
namespace T
open PySem PySem.Spec PyProof.Rows L2 DJ LJ LamX
/-! ### the program: a block scalar -/
abbrev s_read_block_scalar : Stmt := topS 27
abbrev N_read_block_scalar : List Str := ["text", "place", "above", "header", "deep", "end", "line", "last", "rows", "after", "row", "_", "stop"]
theorem sc_read_block_scalar : FnScope N_read_block_scalar ["text", "place", "above"] (defScope s_read_block_scalar) := ⟨rfl, rfl, rfl, by decide +kernel, rfl, by decide +kernel, by decide +kernel⟩
abbrev s_block_value : Stmt := topS 71
abbrev N_block_value : List Str := ["whole", "above", "found"]
theorem sc_block_value : FnScope N_block_value ["whole", "above"] (defScope s_block_value) := ⟨rfl, rfl, rfl, by decide +kernel, rfl, by decide +kernel, by decide +kernel⟩
theorem clL_size (d : Nat) : ∀ ls : List (List Nat), (clL d ls).1.length + lens (clL d ls).1 ≤ (J ls).length
  | [] => Nat.le_refl _
  | l :: r => by
    have h := clL_size d r
    have hJ : (J (l :: r)).length = l.length + ((J r).length + 1) := by show (l ++ 10 :: J r).length = _; rw [List.length_append, List.length_cons]
    by_cases c1 : bare d l = true
    · rw [clL_1 c1]
      show (clL d r).1.length + 1 + (0 + lens (clL d r).1) ≤ _
      omega
    · by_cases c2 : full d l = true
      · rw [clL_2 c1 c2]
        show (clL d r).1.length + 1 + ((l.drop d).length + lens (clL d r).1) ≤ _
        rw [List.length_drop]
        omega
      · rw [clL_3 c1 c2]
        exact Nat.zero_le _
theorem LsP.drop {t : List Nat} : ∀ {ls : List (List Nat)} (i : Nat), LsP t ls → LsP t (ls.drop i)
  | ls, 0, h => h
  | [], i + 1, h => h
  | l :: r, i + 1, h => LsP.drop (ls := r) i h.tl.1
def enF (t : List Nat) (ls rows : List (List Nat)) (e : Nat) : Nat → Nat
  | 0 => e
  | i + 1 => if rows.getD i [] = [] then enF t ls rows e i else posL t (ls.drop i) + (ls.getD i []).length
def depD (n a : Nat) (h : List Nat) (ls : List (List Nat)) : Nat ⊕ Nat := if (hdU h).1 = 0 then fiR n a a ls else .inl (a + (hdU h).1 - 1)
def rbS (st h : List Nat) (ls : List (List Nat)) (d : Nat) : List Nat := valL (clL d ls).1 (decide (st = FLD)) (hdU h).2.1
abbrev kTk2 : Str := "takes"
theorem h5_dg (st kp : List Nat) (dg en ln : Nat) : List.lookup kDg (hd5 st dg kp en ln) = some (.int (dg : Nat)) := by
  show List.lookup kDg ((kSt, _) :: (kDg, _) :: _) = _
  rw [lk_go (by decide), lk_hit]
theorem h5_st (st kp : List Nat) (dg en ln : Nat) : List.lookup kSt (hd5 st dg kp en ln) = some (.str (tx st)) := lk_hit _ _ _
theorem h5_kp (st kp : List Nat) (dg en ln : Nat) : List.lookup kKp (hd5 st dg kp en ln) = some (.str (tx kp)) := by
  show List.lookup kKp ((kSt, _) :: (kDg, _) :: (kKp, _) :: _) = _
  rw [lk_go (by decide), lk_go (by decide), lk_hit]
theorem h5_en (st kp : List Nat) (dg en ln : Nat) : List.lookup kEn (hd5 st dg kp en ln) = some (.int (en : Nat)) := by
  show List.lookup kEn ((kSt, _) :: (kDg, _) :: (kKp, _) :: (kEn, _) :: _) = _
  rw [lk_go (by decide), lk_go (by decide), lk_go (by decide), lk_hit]
theorem h5_ln (st kp : List Nat) (dg en ln : Nat) : List.lookup kLn (hd5 st dg kp en ln) = some (.int (ln : Nat)) := by
  show List.lookup kLn ((kSt, _) :: (kDg, _) :: (kKp, _) :: (kEn, _) :: (kLn, _) :: []) = _
  rw [lk_go (by decide), lk_go (by decide), lk_go (by decide), lk_go (by decide), lk_hit]
section
variable {P : Program} {w : World} {K : PySem.W.Frag} {mg : Str → Option Value} {base : Heap} {B C : Addr}
structure RbP (t h st : List Nat) (ls : List (List Nat)) (p q a : Nat) : Prop where
  len : t.length ≤ 100000
  at_ : t.drop p = q :: (h ++ 10 :: J ls)
  no : 10 ∉ h
  st : getK BST [q] = some st
  ls : ∀ l ∈ ls, 10 ∉ l
theorem RbP.ps {t h st : List Nat} {ls : List (List Nat)} {p q a : Nat} (H : RbP t h st ls p q a) : LsP t ls ∧ posL t ls = p + h.length + 2 := by
  have hl := congrArg List.length H.at_
  rw [List.length_drop, List.length_cons, List.length_append, List.length_cons] at hl
  have e : posL t ls = p + h.length + 2 := by unfold posL; omega
  refine ⟨⟨?_, by omega, H.ls⟩, e⟩
  show t.drop (posL t ls) = J ls
  rw [e, show p + h.length + 2 = p + (h.length + 1 + 1) by omega, ← List.drop_drop, H.at_, List.drop_succ_cons, ← List.drop_drop, List.drop_left] <;> rfl
def A_rb (t h st : List Nat) (ls : List (List Nat)) (p q a : Nat) (ss : List Sl) : Prop := RbP t h st ls p q a ∧ ss = [.d (.str t), .d (.int (p : Nat)), .d (.int ((a : Int) - 1))]
def R_rb : List Sl → List MO → Sl → List MO → Prop := fun ss M r M' => ∃ (t h st : List Nat) (ls : List (List Nat)) (p q a d : Nat), A_rb t h st ls p q a ss ∧ okH h = true ∧ depD t.length a h ls = .inl d ∧ M = [] ∧
  r = .d (.tup [.str (rbS st h ls d), .str st, .int (enF t ls (clL d ls).1 (endH p h (hdU h).2.2) (trimN (clL d ls).1 (clL d ls).1.length) : Nat), .int (posL t (clL d ls).2 : Nat)]) ∧ M' = []
def rbX (n p a : Nat) (h : List Nat) (ls : List (List Nat)) : Option Nat := if okH h = false then some (endH p h (hdU h).2.2 + pbL (hdU h).2.2) else match depD n a h ls with
  | .inr y => some y
  | .inl _ => none
def X_rb (B : Addr) : List Sl → List MO → Ex → List MO → Prop := fun ss M x M' => ∃ (t h st : List Nat) (ls : List (List Nat)) (p q a y : Nat), A_rb t h st ls p q a ss ∧ rbX t.length p a h ls = some y ∧ M = [] ∧ x = ⟨.ref B, some ("place", .int (y : Nat))⟩ ∧ M' = []
theorem cal_rb (D : Df K mg "read_block_scalar" s_read_block_scalar ["text", "place", "above"]) (c : HCls K C) (M_Header : LJ.MkrX P w K mg base 4 "Header" C (SpX K 3 (R_init C) (X_init C B))) (f_found_indentation : CalX P w K mg base 3 "found_indentation" (SpX K 3 R_fi (X_fi B)) []) (f_content_lines : Cal P w K mg base 3 "content_lines" (SpR K 3 R_cl) [])
    (f_last_content : Cal P w K mg base 1 "last_content" (SpR K 1 R_lc) []) (f_line_end : Cal P w K mg base 1 "line_end" (SpR K 2 R_le) []) (f_value_of : Cal P w K mg base 2 "value_of" (SpR K 3 R_val) []) : CalX P w K mg base 6 "read_block_scalar" (SpX K 3 R_rb (X_rb B)) [] := by
  refine cal_mkX (k := 5) D sc_read_block_scalar rfl fun f cdv A outer s H E hr tk po => ⟨fun ss M r M' h => ?_, fun ss M x M' h => ?_⟩
  · obtain ⟨t, h, st, ls, p, q, a, d, ⟨hR, rfl⟩, hok, hdep, rfl, rfl, rfl⟩ := h
    refine ⟨_, [], (pss_cons (ps_asg (LJ.pe_mkrX M_Header tk hr (by omega) (by rfl) (pa_cons (pv 0) (pa_cons (pv 1) pa_nil))) (pg_name (i := 3) sc_read_block_scalar.nd rfl (by first | exact .inl rfl | exact .inr rfl))) (pss_cons (ps_asg (pe_op op_add (pv 2) (pe_fld (pv 3) (by rfl))) (pg_name (i := 4) sc_read_block_scalar.nd rfl (by first | exact .inl rfl | exact .inr rfl))) (pss_cons (ps_if (pt_cmpR op_eq (pe_fld (pv 3) (by rfl)) pe_int (nomark _)) (pss_one (ps_asg (pe_cX f_found_indentation tk hr (by omega) (by rfl) (pa_cons (pv 0) (pa_cons (pe_fld (pv 3) (by rfl)) (pa_cons (pv 2) pa_nil)))) (pg_name (i := 4) sc_read_block_scalar.nd rfl (by first | exact .inl rfl | exact .inr rfl)))) pss_nil) (pss_cons (ps_asg (pe_c f_content_lines hr (by omega) (by rfl) (pa_cons (pv 0) (pa_cons (pe_fld (pv 3) (by rfl)) (pa_cons (pv 4) pa_nil)))) (pg_tup rfl (pgs_cons (pg_name (i := 8) sc_read_block_scalar.nd rfl (by first | exact .inl rfl | exact .inr rfl)) (pgs_cons (pg_name (i := 9) sc_read_block_scalar.nd rfl (by first | exact .inl rfl | exact .inr rfl)) pgs_nil)))) (pss_cons (ps_asg (pe_fld (pv 3) (by rfl)) (pg_name (i := 5) sc_read_block_scalar.nd rfl (by first | exact .inl rfl | exact .inr rfl))) (pss_cons (ps_asg (pe_fld (pv 3) (by rfl)) (pg_name (i := 6) sc_read_block_scalar.nd rfl (by first | exact .inl rfl | exact .inr rfl))) (pss_cons (ps_asg (pe_c f_last_content hr (by omega) (by rfl) (pa_cons (pv 8) pa_nil)) (pg_name (i := 7) sc_read_block_scalar.nd rfl (by first | exact .inl rfl | exact .inr rfl))) (pss_cons (ps_for po rfl (pi_list (pe_slice sl_list (pv 8) po_none (po_some (pe_op op_add (pv 7) pe_int)))) (pg_tup rfl (pgs_cons (pg_name (i := 10) sc_read_block_scalar.nd rfl (by first | exact .inl rfl | exact .inr rfl)) (pgs_cons (pg_name (i := 11) sc_read_block_scalar.nd rfl (by first | exact .inl rfl | exact .inr rfl)) pgs_nil))) (pss_cons (ps_asg (pe_c f_line_end hr (by omega) (by rfl) (pa_cons (pv 0) (pa_cons (pv 6) pa_nil))) (pg_name (i := 12) sc_read_block_scalar.nd rfl (by first | exact .inl rfl | exact .inr rfl))) (pss_cons (ps_if (pt_cmpR op_ne (pv 10) pe_str (nomark _)) (pss_one (ps_asg (pv 12) (pg_name (i := 5) sc_read_block_scalar.nd rfl (by first | exact .inl rfl | exact .inr rfl)))) pss_nil) (pss_one (ps_asg (pe_op op_add (pv 12) pe_int) (pg_name (i := 6) sc_read_block_scalar.nd rfl (by first | exact .inl rfl | exact .inr rfl))))))) (pss_one (ps_ret (pe_tup (pa_cons (pe_c f_value_of hr (by omega) (by rfl) (pa_cons (pv 8) (pa_cons (pe_cmpR op_eq (pe_fld (pv 3) (by rfl)) pe_str (nomark _)) (pa_cons (pe_fld (pv 3) (by rfl)) pa_nil)))) (pa_cons (pe_fld (pv 3) (by rfl)) (pa_cons (pv 5) (pa_cons (pv 9) pa_nil))))))))))))))), .inl ⟨?_, fun j h => nomatch h⟩, Nat.le_refl _⟩
    obtain ⟨hL, hpos⟩ := hR.ps
    refine es_seq (es_asg (ev_makeX (fs := hd5 st (hdU h).1 (hdU h).2.1 (endH p h (hdU h).2.2) (p + h.length + 2)) (ds := [.str t, .int (p : Nat)]) (ea_cons (ev_var rfl) (ea_cons (ev_var rfl) ea_nil)) ⟨t, h, J ls, st, p, q, ⟨hR.len, hR.at_, hR.no, hR.st, rfl⟩, hok, rfl, rfl, rfl⟩ rfl)) ?_
    refine es_nG (G' := [_, _, _, _, _, _, _, _, _, _, _, _, _]) rfl ?_
    refine es_seq (es_asg (ev_op (ev_var rfl) (ev_fldD (y := .int ((hdU h).1 : Nat)) (ev_var rfl) c.cl c.dg (h5_dg _ _ _ _ _) (fun _ => rfl)) ro_add)) ?_
    refine es_nG (G' := [_, _, _, _, _, _, _, _, _, _, _, _, _]) rfl ?_
    refine es_seq (G1 := [some (.d (.str t)), some (.d (.int (p : Nat))), some (.d (.int ((a : Int) - 1))), some (.d (insD C (hd5 st (hdU h).1 (hdU h).2.1 (endH p h (hdU h).2.2) (p + h.length + 2)))), some (.d (.int (d : Nat))), none, none, none, none, none, none, none, none]) (M1 := []) ?_ ?_
    · unfold depD at hdep
      by_cases z : (hdU h).1 = 0
      · rw [if_pos z] at hdep
        exact es_nxw (es_yes (et_is (et_test (ev_op (ev_fldD (y := .int ((hdU h).1 : Nat)) (ev_var rfl) c.cl c.dg (h5_dg _ _ _ _ _) (fun _ => rfl)) ev_int ro_eqI)) (show decide ((((hdU h).1 : Nat) : Int) = 0) = decide ((hdU h).1 = 0) from decide_eq_decide.mpr (by omega))) (decide_eq_true z) (es_asg (ev_callX (ds := [.str t, .int (p + h.length + 2 : Nat), .int ((a : Int) - 1)]) (es := []) (z := .int (d : Nat)) (ea_cons (ev_var rfl) (ea_cons (ev_fldD (y := .int (p + h.length + 2 : Nat)) (ev_var rfl) c.cl c.ln (h5_ln _ _ _ _ _) (fun _ => rfl)) (ea_cons (ev_var rfl) ea_nil))) ⟨t, ls, a, d, ⟨hR.len, hL, by rw [hpos] <;> rfl⟩, hdep, rfl, rfl, rfl⟩ rfl (fun _ => rfl)))) (Lg.refl _)
      · rw [if_neg z] at hdep
        cases hdep
        refine es_nxw (es_no (et_is (et_test (ev_op (ev_fldD (y := .int ((hdU h).1 : Nat)) (ev_var rfl) c.cl c.dg (h5_dg _ _ _ _ _) (fun _ => rfl)) ev_int ro_eqI)) (show decide ((((hdU h).1 : Nat) : Int) = 0) = decide ((hdU h).1 = 0) from decide_eq_decide.mpr (by omega))) (decide_eq_false z) es_next) ?_
        rw [show ((a : Int) - 1 + ((hdU h).1 : Nat) : Int) = ((a + (hdU h).1 - 1 : Nat) : Int) by omega]
        exact Lg.refl _
    generalize hrows : clL d ls = cl
    obtain ⟨rows, rest⟩ := cl
    have hsz := clL_size d ls
    obtain ⟨hm1, _⟩ := clL_mem d ls
    rw [hrows] at hsz hm1
    simp only at hsz hm1
    have hJl := hL.le
    have hlen := hR.len
    have hk := trimN_le rows rows.length
    refine es_seq (es_asgG (ev_call0 (ds := [.str t, .int (p + h.length + 2 : Nat), .int (d : Nat)]) (es := []) (z := .tup [.lst (rows.map rwD), .int (posL t rest : Nat)]) (ea_cons (ev_var rfl) (ea_cons (ev_fldD (y := .int (p + h.length + 2 : Nat)) (ev_var rfl) c.cl c.ln (h5_ln _ _ _ _ _) (fun _ => rfl)) (ea_cons (ev_var rfl) ea_nil))) ⟨t, ls, d, hR.len, hL, by rw [hpos] <;> rfl, rfl, by rw [hrows], rfl⟩ rfl (fun _ => rfl)) (eg_tup (egs_cons eg_name (egs_cons eg_name egs_nil)) rfl)) ?_
    refine es_nG (G' := [_, _, _, _, _, _, _, _, _, _, _, _, _]) rfl ?_
    refine es_seq (es_asg (ev_fldD (y := .int (endH p h (hdU h).2.2 : Nat)) (ev_var rfl) c.cl c.en (h5_en _ _ _ _ _) (fun _ => rfl))) ?_
    refine es_nG (G' := [_, _, _, _, _, _, _, _, _, _, _, _, _]) rfl ?_
    refine es_seq (es_asg (ev_fldD (y := .int (p + h.length + 2 : Nat)) (ev_var rfl) c.cl c.ln (h5_ln _ _ _ _ _) (fun _ => rfl))) ?_
    refine es_nG (G' := [_, _, _, _, _, _, _, _, _, _, _, _, _]) rfl ?_
    refine es_seq (es_asg (ev_call0 (ds := [.lst (rows.map rwD)]) (es := []) (z := .int ((trimN rows rows.length : Nat) - 1 : Int)) (ea_cons (ev_var rfl) ea_nil) ⟨rows, by omega, rfl, rfl, rfl, rfl⟩ rfl (fun _ => rfl))) ?_
    refine es_nG (G' := [_, _, _, _, _, _, _, _, _, _, _, _, _]) rfl ?_
    refine es_seq (G1 := [some (.d (.str t)), some (.d (.int (p : Nat))), some (.d (.int ((a : Int) - 1))), some (.d (insD C (hd5 st (hdU h).1 (hdU h).2.1 (endH p h (hdU h).2.2) (p + h.length + 2)))), some (.d (.int (d : Nat))), some (.d (.int (enF t ls rows (endH p h (hdU h).2.2) (trimN rows rows.length) : Nat))), some (.d (.int (posL t (ls.drop (trimN rows rows.length)) : Nat))), some (.d (.int ((trimN rows rows.length : Nat) - 1 : Int))), some (.d (.lst (rows.map rwD))), some (.d (.int (posL t rest : Nat))), none, none, none]) (M1 := []) ?_ ?_
    · refine es_forNn (rows.take (trimN rows rows.length)) (trimN rows rows.length) (by rw [List.length_take]; omega) rwD (fun i => [some (.d (.str t)), some (.d (.int (p : Nat))), some (.d (.int ((a : Int) - 1))), some (.d (insD C (hd5 st (hdU h).1 (hdU h).2.1 (endH p h (hdU h).2.2) (p + h.length + 2)))), some (.d (.int (d : Nat))), some (.d (.int (enF t ls rows (endH p h (hdU h).2.2) i : Nat))), some (.d (.int (posL t (ls.drop i) : Nat))), some (.d (.int ((trimN rows rows.length : Nat) - 1 : Int))), some (.d (.lst (rows.map rwD))), some (.d (.int (posL t rest : Nat))), none, none, none]) (fun _ => []) (ei_list (ev_isD (ev_wk (ev_slL (ev_var rfl) eo_none (eo_some (ev_op (ev_var rfl) ev_int ro_add))) lstX_lst) (by rw [cut_to, List.map_take]))) ?_ fun i row hi hx => ⟨_, eg_tup (egs_cons eg_name (egs_cons eg_name egs_nil)) rfl, ?_⟩
      · show Lg _ [some (.d (.str t)), some (.d (.int (p : Nat))), some (.d (.int ((a : Int) - 1))), some (.d (insD C (hd5 st (hdU h).1 (hdU h).2.1 (endH p h (hdU h).2.2) (p + h.length + 2)))), some (.d (.int (d : Nat))), some (.d (.int (endH p h (hdU h).2.2 : Nat))), some (.d (.int (posL t ls : Nat))), some (.d (.int ((trimN rows rows.length : Nat) - 1 : Int))), some (.d (.lst (rows.map rwD))), some (.d (.int (posL t rest : Nat))), none, none, none]
        rw [hpos]
        exact (lg_cons (lg_cons (lg_cons (lg_cons (lg_cons (lg_cons (lg_cons (lg_cons (lg_cons (lg_cons (lg_cons (lg_cons (lg_cons lg_nil (.inr rfl)) (.inr rfl)) (.inr rfl)) (.inl rfl)) (.inl rfl)) (.inl rfl)) (.inl rfl)) (.inl rfl)) (.inl rfl)) (.inl rfl)) (.inl rfl)) (.inl rfl)) (.inl rfl))
      · have hil : i < ls.length := by omega
        have hd2 : ls.drop i = ls[i] :: ls.drop (i + 1) := List.drop_eq_getElem_cons hil
        have hLi := hL.drop i
        rw [hd2] at hLi
        have hn := hLi.ln
        have ht2 := hLi.tl.2
        have hgl : ls.getD i [] = ls[i] := by rw [List.getD_eq_getElem?_getD, List.getElem?_eq_getElem hil] <;> rfl
        have hgr : rows.getD i [] = row := by
          rw [List.getElem?_take_of_lt hi] at hx
          rw [List.getD_eq_getElem?_getD, hx] <;> rfl
        show EvS K _ _ _ (.nx [some (.d (.str t)), some (.d (.int (p : Nat))), some (.d (.int ((a : Int) - 1))), some (.d (insD C (hd5 st (hdU h).1 (hdU h).2.1 (endH p h (hdU h).2.2) (p + h.length + 2)))), some (.d (.int (d : Nat))), some (.d (.int (enF t ls rows (endH p h (hdU h).2.2) (i + 1) : Nat))), some (.d (.int (posL t (ls.drop (i + 1)) : Nat))), some (.d (.int ((trimN rows rows.length : Nat) - 1 : Int))), some (.d (.lst (rows.map rwD))), some (.d (.int (posL t rest : Nat))), none, none, none] [])
        rw [hd2]
        refine es_nxw (es_seq (es_asg (ev_call0 (ds := [.str t, .int (posL t (ls[i] :: ls.drop (i + 1)) : Nat)]) (es := []) (z := .int (posL t (ls[i] :: ls.drop (i + 1)) + ls[i].length : Nat)) (ea_cons (ev_var rfl) (ea_cons (ev_var rfl) ea_nil)) ⟨t, _, _, _, hR.len, hn.at_, hn.no, rfl, rfl, rfl, rfl⟩ rfl (fun _ => rfl))) (es_seq (G1 := [some (.d (.str t)), some (.d (.int (p : Nat))), some (.d (.int ((a : Int) - 1))), some (.d (insD C (hd5 st (hdU h).1 (hdU h).2.1 (endH p h (hdU h).2.2) (p + h.length + 2)))), some (.d (.int (d : Nat))), some (.d (.int (enF t ls rows (endH p h (hdU h).2.2) (i + 1) : Nat))), some (.d (.int (posL t (ls[i] :: ls.drop (i + 1)) : Nat))), some (.d (.int ((trimN rows rows.length : Nat) - 1 : Int))), some (.d (.lst (rows.map rwD))), some (.d (.int (posL t rest : Nat))), some (.d (.str row)), some (.d (.bl true)), some (.d (.int (posL t (ls[i] :: ls.drop (i + 1)) + ls[i].length : Nat)))]) (M1 := []) ?_ (es_asg (ev_isD (ev_op (ev_var rfl) ev_int ro_add) (show _ = Dt.int (posL t (ls.drop (i + 1)) : Nat) by rw [ht2] <;> rfl))))) (lg_cons (lg_cons (lg_cons (lg_cons (lg_cons (lg_cons (lg_cons (lg_cons (lg_cons (lg_cons (lg_cons (lg_cons (lg_cons lg_nil (.inr rfl)) (.inr rfl)) (.inr rfl)) (.inl rfl)) (.inl rfl)) (.inl rfl)) (.inl rfl)) (.inl rfl)) (.inl rfl)) (.inl rfl)) (.inl rfl)) (.inl rfl)) (.inl rfl))
        show EvS K _ _ _ (.nx [some (.d (.str t)), some (.d (.int (p : Nat))), some (.d (.int ((a : Int) - 1))), some (.d (insD C (hd5 st (hdU h).1 (hdU h).2.1 (endH p h (hdU h).2.2) (p + h.length + 2)))), some (.d (.int (d : Nat))), some (.d (.int (enF t ls rows (endH p h (hdU h).2.2) (i + 1) : Nat))), some (.d (.int (posL t (ls[i] :: ls.drop (i + 1)) : Nat))), some (.d (.int ((trimN rows rows.length : Nat) - 1 : Int))), some (.d (.lst (rows.map rwD))), some (.d (.int (posL t rest : Nat))), some (.d (.str row)), some (.d (.bl true)), some (.d (.int (posL t (ls[i] :: ls.drop (i + 1)) + ls[i].length : Nat)))] [])
        rw [show enF t ls rows (endH p h (hdU h).2.2) (i + 1) = if rows.getD i [] = [] then enF t ls rows (endH p h (hdU h).2.2) i else posL t (ls.drop i) + (ls.getD i []).length from rfl, hgr, hgl, hd2]
        by_cases z : row = []
        · rw [if_pos z]
          exact es_nxw (es_no (et_test (ev_op (ev_var rfl) (ev_str []) ro_neS)) (by rw [decide_eq_true z] <;> rfl) es_next) (Lg.refl _)
        · rw [if_neg z]
          exact es_nxw (es_yes (et_test (ev_op (ev_var rfl) (ev_str []) ro_neS)) (by rw [decide_eq_false z] <;> rfl) (es_asg (ev_var rfl))) (Lg.refl _)
    refine es_ret (ev_tup (xs := [.str (rbS st h ls d), .str st, .int (enF t ls rows (endH p h (hdU h).2.2) (trimN rows rows.length) : Nat), .int (posL t rest : Nat)]) (ea_cons (ev_isD (ev_call0 (ds := [.lst (rows.map rwD), .bl (decide (st = FLD)), .str (hdU h).2.1]) (es := []) (z := .str (valL rows (decide (st = FLD)) (hdU h).2.1)) (ea_cons (ev_var rfl) (ea_cons (ev_op (ev_fldD (y := .str st) (ev_var rfl) c.cl c.st (h5_st _ _ _ _ _) (fun _ => rfl)) (ev_str FLD) ro_eqS) (ea_cons (ev_fldD (y := .str (hdU h).2.1) (ev_var rfl) c.cl c.kp (h5_kp _ _ _ _ _) (fun _ => rfl)) ea_nil))) ⟨rows, _, _, show rows.length + lens rows ≤ 100000 by omega, rfl, rfl, rfl, rfl⟩ rfl (fun _ => rfl)) (by unfold rbS; rw [hrows])) (ea_cons (ev_fldD (y := .str st) (ev_var rfl) c.cl c.st (h5_st _ _ _ _ _) (fun _ => rfl)) (ea_cons (ev_var rfl) (ea_cons (ev_var rfl) ea_nil)))) (show 4 ≤ 1000 by decide))
  · obtain ⟨t, h, st, ls, p, q, a, y, ⟨hR, rfl⟩, hx, rfl, rfl, rfl⟩ := h
    refine ⟨_, [], List.replicate 13 none, (pss_cons (ps_asg (LJ.pe_mkrX M_Header tk hr (by omega) (by rfl) (pa_cons (pv 0) (pa_cons (pv 1) pa_nil))) (pg_name (i := 3) sc_read_block_scalar.nd rfl (by first | exact .inl rfl | exact .inr rfl))) (pss_cons (ps_asg (pe_op op_add (pv 2) (pe_fld (pv 3) (by rfl))) (pg_name (i := 4) sc_read_block_scalar.nd rfl (by first | exact .inl rfl | exact .inr rfl))) (pss_cons (ps_if (pt_cmpR op_eq (pe_fld (pv 3) (by rfl)) pe_int (nomark _)) (pss_one (ps_asg (pe_cX f_found_indentation tk hr (by omega) (by rfl) (pa_cons (pv 0) (pa_cons (pe_fld (pv 3) (by rfl)) (pa_cons (pv 2) pa_nil)))) (pg_name (i := 4) sc_read_block_scalar.nd rfl (by first | exact .inl rfl | exact .inr rfl)))) pss_nil) (pss_cons (ps_asg (pe_c f_content_lines hr (by omega) (by rfl) (pa_cons (pv 0) (pa_cons (pe_fld (pv 3) (by rfl)) (pa_cons (pv 4) pa_nil)))) (pg_tup rfl (pgs_cons (pg_name (i := 8) sc_read_block_scalar.nd rfl (by first | exact .inl rfl | exact .inr rfl)) (pgs_cons (pg_name (i := 9) sc_read_block_scalar.nd rfl (by first | exact .inl rfl | exact .inr rfl)) pgs_nil)))) (pss_cons (ps_asg (pe_fld (pv 3) (by rfl)) (pg_name (i := 5) sc_read_block_scalar.nd rfl (by first | exact .inl rfl | exact .inr rfl))) (pss_cons (ps_asg (pe_fld (pv 3) (by rfl)) (pg_name (i := 6) sc_read_block_scalar.nd rfl (by first | exact .inl rfl | exact .inr rfl))) (pss_cons (ps_asg (pe_c f_last_content hr (by omega) (by rfl) (pa_cons (pv 8) pa_nil)) (pg_name (i := 7) sc_read_block_scalar.nd rfl (by first | exact .inl rfl | exact .inr rfl))) (pss_cons (ps_for po rfl (pi_list (pe_slice sl_list (pv 8) po_none (po_some (pe_op op_add (pv 7) pe_int)))) (pg_tup rfl (pgs_cons (pg_name (i := 10) sc_read_block_scalar.nd rfl (by first | exact .inl rfl | exact .inr rfl)) (pgs_cons (pg_name (i := 11) sc_read_block_scalar.nd rfl (by first | exact .inl rfl | exact .inr rfl)) pgs_nil))) (pss_cons (ps_asg (pe_c f_line_end hr (by omega) (by rfl) (pa_cons (pv 0) (pa_cons (pv 6) pa_nil))) (pg_name (i := 12) sc_read_block_scalar.nd rfl (by first | exact .inl rfl | exact .inr rfl))) (pss_cons (ps_if (pt_cmpR op_ne (pv 10) pe_str (nomark _)) (pss_one (ps_asg (pv 12) (pg_name (i := 5) sc_read_block_scalar.nd rfl (by first | exact .inl rfl | exact .inr rfl)))) pss_nil) (pss_one (ps_asg (pe_op op_add (pv 12) pe_int) (pg_name (i := 6) sc_read_block_scalar.nd rfl (by first | exact .inl rfl | exact .inr rfl))))))) (pss_one (ps_ret (pe_tup (pa_cons (pe_c f_value_of hr (by omega) (by rfl) (pa_cons (pv 8) (pa_cons (pe_cmpR op_eq (pe_fld (pv 3) (by rfl)) pe_str (nomark _)) (pa_cons (pe_fld (pv 3) (by rfl)) pa_nil)))) (pa_cons (pe_fld (pv 3) (by rfl)) (pa_cons (pv 5) (pa_cons (pv 9) pa_nil))))))))))))))), ?_, Nat.le_refl _⟩
    obtain ⟨hL, hpos⟩ := hR.ps
    unfold rbX at hx
    by_cases hok : okH h = false
    · rw [if_pos hok] at hx
      cases hx
      refine er_weak (er_seq1 (er_asg (ex_makeX (C := C) (ds := [.str t, .int (p : Nat)]) (ea_cons (ev_var rfl) (ea_cons (ev_var rfl) ea_nil)) ⟨t, h, J ls, st, p, q, ⟨hR.len, hR.at_, hR.no, hR.st, rfl⟩, hok, rfl, rfl, rfl⟩ rfl))) ?_
      exact (lg_cons (lg_cons (lg_cons (lg_cons (lg_cons (lg_cons (lg_cons (lg_cons (lg_cons (lg_cons (lg_cons (lg_cons (lg_cons lg_nil (.inl rfl)) (.inl rfl)) (.inl rfl)) (.inl rfl)) (.inl rfl)) (.inl rfl)) (.inl rfl)) (.inl rfl)) (.inl rfl)) (.inl rfl)) (.inr rfl)) (.inr rfl)) (.inr rfl))
    · rw [if_neg hok] at hx
      have hok : okH h = true := by simpa using hok
      refine er_seq2 (es_asg (ev_makeX (fs := hd5 st (hdU h).1 (hdU h).2.1 (endH p h (hdU h).2.2) (p + h.length + 2)) (ds := [.str t, .int (p : Nat)]) (ea_cons (ev_var rfl) (ea_cons (ev_var rfl) ea_nil)) ⟨t, h, J ls, st, p, q, ⟨hR.len, hR.at_, hR.no, hR.st, rfl⟩, hok, rfl, rfl, rfl⟩ rfl)) ?_
      refine er_nG (G' := [_, _, _, _, _, _, _, _, _, _, _, _, _]) rfl ?_
      refine er_seq2 (es_asg (ev_op (ev_var rfl) (ev_fldD (y := .int ((hdU h).1 : Nat)) (ev_var rfl) c.cl c.dg (h5_dg _ _ _ _ _) (fun _ => rfl)) ro_add)) ?_
      refine er_nG (G' := [_, _, _, _, _, _, _, _, _, _, _, _, _]) rfl ?_
      unfold depD at hx
      by_cases z : (hdU h).1 = 0
      · rw [if_pos z] at hx
        cases hf : fiR t.length a a ls with
        | inl v => rw [hf] at hx; cases hx
        | inr y2 =>
          rw [hf] at hx
          cases hx
          refine er_weak (er_seq1 (er_if (b := true) (et_is (et_is (et_test (ev_op (ev_fldD (y := .int ((hdU h).1 : Nat)) (ev_var rfl) c.cl c.dg (h5_dg _ _ _ _ _) (fun _ => rfl)) ev_int ro_eqI)) (show decide ((((hdU h).1 : Nat) : Int) = 0) = decide ((hdU h).1 = 0) from decide_eq_decide.mpr (by omega))) (decide_eq_true z)) (fun _ => er_asg (ex_callX (ds := [.str t, .int (p + h.length + 2 : Nat), .int ((a : Int) - 1)]) (es := []) (ea_cons (ev_var rfl) (ea_cons (ev_fldD (y := .int (p + h.length + 2 : Nat)) (ev_var rfl) c.cl c.ln (h5_ln _ _ _ _ _) (fun _ => rfl)) (ea_cons (ev_var rfl) ea_nil))) ⟨t, ls, a, y, ⟨hR.len, hL, by rw [hpos] <;> rfl⟩, hf, rfl, rfl, rfl⟩ rfl (fun _ => rfl))) (fun z => nomatch z))) ?_
          exact (lg_cons (lg_cons (lg_cons (lg_cons (lg_cons (lg_cons (lg_cons (lg_cons (lg_cons (lg_cons (lg_cons (lg_cons (lg_cons lg_nil (.inl rfl)) (.inl rfl)) (.inl rfl)) (.inl rfl)) (.inl rfl)) (.inl rfl)) (.inl rfl)) (.inl rfl)) (.inr rfl)) (.inr rfl)) (.inr rfl)) (.inr rfl)) (.inr rfl))
      · rw [if_neg z] at hx; cases hx
end
end T
namespace T
open PySem PySem.Spec PyProof.Rows L2 DJ LJ LamX
/-! ### the program: read_scalar of block scalars -/
abbrev s_is_whole : Stmt := topS 66
abbrev N_is_whole : List Str := ["thing", "low", "high"]
theorem sc_is_whole : FnScope N_is_whole ["thing", "low", "high"] (defScope s_is_whole) := ⟨rfl, rfl, rfl, by decide +kernel, rfl, by decide +kernel, by decide +kernel⟩
abbrev s_check_deep : Stmt := topS 62
abbrev N_check_deep : List Str := ["deep", "indent"]
theorem sc_check_deep : FnScope N_check_deep ["deep", "indent"] (defScope s_check_deep) := ⟨rfl, rfl, rfl, by decide +kernel, rfl, by decide +kernel, by decide +kernel⟩
abbrev s_value_read : Stmt := topS 72
abbrev N_value_read : List Str := ["text", "style", "context", "indent", "deep", "inside", "flat", "behind", "whole", "end", "value", "stop"]
theorem sc_value_read : FnScope N_value_read ["text", "style", "context", "indent", "deep"] (defScope s_value_read) := ⟨rfl, rfl, rfl, by decide +kernel, rfl, by decide +kernel, by decide +kernel⟩
abbrev s_read_scalar : Stmt := topS 59
abbrev N_read_scalar : List Str := ["text", "style", "context", "indent", "deep"]
theorem sc_read_scalar : FnScope N_read_scalar ["text", "style", "context", "indent", "deep"] (defScope s_read_scalar) := ⟨rfl, rfl, rfl, by decide +kernel, rfl, by decide +kernel, by decide +kernel⟩
abbrev SNG : List Nat := [115, 105, 110, 103, 108, 101]
abbrev DBL : List Nat := [100, 111, 117, 98, 108, 101]
abbrev BLK : List Nat := [98, 108, 111, 99, 107]
abbrev BEG : Kvs := [([112, 108, 97, 105, 110], []), (SNG, [39]), (DBL, [34]), (LIT, [124]), (FLD, [62])]
def behL (cx : List Nat) : List Nat := if decide (cx ∈ FLT) = true then [58, 32] else if decide (cx ∈ INS) = true then [93] else [10]
def wholeL (x cx : List Nat) : List Nat := 32 :: (x ++ behL cx)
/-- the lines behind the first -/
def tlL : List (List Nat) → List Nat
  | [] => []
  | l :: r => 10 :: (l ++ tlL r)
theorem tl_J : ∀ ls : List (List Nat), tlL ls ++ [10] = 10 :: J ls
  | [] => rfl
  | l :: r => by
    show 10 :: ((l ++ tlL r) ++ [10]) = 10 :: (l ++ 10 :: J r)
    rw [List.append_assoc, tl_J r]
def txL (q : Nat) (h : List Nat) (ls : List (List Nat)) : List Nat := q :: (h ++ tlL ls)
def QB (st : List Nat) (q : Nat) : Prop := (st = LIT ∧ q = 124) ∨ (st = FLD ∧ q = 62)
theorem qb_facts {st : List Nat} {q : Nat} (h : QB st q) : decide (st ∈ ([LIT, FLD] : List (List Nat))) = true ∧ st ∈ STYS ∧ getK BEG st = some [q] ∧ getK BST [q] = some st := by
  rcases h with ⟨rfl, rfl⟩ | ⟨rfl, rfl⟩
  · exact ⟨by decide, by decide, by decide, by decide⟩
  · exact ⟨by decide, by decide, by decide, by decide⟩
structure TxP (x h st : List Nat) (ls : List (List Nat)) (q a : Nat) : Prop where
  is_ : x = txL q h ls
  len : x.length ≤ 3000
  good : x.all goodC = true
  st : QB st q
  no : 10 ∉ h
  ls : ∀ l ∈ ls, 10 ∉ l
theorem whole_blk (x : List Nat) : wholeL x BLK = 32 :: (x ++ [10]) := rfl
theorem TxP.rb {x h st : List Nat} {ls : List (List Nat)} {q a : Nat} (H : TxP x h st ls q a) : RbP (wholeL x BLK) h st ls 1 q a := by
  refine ⟨?_, ?_, H.no, (qb_facts H.st).2.2.2, H.ls⟩
  · rw [whole_blk, List.length_cons, List.length_append]
    have := H.len
    show x.length + 1 + 1 ≤ _
    omega
  · rw [whole_blk, H.is_]
    show (q :: (h ++ tlL ls)) ++ [10] = q :: (h ++ 10 :: J ls)
    rw [List.cons_append, List.append_assoc, tl_J]
def vbL (n a : Nat) (st h : List Nat) (ls : List (List Nat)) : Option (List Nat) ⊕ Nat := match rbX n 1 a h ls with
  | some y => .inr y
  | none => match depD n a h ls with
    | .inr y => .inr y
    | .inl d => .inl (if (clL d ls).2 = [] then some (rbS st h ls d) else none)
theorem vb_in {n a : Nat} {st h : List Nat} {ls : List (List Nat)} {o : Option (List Nat)} (e : vbL n a st h ls = .inl o) : okH h = true ∧ ∃ d, depD n a h ls = .inl d ∧ o = if (clL d ls).2 = [] then some (rbS st h ls d) else none := by
  unfold vbL rbX at e
  by_cases hok : okH h = false
  · rw [if_pos hok] at e; cases e
  · rw [if_neg hok] at e
    refine ⟨by simpa using hok, ?_⟩
    cases hd : depD n a h ls with
    | inr y => rw [hd] at e; cases e
    | inl d =>
      rw [hd] at e
      cases e
      exact ⟨d, rfl, rfl⟩
theorem vb_out {n a y : Nat} {st h : List Nat} {ls : List (List Nat)} (e : vbL n a st h ls = .inr y) : rbX n 1 a h ls = some y := by
  unfold vbL at e
  cases hx : rbX n 1 a h ls with
  | some z => rw [hx] at e; cases e; rfl
  | none =>
    rw [hx] at e
    unfold rbX at hx
    by_cases hok : okH h = false
    · rw [if_pos hok] at hx; cases hx
    · rw [if_neg hok] at hx
      cases hd : depD n a h ls with
      | inr y => rw [hd] at hx; cases hx
      | inl d => rw [hd] at e; cases e
def rsB (x cx st h : List Nat) (ls : List (List Nat)) (a : Nat) : Option (List Nat) := if cx = BLK then (match vbL (wholeL x BLK).length a st h ls with
  | .inl o => o
  | .inr _ => none) else none
section
variable {P : Program} {w : World} {K : PySem.W.Frag} {mg : Str → Option Value} {base : Heap} {C B : Addr}
def R_whole : List Sl → List MO → Sl → List MO → Prop := fun ss M r M' => ∃ i lo hi : Int, lo ≤ i ∧ i ≤ hi ∧ ss = [.d (.int i), .d (.int lo), .d (.int hi)] ∧ M = [] ∧ r = .d (.bl true) ∧ M' = []
theorem cal_whole {k : Nat} (D : Df K mg "is_whole" s_is_whole ["thing", "low", "high"]) (m_isinstance : mg "isinstance" = none) (m_int : mg "int" = none) (m_bool : mg "bool" = none) : Cal P w K mg base (k + 1) "is_whole" (SpR K 3 R_whole) [] := by
  refine cal_mk D sc_is_whole rfl fun f cdv A outer s H E hr ss M r M' h => ?_
  obtain ⟨i, lo, hi, h1, h2, rfl, rfl, rfl, rfl⟩ := h
  refine ⟨_, [], (pss_one (ps_ret (pe_and (pe_callB call_isi (by rfl) m_isinstance (by decide +kernel) (pa_cons (pv 0) (pa_cons (pe_bltn (v := .ty "int") (u := .type "int") (by rfl) m_int (by decide +kernel) rfl) pa_nil))) (pe_and (pe_not (pe_callB call_isi (by rfl) m_isinstance (by decide +kernel) (pa_cons (pv 0) (pa_cons (pe_bltn (v := .ty "bool") (u := .type "bool") (by rfl) m_bool (by decide +kernel) rfl) pa_nil)))) (pe_one (pe_chain op_le op_le (pv 1) (pv 0) (pv 2))))))), ?_, Nat.le_refl _, fun _ h => nomatch h⟩
  exact es_retD (ev_andV (a := true) (c := true) (ev_cb (xs := [.int i, tyInt]) (ea_cons (ev_var rfl) (ea_cons ev_ty ea_nil)) rc_intI) (fun _ => ev_isD (ev_andV (a := true) (c := true) (ev_isD (ev_notV (ev_cb (xs := [.int i, tyBool]) (ea_cons (ev_var rfl) (ea_cons ev_ty ea_nil)) rc_intNB)) rfl) (fun _ => ev_isD (ev_chain (ev_var rfl) (ev_var rfl) ro_le (fun _ => ev_var rfl) (fun _ => ro_le) (fun _ => rfl)) (by rw [decide_eq_true h1, decide_eq_true h2] <;> rfl)) (fun _ => rfl)) rfl) (fun _ => rfl)) rfl
def R_cdeep : List Sl → List MO → Sl → List MO → Prop := fun ss M r M' => ∃ d i : Int, 1 ≤ d ∧ d ≤ 9 ∧ d ≤ i + 1 ∧ ss = [.d (.int d), .d (.int i)] ∧ M = [] ∧ r = .d .non ∧ M' = []
theorem cal_cdeep {k : Nat} (D : Df K mg "check_deep" s_check_deep ["deep", "indent"]) (f_check : Cal P w K mg base (k + 1) "check" (SpR K 2 R_check) []) (f_is_whole : Cal P w K mg base (k + 1) "is_whole" (SpR K 3 R_whole) []) (m_min : mg "min" = none) : Cal P w K mg base (k + 2) "check_deep" (SpR K 2 R_cdeep) [] := by
  refine cal_mkN D sc_check_deep rfl fun f cdv A outer s H E hr ss M r M' h => ?_
  obtain ⟨d, i, h1, h2, h3, rfl, rfl, rfl, rfl⟩ := h
  refine ⟨_, [], [some (.d (.int d)), some (.d (.int i))], (pss_one (ps_expr (pe_c f_check hr (by omega) (by rfl) (pa_cons (pe_c f_is_whole hr (by omega) (by rfl) (pa_cons (pv 0) (pa_cons pe_int (pa_cons (pe_callB (call_min2 rfl) (by rfl) m_min (by decide +kernel) (pa_cons pe_int (pa_cons (pe_op op_add (pv 1) pe_int) pa_nil))) pa_nil)))) (pa_cons pe_str pa_nil))))), ?_, Nat.le_refl _, rfl⟩
  exact es_drop (ev_call0 (ds := [.bl true, .str [100, 101, 101, 112]]) (es := []) (z := .non) (ea_cons (ev_call0 (ds := [.int d, .int 1, .int (if i + 1 < 9 then i + 1 else 9)]) (es := []) (z := .bl true) (ea_cons (ev_var rfl) (ea_cons ev_int (ea_cons (ev_cb (xs := [.int 9, .int (i + 1)]) (ea_cons ev_int (ea_cons (ev_op (ev_var rfl) ev_int ro_add) ea_nil)) rc_min2) ea_nil))) ⟨d, 1, _, h1, by split <;> omega, rfl, rfl, rfl, rfl⟩ rfl (fun _ => rfl)) (ea_cons (ev_str _) ea_nil)) ⟨_, rfl, rfl, rfl, rfl⟩ rfl (fun _ => rfl))
def A_bv (t h st : List Nat) (ls : List (List Nat)) (q a : Nat) (ss : List Sl) : Prop := RbP t h st ls 1 q a ∧ ss = [.d (.str t), .d (.int ((a : Int) - 1))]
def R_bv : List Sl → List MO → Sl → List MO → Prop := fun ss M r M' => ∃ (t h st : List Nat) (ls : List (List Nat)) (q a d : Nat), A_bv t h st ls q a ss ∧ okH h = true ∧ depD t.length a h ls = .inl d ∧ M = [] ∧ r = .d (.tup [.str (rbS st h ls d), .int (posL t (clL d ls).2 : Nat)]) ∧ M' = []
def X_bv (B : Addr) : List Sl → List MO → Ex → List MO → Prop := fun ss M x M' => ∃ (t h st : List Nat) (ls : List (List Nat)) (q a y : Nat), A_bv t h st ls q a ss ∧ rbX t.length 1 a h ls = some y ∧ M = [] ∧ x = ⟨.ref B, some ("place", .int (y : Nat))⟩ ∧ M' = []
theorem cal_bv (D : Df K mg "block_value" s_block_value ["whole", "above"]) (f_read_block_scalar : CalX P w K mg base 6 "read_block_scalar" (SpX K 3 R_rb (X_rb B)) []) : CalX P w K mg base 7 "block_value" (SpX K 2 R_bv (X_bv B)) [] := by
  refine cal_mkX (k := 6) D sc_block_value rfl fun f cdv A outer s H E hr tk po => ⟨fun ss M r M' h => ?_, fun ss M x M' h => ?_⟩
  · obtain ⟨t, h, st, ls, q, a, d, ⟨hR, rfl⟩, hok, hdep, rfl, rfl, rfl⟩ := h
    refine ⟨_, [], (pss_cons (ps_asg (pe_cX f_read_block_scalar tk hr (by omega) (by rfl) (pa_cons (pv 0) (pa_cons pe_int (pa_cons (pv 1) pa_nil)))) (pg_name (i := 2) sc_block_value.nd rfl (by first | exact .inl rfl | exact .inr rfl))) (pss_one (ps_ret (pe_tup (pa_cons (pe_ix (show IxR _ (rIxT K) from ix_tup) (pv 2) pe_int (fun _ _ => rfl)) (pa_cons (pe_ix (show IxR _ (rIxT K) from ix_tup) (pv 2) pe_int (fun _ _ => rfl)) pa_nil)))))), .inl ⟨?_, fun j h => nomatch h⟩, Nat.le_refl _⟩
    refine es_seq (es_asg (ev_callX (ds := [.str t, .int 1, .int ((a : Int) - 1)]) (es := []) (z := .tup [.str (rbS st h ls d), .str st, .int (enF t ls (clL d ls).1 (endH 1 h (hdU h).2.2) (trimN (clL d ls).1 (clL d ls).1.length) : Nat), .int (posL t (clL d ls).2 : Nat)]) (ea_cons (ev_var rfl) (ea_cons ev_int (ea_cons (ev_var rfl) ea_nil))) ⟨t, h, st, ls, 1, q, a, d, ⟨hR, rfl⟩, hok, hdep, rfl, rfl, rfl⟩ rfl (fun _ => rfl))) ?_
    refine es_nG (G' := [_, _, _]) rfl ?_
    exact es_ret (ev_tup (xs := [.str (rbS st h ls d), .int (posL t (clL d ls).2 : Nat)]) (ea_cons (ev_op (ev_var rfl) ev_int (ro_ixT (i := 0) rfl)) (ea_cons (ev_op (ev_var rfl) ev_int (ro_ixT (i := 3) rfl)) ea_nil)) (show 2 ≤ 1000 by decide))
  · obtain ⟨t, h, st, ls, q, a, y, ⟨hR, rfl⟩, hx, rfl, rfl, rfl⟩ := h
    refine ⟨_, [], [none, none, none], (pss_cons (ps_asg (pe_cX f_read_block_scalar tk hr (by omega) (by rfl) (pa_cons (pv 0) (pa_cons pe_int (pa_cons (pv 1) pa_nil)))) (pg_name (i := 2) sc_block_value.nd rfl (by first | exact .inl rfl | exact .inr rfl))) (pss_one (ps_ret (pe_tup (pa_cons (pe_ix (show IxR _ (rIxT K) from ix_tup) (pv 2) pe_int (fun _ _ => rfl)) (pa_cons (pe_ix (show IxR _ (rIxT K) from ix_tup) (pv 2) pe_int (fun _ _ => rfl)) pa_nil)))))), ?_, Nat.le_refl _⟩
    refine er_weak (er_seq1 (er_asg (ex_callX (ds := [.str t, .int 1, .int ((a : Int) - 1)]) (es := []) (ea_cons (ev_var rfl) (ea_cons ev_int (ea_cons (ev_var rfl) ea_nil))) ⟨t, h, st, ls, 1, q, a, y, ⟨hR, rfl⟩, hx, rfl, rfl, rfl⟩ rfl (fun _ => rfl)))) ?_
    exact lg_cons (lg_cons (lg_cons lg_nil (.inr rfl)) (.inr rfl)) (.inr rfl)
def A_vr (x cx h st : List Nat) (ls : List (List Nat)) (q i dp : Nat) (ss : List Sl) : Prop := TxP x h st ls q (i + 1 - dp) ∧ dp ≤ i + 1 ∧ ss = [.d (.str x), .d (.str st), .d (.str cx), .d (.int (i : Nat)), .d (.int (dp : Nat))]
def vrL (x cx h st : List Nat) (ls : List (List Nat)) (a : Nat) : Option (List Nat) ⊕ Nat := if cx = BLK then vbL (wholeL x BLK).length a st h ls else .inl none
def R_vr : List Sl → List MO → Sl → List MO → Prop := fun ss M r M' => ∃ (x cx h st : List Nat) (ls : List (List Nat)) (q i dp : Nat) (o : Option (List Nat)), A_vr x cx h st ls q i dp ss ∧ vrL x cx h st ls (i + 1 - dp) = .inl o ∧ M = [] ∧ r = .d (oS o) ∧ M' = []
def X_vr (C : Addr) : List Sl → List MO → Ex → List MO → Prop := fun ss M e M' => ∃ (x cx h st : List Nat) (ls : List (List Nat)) (q i dp y : Nat), A_vr x cx h st ls q i dp ss ∧ vrL x cx h st ls (i + 1 - dp) = .inr y ∧ M = [] ∧ e = ⟨.ref C, some ("place", .int (y : Nat))⟩ ∧ M' = []
theorem beh_len (cx : List Nat) : (behL cx).length ≤ 2 := by
  unfold behL
  split
  · decide
  · split <;> decide
theorem cal_vr (D : Df K mg "value_read" s_value_read ["text", "style", "context", "indent", "deep"]) (c_FEED : Gc K mg "FEED" (.str [10])) (c_INSIDE : Gc K mg "INSIDE" (.tup (INS.map Dt.str))) (c_FLAT : Gc K mg "FLAT" (.tup (FLT.map Dt.str))) (f_block_value : CalX P w K mg base 7 "block_value" (SpX K 2 R_bv (X_bv C)) []) (m_len : mg "len" = none) : CalX P w K mg base 8 "value_read" (SpX K 5 R_vr (X_vr C)) [] := by
  obtain ⟨v_FEED, u_FEED, hm_FEED, hr_FEED, hd_FEED⟩ := c_FEED.ex
  obtain ⟨v_INSIDE, u_INSIDE, hm_INSIDE, hr_INSIDE, hd_INSIDE⟩ := c_INSIDE.ex
  obtain ⟨v_FLAT, u_FLAT, hm_FLAT, hr_FLAT, hd_FLAT⟩ := c_FLAT.ex
  refine cal_mkX (k := 7) D sc_value_read rfl fun f cdv A outer s H E hr tk po => ⟨fun ss M r M' h => ?_, fun ss M x M' h => ?_⟩
  · obtain ⟨x, cx, h, st, ls, q, i, dp, o, ⟨hT, hdp, rfl⟩, hq, rfl, rfl, rfl⟩ := h
    obtain ⟨t1, _, _, _⟩ := qb_facts hT.st
    have hx := hT.len
    have hbl := beh_len cx
    refine ⟨_, [], (pss_cons (ps_asg (pe_cmpR (show OpR _ (compareOp .In) (rIn K false) from op_in_seq) (pv 2) (pe_glob (by rfl) hm_INSIDE hr_INSIDE) (by rfl)) (pg_name (i := 5) sc_value_read.nd rfl (by first | exact .inl rfl | exact .inr rfl))) (pss_cons (ps_asg (pe_cmpR (show OpR _ (compareOp .In) (rIn K false) from op_in_seq) (pv 2) (pe_glob (by rfl) hm_FLAT hr_FLAT) (by rfl)) (pg_name (i := 6) sc_value_read.nd rfl (by first | exact .inl rfl | exact .inr rfl))) (pss_cons (ps_asg (pe_ifExp (pt_val (pv 6)) pe_str (pe_ifExp (pt_val (pv 5)) pe_str (pe_glob (by rfl) hm_FEED hr_FEED))) (pg_name (i := 7) sc_value_read.nd rfl (by first | exact .inl rfl | exact .inr rfl))) (pss_cons (ps_asg (pe_op op_add_str (pe_op op_add_str pe_str (pv 0)) (pv 7)) (pg_name (i := 8) sc_value_read.nd rfl (by first | exact .inl rfl | exact .inr rfl))) (pss_cons (ps_asg (pe_op op_add (pe_callB call_len_str (by rfl) m_len PySem.boot_len (pa_cons (pv 0) pa_nil)) pe_int) (pg_name (i := 9) sc_value_read.nd rfl (by first | exact .inl rfl | exact .inr rfl))) (pss_cons (ps_if (pt_cmpR (show OpR _ (compareOp .In) (rIn K false) from op_in_seq) (pv 1) (pe_tup (pa_cons pe_str (pa_cons pe_str pa_nil))) (by rfl)) (pss_cons (ps_if (pt_cmpR op_ne (pv 2) pe_str (nomark _)) (pss_one (ps_ret pe_non)) pss_nil) (pss_cons (ps_asg (pe_cX f_block_value tk hr (by omega) (by rfl) (pa_cons (pv 8) (pa_cons (pe_op op_sub (pv 3) (pv 4)) pa_nil))) (pg_tup rfl (pgs_cons (pg_name (i := 10) sc_value_read.nd rfl (by first | exact .inl rfl | exact .inr rfl)) (pgs_cons (pg_name (i := 11) sc_value_read.nd rfl (by first | exact .inl rfl | exact .inr rfl)) pgs_nil)))) (pss_one (ps_asg (pe_callB call_len_str (by rfl) m_len PySem.boot_len (pa_cons (pv 8) pa_nil)) (pg_name (i := 9) sc_value_read.nd rfl (by first | exact .inl rfl | exact .inr rfl)))))) (pss_one (ps_if (pt_cmpR op_eq (pv 1) pe_str (nomark _)) pss_never pss_never))) (pss_one (ps_ret (pe_ifExp (pt_cmpR op_eq (pv 11) (pv 9) (nomark _)) (pv 10) pe_non))))))))), .inl ⟨?_, fun j h => by cases o <;> cases h⟩, Nat.le_refl _⟩
    refine es_seq (es_asg (ev_op (ev_var rfl) (ev_c hd_INSIDE) ro_inT)) ?_
    refine es_nG (G' := [_, _, _, _, _, _, _, _, _, _, _, _]) rfl ?_
    refine es_seq (es_asg (ev_op (ev_var rfl) (ev_c hd_FLAT) ro_inT)) ?_
    refine es_nG (G' := [_, _, _, _, _, _, _, _, _, _, _, _]) rfl ?_
    refine es_seq (es_asg (ev_isD (ev_iteS (et_B (ev_var rfl)) (fun _ => ev_str [58, 32]) (fun _ => ev_iteS (et_B (ev_var rfl)) (fun _ => ev_str [93]) (fun _ => ev_c hd_FEED))) (show _ = Dt.str (behL cx) from rfl))) ?_
    refine es_nG (G' := [_, _, _, _, _, _, _, _, _, _, _, _]) rfl ?_
    refine es_seq (es_asg (ev_isD (ev_op (ev_op (ev_str [32]) (ev_var rfl) (ro_addS (by show 1 + x.length ≤ _; omega))) (ev_var rfl) (ro_addS (by show ([32] ++ x).length + _ ≤ _; rw [List.length_append]; show 1 + x.length + _ ≤ _; omega))) (show _ = Dt.str (wholeL x cx) from rfl))) ?_
    refine es_nG (G' := [_, _, _, _, _, _, _, _, _, _, _, _]) rfl ?_
    refine es_seq (es_asg (ev_isD (ev_op (ev_cb (xs := [.str x]) (ea_cons (ev_var rfl) ea_nil) (rc_lenS (by omega))) ev_int ro_add) (show _ = Dt.int ((x.length : Int) + 1) from rfl))) ?_
    refine es_nG (G' := [_, _, _, _, _, _, _, _, _, _, _, _]) rfl ?_
    by_cases hc : cx = BLK
    · subst hc
      unfold vrL at hq
      rw [if_pos rfl] at hq
      obtain ⟨hok, d, hdep, ho⟩ := vb_in hq
      have hRb := hT.rb
      obtain ⟨hL, hpos⟩ := hRb.ps
      refine es_seq (es_yes (et_test (ev_op (ev_var rfl) (ev_tup (xs := [LIT, FLD].map Dt.str) (ea_cons (ev_str _) (ea_cons (ev_str _) ea_nil)) (show 2 ≤ 1000 by decide)) ro_inT)) t1 (es_pass (et_is (et_test (ev_op (ev_var rfl) (ev_str BLK) ro_neS)) rfl) (es_seq (es_asgG (ev_isD (ev_callX (ds := [.str (wholeL x BLK), .int (((i + 1 - dp : Nat) : Int) - 1)]) (es := []) (z := .tup [.str (rbS st h ls d), .int (posL (wholeL x BLK) (clL d ls).2 : Nat)]) (ea_cons (ev_var rfl) (ea_cons (ev_isD (ev_op (ev_var rfl) (ev_var rfl) ro_sub) (show Dt.int (((i : Nat) : Int) - ((dp : Nat) : Int)) = Dt.int (((i + 1 - dp : Nat) : Int) - 1) by congr 1; omega)) ea_nil)) ⟨_, h, st, ls, q, i + 1 - dp, d, ⟨hRb, rfl⟩, hok, hdep, rfl, rfl, rfl⟩ rfl (fun _ => rfl)) rfl) (eg_tup (egs_cons eg_name (egs_cons eg_name egs_nil)) rfl)) (es_nG (G' := [_, _, _, _, _, _, _, _, _, _, _, _]) rfl (es_asg (ev_cb (xs := [.str (wholeL x BLK)]) (ea_cons (ev_var rfl) ea_nil) (rc_lenS (by have := hRb.len; omega)))))))) ?_
      refine es_nG (G' := [_, _, _, _, _, _, _, _, _, _, _, _]) rfl ?_
      have hJ : posL (wholeL x BLK) (clL d ls).2 = (wholeL x BLK).length ↔ (clL d ls).2 = [] := by
        unfold posL
        obtain ⟨_, kk, hk, _⟩ := clL_mem d ls
        have hle := (hL.drop kk).le
        rw [← hk] at hle
        cases hc2 : (clL d ls).2 with
        | nil => exact ⟨fun _ => rfl, fun _ => Nat.sub_zero _⟩
        | cons l r =>
          rw [hc2] at hle
          have : 0 < (J (l :: r)).length := by show 0 < (l ++ 10 :: J r).length; rw [List.length_append, List.length_cons]; omega
          exact ⟨fun z => by omega, fun z => nomatch z⟩
      subst ho
      exact es_ret (ev_if (s := .d (oS (if (clL d ls).2 = [] then some (rbS st h ls d) else none))) (b := decide ((clL d ls).2 = [])) (et_is (et_test (ev_op (ev_var rfl) (ev_var rfl) ro_eqI)) (show decide (((posL (wholeL x BLK) (clL d ls).2 : Nat) : Int) = (((wholeL x BLK).length : Nat) : Int)) = _ from decide_eq_decide.mpr (by rw [← hJ]; omega))) (fun h => ev_isD (ev_var rfl) (by rw [if_pos (of_decide_eq_true h)] <;> rfl)) (fun h => ev_isD ev_non (by rw [if_neg (of_decide_eq_false h)] <;> rfl)))
    · unfold vrL at hq
      rw [if_neg hc] at hq
      cases hq
      exact es_seqR (es_yes (et_test (ev_op (ev_var rfl) (ev_tup (xs := [LIT, FLD].map Dt.str) (ea_cons (ev_str _) (ea_cons (ev_str _) ea_nil)) (show 2 ≤ 1000 by decide)) ro_inT)) t1 (es_seqR (es_yes (et_test (ev_op (ev_var rfl) (ev_str BLK) ro_neS)) (by rw [decide_eq_false hc] <;> rfl) (es_ret ev_non))))
  · obtain ⟨x, cx, h, st, ls, q, i, dp, y, ⟨hT, hdp, rfl⟩, hq, rfl, rfl, rfl⟩ := h
    obtain ⟨t1, _, _, _⟩ := qb_facts hT.st
    have hx := hT.len
    have hbl := beh_len cx
    refine ⟨_, [], [none, none, none, none, none, none, none, none, none, none, none, none], (pss_cons (ps_asg (pe_cmpR (show OpR _ (compareOp .In) (rIn K false) from op_in_seq) (pv 2) (pe_glob (by rfl) hm_INSIDE hr_INSIDE) (by rfl)) (pg_name (i := 5) sc_value_read.nd rfl (by first | exact .inl rfl | exact .inr rfl))) (pss_cons (ps_asg (pe_cmpR (show OpR _ (compareOp .In) (rIn K false) from op_in_seq) (pv 2) (pe_glob (by rfl) hm_FLAT hr_FLAT) (by rfl)) (pg_name (i := 6) sc_value_read.nd rfl (by first | exact .inl rfl | exact .inr rfl))) (pss_cons (ps_asg (pe_ifExp (pt_val (pv 6)) pe_str (pe_ifExp (pt_val (pv 5)) pe_str (pe_glob (by rfl) hm_FEED hr_FEED))) (pg_name (i := 7) sc_value_read.nd rfl (by first | exact .inl rfl | exact .inr rfl))) (pss_cons (ps_asg (pe_op op_add_str (pe_op op_add_str pe_str (pv 0)) (pv 7)) (pg_name (i := 8) sc_value_read.nd rfl (by first | exact .inl rfl | exact .inr rfl))) (pss_cons (ps_asg (pe_op op_add (pe_callB call_len_str (by rfl) m_len PySem.boot_len (pa_cons (pv 0) pa_nil)) pe_int) (pg_name (i := 9) sc_value_read.nd rfl (by first | exact .inl rfl | exact .inr rfl))) (pss_cons (ps_if (pt_cmpR (show OpR _ (compareOp .In) (rIn K false) from op_in_seq) (pv 1) (pe_tup (pa_cons pe_str (pa_cons pe_str pa_nil))) (by rfl)) (pss_cons (ps_if (pt_cmpR op_ne (pv 2) pe_str (nomark _)) (pss_one (ps_ret pe_non)) pss_nil) (pss_cons (ps_asg (pe_cX f_block_value tk hr (by omega) (by rfl) (pa_cons (pv 8) (pa_cons (pe_op op_sub (pv 3) (pv 4)) pa_nil))) (pg_tup rfl (pgs_cons (pg_name (i := 10) sc_value_read.nd rfl (by first | exact .inl rfl | exact .inr rfl)) (pgs_cons (pg_name (i := 11) sc_value_read.nd rfl (by first | exact .inl rfl | exact .inr rfl)) pgs_nil)))) (pss_one (ps_asg (pe_callB call_len_str (by rfl) m_len PySem.boot_len (pa_cons (pv 8) pa_nil)) (pg_name (i := 9) sc_value_read.nd rfl (by first | exact .inl rfl | exact .inr rfl)))))) (pss_one (ps_if (pt_cmpR op_eq (pv 1) pe_str (nomark _)) pss_never pss_never))) (pss_one (ps_ret (pe_ifExp (pt_cmpR op_eq (pv 11) (pv 9) (nomark _)) (pv 10) pe_non))))))))), ?_, Nat.le_refl _⟩
    refine er_seq2 (es_asg (ev_op (ev_var rfl) (ev_c hd_INSIDE) ro_inT)) ?_
    refine er_nG (G' := [_, _, _, _, _, _, _, _, _, _, _, _]) rfl ?_
    refine er_seq2 (es_asg (ev_op (ev_var rfl) (ev_c hd_FLAT) ro_inT)) ?_
    refine er_nG (G' := [_, _, _, _, _, _, _, _, _, _, _, _]) rfl ?_
    refine er_seq2 (es_asg (ev_isD (ev_iteS (et_B (ev_var rfl)) (fun _ => ev_str [58, 32]) (fun _ => ev_iteS (et_B (ev_var rfl)) (fun _ => ev_str [93]) (fun _ => ev_c hd_FEED))) (show _ = Dt.str (behL cx) from rfl))) ?_
    refine er_nG (G' := [_, _, _, _, _, _, _, _, _, _, _, _]) rfl ?_
    refine er_seq2 (es_asg (ev_isD (ev_op (ev_op (ev_str [32]) (ev_var rfl) (ro_addS (by show 1 + x.length ≤ _; omega))) (ev_var rfl) (ro_addS (by show ([32] ++ x).length + _ ≤ _; rw [List.length_append]; show 1 + x.length + _ ≤ _; omega))) (show _ = Dt.str (wholeL x cx) from rfl))) ?_
    refine er_nG (G' := [_, _, _, _, _, _, _, _, _, _, _, _]) rfl ?_
    refine er_seq2 (es_asg (ev_isD (ev_op (ev_cb (xs := [.str x]) (ea_cons (ev_var rfl) ea_nil) (rc_lenS (by omega))) ev_int ro_add) (show _ = Dt.int ((x.length : Int) + 1) from rfl))) ?_
    refine er_nG (G' := [_, _, _, _, _, _, _, _, _, _, _, _]) rfl ?_
    by_cases hc : cx = BLK
    · subst hc
      unfold vrL at hq
      rw [if_pos rfl] at hq
      have hRb := hT.rb
      refine er_weak (er_seq1 (er_if (b := true) (et_is (et_test (ev_op (ev_var rfl) (ev_tup (xs := [LIT, FLD].map Dt.str) (ea_cons (ev_str _) (ea_cons (ev_str _) ea_nil)) (show 2 ≤ 1000 by decide)) ro_inT)) t1) (fun _ => er_pass (et_is (et_test (ev_op (ev_var rfl) (ev_str BLK) ro_neS)) rfl) (er_seq1 (er_asg (ex_callX (ds := [.str (wholeL x BLK), .int (((i + 1 - dp : Nat) : Int) - 1)]) (es := []) (ea_cons (ev_var rfl) (ea_cons (ev_isD (ev_op (ev_var rfl) (ev_var rfl) ro_sub) (show Dt.int (((i : Nat) : Int) - ((dp : Nat) : Int)) = Dt.int (((i + 1 - dp : Nat) : Int) - 1) by congr 1; omega)) ea_nil)) ⟨_, h, st, ls, q, i + 1 - dp, y, ⟨hRb, rfl⟩, vb_out hq, rfl, rfl, rfl⟩ rfl (fun _ => rfl))))) (fun z => nomatch z))) ?_
      exact lg_cons (lg_cons (lg_cons (lg_cons (lg_cons (lg_cons (lg_cons (lg_cons (lg_cons (lg_cons (lg_cons (lg_cons lg_nil (.inr rfl)) (.inr rfl)) (.inr rfl)) (.inr rfl)) (.inr rfl)) (.inr rfl)) (.inr rfl)) (.inr rfl)) (.inr rfl)) (.inr rfl)) (.inr rfl)) (.inr rfl)
    · unfold vrL at hq
      rw [if_neg hc] at hq
      cases hq
def A_rs (x cx h st : List Nat) (ls : List (List Nat)) (q i dp : Nat) (ss : List Sl) : Prop := TxP x h st ls q (i + 1 - dp) ∧ cx ∈ CTXS ∧ i ≤ 100 ∧ 1 ≤ dp ∧ dp ≤ 9 ∧ dp ≤ i + 1 ∧ ss = [.d (.str x), .d (.str st), .d (.str cx), .d (.int (i : Nat)), .d (.int (dp : Nat))]
def R_rs : List Sl → List MO → Sl → List MO → Prop := fun ss M r M' => ∃ (x cx h st : List Nat) (ls : List (List Nat)) (q i dp : Nat), A_rs x cx h st ls q i dp ss ∧ M = [] ∧ r = .d (oS (rsB x cx st h ls (i + 1 - dp))) ∧ M' = []
def A_no (x cx st : List Nat) (q i dp : Nat) (ss : List Sl) : Prop := x.length ≤ 3000 ∧ x.all goodC = true ∧ st ∈ STYS ∧ getK BEG st = some [q] ∧ ¬ x.take 1 = [q] ∧ cx ∈ CTXS ∧ i ≤ 100 ∧ 1 ≤ dp ∧ dp ≤ 9 ∧ dp ≤ i + 1 ∧ ss = [.d (.str x), .d (.str st), .d (.str cx), .d (.int (i : Nat)), .d (.int (dp : Nat))]
def R_rsN : List Sl → List MO → Sl → List MO → Prop := fun ss M r M' => R_rs ss M r M' ∨ ∃ (x cx st : List Nat) (q i dp : Nat), A_no x cx st q i dp ss ∧ M = [] ∧ r = .d .non ∧ M' = []
theorem pre_q (x : List Nat) (q : Nat) : pre [q] x = decide (x.take 1 = [q]) := by
  cases x with
  | nil => rw [decide_eq_false (by simp)] <;> rfl
  | cons c r =>
    show ([c] == [q]) = _
    by_cases h : c = q
    · subst h; simp
    · simp [h]
theorem cal_rs {dB : Addr} {esB : Array DictEntry} {nB : Nat} (D : DfD K mg "read_scalar" s_read_scalar [.int 1]) (c_BEGINS : Gc K mg "BEGINS" (.raw (.ref dB))) (tB : TDict K w dB BEG esB nB) (f_check : Cal P w K mg base 1 "check" (SpR K 2 R_check) []) (f_check_style : Cal P w K mg base 2 "check_style" (SpR K 2 R_style) []) (f_is_whole : Cal P w K mg base 1 "is_whole" (SpR K 3 R_whole) []) (f_check_deep : Cal P w K mg base 2 "check_deep" (SpR K 2 R_cdeep) []) (f_is_text : Cal P w K mg base 2 "is_text" (SpR K 1 R_text) []) (f_value_read : CalX P w K mg base 8 "value_read" (SpX K 5 R_vr (X_vr C)) []) (T_Refused : Xi P w K mg base "Refused" "place" C)
    (j : Nat) (hj : 5 - (1 - j) + (1 - j) = 5)
    (hbind : ∀ (T : Addr) (kV doc pm : Value) (an : Option Addr) (cdv ct : Value) (us its : List Value), us.length = 5 - (1 - j) → its.length = 1 →
      ∃ k, bindArgs (PySem.W.fnOf "read_scalar" "read_scalar" (defArgs s_read_scalar) (defBody s_read_scalar) (defScope s_read_scalar) (.ref T) kV doc pm an cdv ct) ⟨us, []⟩ = seqItems? (.ref T) >>= k ∧ k (some its.toArray) = pure ((["text", "style", "context", "indent", "deep"] : List Str).zip (us ++ its.drop j))) :
    Cal P w K mg base 10 "read_scalar" (SpR K 5 R_rsN) (([.int 1] : List V).drop j) := by
  obtain ⟨v_BEGINS, u_BEGINS, hm_BEGINS, hr_BEGINS, hd_BEGINS⟩ := c_BEGINS.ex
  refine cal_mkD (k := 9) (N := N_read_scalar) D sc_read_scalar rfl (fun f cdv A outer s H E hr ss M r M' h => ?_) j hj (by simp) hbind
  rcases h with h | ⟨x, cx, st, q, i, dp, ⟨hx, hg, t3, t4, hno, hc, h1, h2, h3, h4, rfl⟩, rfl, rfl, rfl⟩
  · skip
    obtain ⟨x, cx, h, st, ls, q, i, dp, ⟨hT, hc, h1, h2, h3, h4, rfl⟩, rfl, rfl, rfl⟩ := h
    obtain ⟨_, t3, t4, _⟩ := qb_facts hT.st
    refine ⟨_, [], (pss_cons (ps_expr (pe_c f_check_style hr (by omega) (by rfl) (pa_cons (pv 1) (pa_cons (pv 2) pa_nil)))) (pss_cons (ps_expr (pe_c f_check hr (by omega) (by rfl) (pa_cons (pe_c f_is_whole hr (by omega) (by rfl) (pa_cons (pv 3) (pa_cons pe_int (pa_cons pe_int pa_nil)))) (pa_cons pe_str pa_nil)))) (pss_cons (ps_expr (pe_c f_check_deep hr (by omega) (by rfl) (pa_cons (pv 4) (pa_cons (pv 3) pa_nil)))) (pss_cons (ps_if (PW.pt (pw_or (pt_not (pt_val (pe_c f_is_text hr (by omega) (by rfl) (pa_cons (pv 0) pa_nil)))) (pw_or1 (pt_not (pt_val (pe_m1 PySem.F.slot_str_startswith PySem.F.type_str_startswith mt_startswith (pv 0) (pe_ix ix_kdict (pe_glob (by rfl) hm_BEGINS hr_BEGINS) (pv 1) (fun _ _ => rfl)))))))) (pss_one (ps_ret pe_non)) pss_nil) (pss_one (ps_try_only (c := .ref C) (Wout := fun _ _ _ _ => False) (tb := fun W => tRet (tCallSD (SpX K 5 R_vr (X_vr C)) [] (WE W) (tCons (tVar 0) (tCons (tVar 1) (tCons (tVar 2) (tCons (tVar 3) (tCons (tVar 4) tNil))))))) (ts := fun _ _ _ => tRet (tC .non)) rfl rfl ⟨rfl, by decide, .inl T_Refused.gC⟩ L2.takes0 (fun W pn xe tk _ => (pss_one (ps_ret (pe_cX f_value_read tk hr (by omega) (by rfl) (pa_cons (pv 0) (pa_cons (pv 1) (pa_cons (pv 2) (pa_cons (pv 3) (pa_cons (pv 4) pa_nil))))))))) (fun a oe cls d pn hz hf => (pss_one (ps_ret pe_non))))))))), ?_, Nat.le_refl _, fun j z => by cases rsB x cx st h ls (i + 1 - dp) <;> cases z⟩
    refine es_seq (es_drop (ev_call0 (ds := [.str st, .str cx]) (es := []) (z := .non) (ea_cons (ev_var rfl) (ea_cons (ev_var rfl) ea_nil)) ⟨st, cx, t3, hc, rfl, rfl, rfl, rfl⟩ rfl (fun _ => rfl))) ?_
    refine es_seq (es_drop (ev_call0 (ds := [.bl true, .str [105, 110, 100, 101, 110, 116]]) (es := []) (z := .non) (ea_cons (ev_call0 (ds := [.int (i : Nat), .int 0, .int 100]) (es := []) (z := .bl true) (ea_cons (ev_var rfl) (ea_cons ev_int (ea_cons ev_int ea_nil))) ⟨(i : Nat), 0, 100, by omega, by omega, rfl, rfl, rfl, rfl⟩ rfl (fun _ => rfl)) (ea_cons (ev_str _) ea_nil)) ⟨_, rfl, rfl, rfl, rfl⟩ rfl (fun _ => rfl))) ?_
    refine es_seq (es_drop (ev_call0 (ds := [.int (dp : Nat), .int (i : Nat)]) (es := []) (z := .non) (ea_cons (ev_var rfl) (ea_cons (ev_var rfl) ea_nil)) ⟨(dp : Nat), (i : Nat), by omega, by omega, by omega, rfl, rfl, rfl, rfl⟩ rfl (fun _ => rfl))) ?_
    have hxq : x.take 1 = [q] := by rw [hT.is_] <;> rfl
    refine es_pass (et_is (et_or (b := false) (c := !decide (x.take 1 = [q])) (et_is (et_not (et_B (ev_call0 (R := R_text) (n := 1) (dvs := []) (E := L2.E0) (ds := [.str x]) (es := []) (z := .bl true) (ea_cons (ev_var (i := 0) rfl) ea_nil) ⟨x, hT.len, hT.good, rfl, rfl, rfl, rfl⟩ rfl (fun _ => rfl)))) rfl) (fun _ => et_not (et_B (ev_isD (ev_m1 (ev_var (i := 0) rfl) (ev_op (ev_c hd_BEGINS) (ev_var (i := 1) rfl) (ro_kd (tB.hit t4))) rm_starts) (by rw [pre_q])))) (fun h => nomatch h)) (by rw [decide_eq_true hxq] <;> rfl)) ?_
    have he : rsB x cx st h ls (i + 1 - dp) = match vrL x cx h st ls (i + 1 - dp) with
        | .inl o => o
        | .inr _ => none := by
      unfold rsB vrL
      by_cases c : cx = BLK
      · rw [if_pos c, if_pos c]
      · rw [if_neg c, if_neg c]
    rw [he]
    cases hv : vrL x cx h st ls (i + 1 - dp) with
    | inl o => exact es_tryO (fun W => es_ret (ev_callX (ds := [.str x, .str st, .str cx, .int (i : Nat), .int (dp : Nat)]) (es := []) (z := oS o) (ea_cons (ev_var rfl) (ea_cons (ev_var rfl) (ea_cons (ev_var rfl) (ea_cons (ev_var rfl) (ea_cons (ev_var rfl) ea_nil))))) ⟨x, cx, h, st, ls, q, i, dp, o, ⟨hT, h4, rfl⟩, hv, rfl, rfl, rfl⟩ rfl (fun _ => rfl)))
    | inr y => exact es_tryOX (x := ⟨.ref C, some ("place", .int (y : Nat))⟩) (fun W => er_ret (ex_callX (ds := [.str x, .str st, .str cx, .int (i : Nat), .int (dp : Nat)]) (es := []) (ea_cons (ev_var rfl) (ea_cons (ev_var rfl) (ea_cons (ev_var rfl) (ea_cons (ev_var rfl) (ea_cons (ev_var rfl) ea_nil))))) ⟨x, cx, h, st, ls, q, i, dp, y, ⟨hT, h4, rfl⟩, hv, rfl, rfl, rfl⟩ rfl (fun _ => rfl))) T_Refused.te (fun a dd => es_ret ev_non)
  · refine ⟨_, [], (pss_cons (ps_expr (pe_c f_check_style hr (by omega) (by rfl) (pa_cons (pv 1) (pa_cons (pv 2) pa_nil)))) (pss_cons (ps_expr (pe_c f_check hr (by omega) (by rfl) (pa_cons (pe_c f_is_whole hr (by omega) (by rfl) (pa_cons (pv 3) (pa_cons pe_int (pa_cons pe_int pa_nil)))) (pa_cons pe_str pa_nil)))) (pss_cons (ps_expr (pe_c f_check_deep hr (by omega) (by rfl) (pa_cons (pv 4) (pa_cons (pv 3) pa_nil)))) (pss_cons (ps_if (PW.pt (pw_or (pt_not (pt_val (pe_c f_is_text hr (by omega) (by rfl) (pa_cons (pv 0) pa_nil)))) (pw_or1 (pt_not (pt_val (pe_m1 PySem.F.slot_str_startswith PySem.F.type_str_startswith mt_startswith (pv 0) (pe_ix ix_kdict (pe_glob (by rfl) hm_BEGINS hr_BEGINS) (pv 1) (fun _ _ => rfl)))))))) (pss_one (ps_ret pe_non)) pss_nil) (pss_one (ps_try_only (c := .ref C) (Wout := fun _ _ _ _ => False) (tb := fun W => tRet (tCallSD (SpX K 5 R_vr (X_vr C)) [] (WE W) (tCons (tVar 0) (tCons (tVar 1) (tCons (tVar 2) (tCons (tVar 3) (tCons (tVar 4) tNil))))))) (ts := fun _ _ _ => tRet (tC .non)) rfl rfl ⟨rfl, by decide, .inl T_Refused.gC⟩ L2.takes0 (fun W pn xe tk _ => (pss_one (ps_ret (pe_cX f_value_read tk hr (by omega) (by rfl) (pa_cons (pv 0) (pa_cons (pv 1) (pa_cons (pv 2) (pa_cons (pv 3) (pa_cons (pv 4) pa_nil))))))))) (fun a oe cls d pn hz hf => (pss_one (ps_ret pe_non))))))))), ?_, Nat.le_refl _, fun j z => nomatch z⟩
    refine es_seq (es_drop (ev_call0 (ds := [.str st, .str cx]) (es := []) (z := .non) (ea_cons (ev_var rfl) (ea_cons (ev_var rfl) ea_nil)) ⟨st, cx, t3, hc, rfl, rfl, rfl, rfl⟩ rfl (fun _ => rfl))) ?_
    refine es_seq (es_drop (ev_call0 (ds := [.bl true, .str [105, 110, 100, 101, 110, 116]]) (es := []) (z := .non) (ea_cons (ev_call0 (ds := [.int (i : Nat), .int 0, .int 100]) (es := []) (z := .bl true) (ea_cons (ev_var rfl) (ea_cons ev_int (ea_cons ev_int ea_nil))) ⟨(i : Nat), 0, 100, by omega, by omega, rfl, rfl, rfl, rfl⟩ rfl (fun _ => rfl)) (ea_cons (ev_str _) ea_nil)) ⟨_, rfl, rfl, rfl, rfl⟩ rfl (fun _ => rfl))) ?_
    refine es_seq (es_drop (ev_call0 (ds := [.int (dp : Nat), .int (i : Nat)]) (es := []) (z := .non) (ea_cons (ev_var rfl) (ea_cons (ev_var rfl) ea_nil)) ⟨(dp : Nat), (i : Nat), by omega, by omega, by omega, rfl, rfl, rfl, rfl⟩ rfl (fun _ => rfl))) ?_
    exact es_seqR (es_yes (et_or (b := false) (c := !decide (x.take 1 = [q])) (et_is (et_not (et_B (ev_call0 (R := R_text) (n := 1) (dvs := []) (E := L2.E0) (ds := [.str x]) (es := []) (z := .bl true) (ea_cons (ev_var (i := 0) rfl) ea_nil) ⟨x, hx, hg, rfl, rfl, rfl, rfl⟩ rfl (fun _ => rfl)))) rfl) (fun _ => et_not (et_B (ev_isD (ev_m1 (ev_var (i := 0) rfl) (ev_op (ev_c hd_BEGINS) (ev_var (i := 1) rfl) (ro_kd (tB.hit t4))) rm_starts) (by rw [pre_q])))) (fun h => nomatch h)) (by rw [decide_eq_false hno] <;> rfl) (es_ret ev_non))
theorem bindS5 (T : Addr) (kV doc pm : Value) (an : Option Addr) (cdv ct : Value) (us its : List Value) (h1 : us.length = 5) (h2 : its.length = 1) :
      ∃ k, bindArgs (PySem.W.fnOf "read_scalar" "read_scalar" (defArgs s_read_scalar) (defBody s_read_scalar) (defScope s_read_scalar) (.ref T) kV doc pm an cdv ct) ⟨us, []⟩ = seqItems? (.ref T) >>= k ∧ k (some its.toArray) = pure ((["text", "style", "context", "indent", "deep"] : List Str).zip (us ++ its.drop 1)) :=
  match us, h1, its, h2 with | [_, _, _, _, _], _, [_], _ => ⟨_, rfl, rfl⟩
end
end T
namespace T
open PySem PySem.Spec PyProof.Rows L2 DJ LJ LamX
/-! ### mathematics: lines, groups, values (as for k27) -/
def bareC (d : Nat) (l : List Nat) : Bool := decide (pbL l = l.length) && decide (pbL l ≤ d)
def badC (d : Nat) (l : List Nat) : Bool := decide (pbL l < d) || (decide (d = 0) && mkL l)
theorem bareC_is (d : Nat) (l : List Nat) : bareC d l = bare d l := by
  unfold bareC bare
  by_cases c : pbL l = l.length
  · rw [c]
  · rw [decide_eq_false c, Bool.false_and, Bool.false_and]
theorem badC_is (d : Nat) (l : List Nat) : badC d l = !full d l := by
  unfold badC full
  rw [Bool.not_and, Bool.not_not]
  congr 1
  by_cases c : d ≤ pbL l
  · rw [decide_eq_true c, decide_eq_false (by omega)] <;> rfl
  · rw [decide_eq_false c, decide_eq_true (by omega)] <;> rfl
abbrev Cs := List (Nat × List Nat) × Nat
def grD (g : Nat × List Nat) : Dt := .tup [.int (g.1 : Nat), .str g.2]
def goC (d : Nat) : Cs → List (List Nat) → Option Cs
  | s, [] => some s
  | s, l :: r => if bareC d l = true then goC d (s.1, s.2 + 1) r else if badC d l = true then none else goC d (s.1 ++ [(s.2, l.drop d)], 0) r
theorem drop_ne {d : Nat} {l : List Nat} (h1 : ¬ bareC d l = true) (h2 : ¬ badC d l = true) : l.drop d ≠ [] := by
  have hb := pbL_le l
  have h2 : ¬ pbL l < d := fun z => h2 (by unfold badC; rw [decide_eq_true z] <;> rfl)
  intro z
  have z := List.drop_eq_nil_iff.mp z
  refine h1 ?_
  unfold bareC
  rw [decide_eq_true (show pbL l = l.length by omega), decide_eq_true (show pbL l ≤ d by omega)] <;> rfl
def gapV (fo : Bool) (g : Nat × List Nat) (la : List Nat) : List Nat := if (fo && (bareL g.2 && bareL la)) = true then (if decide (0 < g.1) = true then fds g.1 else [32]) else fds (g.1 + 1)
def stV (fo : Bool) (s : List Nat × List Nat) (g : Nat × List Nat) : List Nat × List Nat := ((s.1 ++ gapV fo g s.2) ++ g.2, g.2)
def tailV (kp : List Nat) (n : Nat) : List Nat := if kp = [45] then [] else if kp = [] then [10] else fds (n + 1)
def valG (fo : Bool) (kp : List Nat) (s : Cs) : List Nat := match s.1 with
  | [] => fds (s.2 * (if kp = [43] then 1 else 0))
  | g :: gs => (gs.foldl (stV fo) (fds g.1 ++ g.2, g.2)).1 ++ tailV kp s.2
/-! ### mathematics: the groups say what the rows say -/
def grp (s : Cs) (row : List Nat) : Cs := if row = [] then (s.1, s.2 + 1) else (s.1 ++ [(s.2, row)], 0)
theorem goC_is (d : Nat) : ∀ (ls : List (List Nat)) (s : Cs), goC d s ls = if (clL d ls).2 = [] then some ((clL d ls).1.foldl grp s) else none
  | [], s => rfl
  | l :: r, s => by
    by_cases c1 : bareC d l = true
    · have e2 : goC d s (l :: r) = goC d (s.1, s.2 + 1) r := if_pos c1
      rw [e2, goC_is d r, clL_1 (by rw [← bareC_is]; exact c1)]
      show (if (clL d r).2 = [] then some ((clL d r).1.foldl grp (s.1, s.2 + 1)) else none) = if (clL d r).2 = [] then some ((clL d r).1.foldl grp (grp s [])) else none
      rfl
    · by_cases c2 : badC d l = true
      · have e2 : goC d s (l :: r) = none := by unfold goC; rw [if_neg c1, if_pos c2]
        rw [e2, clL_3 (by rw [← bareC_is]; exact c1) (by intro z; rw [badC_is, z] at c2; exact absurd c2 (by decide)), if_neg (fun z => nomatch z)]
      · have e2 : goC d s (l :: r) = goC d (s.1 ++ [(s.2, l.drop d)], 0) r := by
          show (if _ then _ else _) = _
          rw [if_neg c1, if_neg c2]
        have hf : full d l = true := by
          cases z : full d l with
          | true => rfl
          | false => rw [badC_is, z] at c2; exact absurd rfl c2
        have hd := drop_ne c1 c2
        rw [e2, goC_is d r, clL_2 (by rw [← bareC_is]; exact c1) hf]
        show (if (clL d r).2 = [] then some ((clL d r).1.foldl grp (s.1 ++ [(s.2, l.drop d)], 0)) else none) = if (clL d r).2 = [] then some ((clL d r).1.foldl grp (grp s (l.drop d))) else none
        rw [show grp s (l.drop d) = (s.1 ++ [(s.2, l.drop d)], 0) from if_neg hd]
theorem trim_app (rows : List (List Nat)) (row : List Nat) : ∀ q, q ≤ rows.length → trimN (rows ++ [row]) q = trimN rows q
  | 0, _ => rfl
  | q + 1, h => by
    have e : (rows ++ [row]).getD q [] = rows.getD q [] := by
      rw [List.getD_eq_getElem?_getD, List.getD_eq_getElem?_getD, List.getElem?_append_left (by omega)]
    show (if (rows ++ [row]).getD q [] = [] then trimN (rows ++ [row]) q else q + 1) = if rows.getD q [] = [] then trimN rows q else q + 1
    rw [e, trim_app rows row q (by omega)]
theorem trim_snoc (rows : List (List Nat)) (row : List Nat) : trimN (rows ++ [row]) (rows ++ [row]).length = if row = [] then trimN rows rows.length else rows.length + 1 := by
  have e : (rows ++ [row]).getD rows.length [] = row := by
    rw [List.getD_eq_getElem?_getD, List.getElem?_append_right (Nat.le_refl _), Nat.sub_self] <;> rfl
  rw [List.length_append]
  show (if (rows ++ [row]).getD rows.length [] = [] then trimN (rows ++ [row]) rows.length else rows.length + 1) = _
  rw [e, trim_app rows row _ (Nat.le_refl _)]
def accV (fo : Bool) : List (Nat × List Nat) → List Nat × List Nat
  | [] => ([], [])
  | g :: gs => gs.foldl (stV fo) (fds g.1 ++ g.2, g.2)
theorem accV_snoc (fo : Bool) (g : Nat × List Nat) : ∀ gs : List (Nat × List Nat), accV fo (gs ++ [g]) = if gs = [] then (fds g.1 ++ g.2, g.2) else stV fo (accV fo gs) g
  | [] => rfl
  | a :: as => by
    rw [if_neg (fun z => nomatch z)]
    show List.foldl (stV fo) _ (as ++ [g]) = _
    rw [List.foldl_append] <;> rfl
structure Mt (fo : Bool) (rows : List (List Nat)) (g : Cs) (r : Bs) : Prop where
  n : r.2.1 = g.2
  tr : trimN rows rows.length + g.2 = rows.length
  fl : r.1.flatten = (accV fo g.1).1
  la : r.2.2 = (accV fo g.1).2
  no : g.1 = [] → trimN rows rows.length = 0
  ne : g.1 ≠ [] → r.2.2 ≠ [] ∧ 0 < trimN rows rows.length
  bd : bodyL fo (rows.take (trimN rows rows.length)) = r.1.flatten
theorem mt_all (fo : Bool) : ∀ (n : Nat) (rows : List (List Nat)), rows.length = n → Mt fo rows (rows.foldl grp ([], 0)) (runB fo rows)
  | 0, rows, h => by
    obtain rfl := List.length_eq_zero_iff.mp h
    exact ⟨rfl, rfl, rfl, rfl, fun _ => rfl, fun z => absurd rfl z, rfl⟩
  | n + 1, rows, h => by
    rcases List.eq_nil_or_concat rows with rfl | ⟨init, row, rfl⟩
    · cases h
    · rw [List.concat_eq_append] at h ⊢
      rw [List.length_append] at h
      have ih := mt_all fo n init (by have : [row].length = 1 := rfl; omega)
      rw [List.foldl_append, run_snoc]
      show Mt fo _ (grp (init.foldl grp ([], 0)) row) _
      have hts := trim_snoc init row
      have htl := trimN_le init init.length
      generalize init.foldl grp ([], 0) = g at *
      generalize hr : runB fo init = r at *
      obtain ⟨gs, m⟩ := g
      obtain ⟨ps, k, b⟩ := r
      obtain ⟨i1, i2, i3, i4, i5, i6, i7⟩ := ih
      simp only at i1 i2 i3 i4 i5 i6 i7
      by_cases c : row = []
      · rw [if_pos c] at hts
        have e1 : grp (gs, m) row = (gs, m + 1) := if_pos c
        have e2 : stB fo (ps, k, b) row = (ps, k + 1, b) := if_pos c
        rw [e1, e2]
        refine ⟨by show k + 1 = m + 1; omega, ?_, i3, i4, fun z => hts.trans (i5 z), fun z => ⟨(i6 z).1, by rw [hts]; exact (i6 z).2⟩, ?_⟩
        · rw [hts, List.length_append]; show trimN init init.length + (m + 1) = init.length + 1; omega
        · rw [hts, List.take_append_of_le_length htl]
          exact i7
      · rw [if_neg c] at hts
        have e1 : grp (gs, m) row = (gs ++ [(m, row)], 0) := if_neg c
        have e2 : stB fo (ps, k, b) row = (ps ++ [sepL fo k b row, row], 0, row) := if_neg c
        have hacc := accV_snoc fo (m, row) gs
        have hfl : (ps ++ [sepL fo k b row, row]).flatten = (accV fo (gs ++ [(m, row)])).1 ∧ row = (accV fo (gs ++ [(m, row)])).2 := by
          rw [hacc]
          have hpf : (ps ++ [sepL fo k b row, row]).flatten = (ps.flatten ++ sepL fo k b row) ++ row := by
            rw [List.flatten_append]
            show ps.flatten ++ (sepL fo k b row ++ (row ++ [])) = _
            rw [List.append_nil, List.append_assoc]
          rw [hpf]
          subst i1
          by_cases z : gs = []
          · subst z
            have hb : b = [] := i4
            have hp : ps.flatten = [] := i3
            rw [if_pos rfl, hp]
            refine ⟨?_, rfl⟩
            show ([] ++ sepL fo k b row) ++ row = fds k ++ row
            unfold sepL
            rw [if_pos hb] <;> rfl
          · rw [if_neg z]
            refine ⟨?_, rfl⟩
            show (ps.flatten ++ sepL fo k b row) ++ row = ((accV fo gs).1 ++ gapV fo (k, row) (accV fo gs).2) ++ row
            rw [← i3, ← i4]
            congr 2
            unfold sepL gapV
            rw [if_neg (i6 z).1]
            have hcm : (fo && (bareL b && bareL row)) = (fo && (bareL row && bareL b)) := by rw [Bool.and_comm (bareL b)]
            rw [hcm]
            by_cases q : (fo && (bareL row && bareL b)) = true
            · rw [if_pos q, if_pos q]
              by_cases q2 : k = 0
              · rw [if_pos ((fds_nil k).mpr q2), if_neg (by rw [decide_eq_false (by show ¬ 0 < k; omega)]; exact Bool.false_ne_true)]
              · rw [if_neg (fun y => q2 ((fds_nil k).mp y)), if_pos (decide_eq_true (by show 0 < k; omega))]
            · rw [if_neg q, if_neg q]
        rw [e1, e2]
        refine ⟨rfl, ?_, hfl.1, hfl.2, fun z => ?_, fun _ => ⟨c, by rw [hts]; omega⟩, ?_⟩
        · rw [hts, List.length_append] <;> rfl
        · exact absurd (congrArg List.length z) (by rw [List.length_append]; show ¬ gs.length + 1 = 0; omega)
        · rw [hts, List.take_of_length_le (by rw [List.length_append]; exact Nat.le_refl _)]
          show (runB fo (init ++ [row])).1.flatten = _
          rw [run_snoc, hr, e2]
theorem val_eq (rows : List (List Nat)) (fo : Bool) {kp : List Nat} (hkp : kp = [] ∨ kp = [45] ∨ kp = [43]) : valG fo kp (rows.foldl grp ([], 0)) = valL rows fo kp := by
  obtain ⟨i1, i2, i3, i4, i5, i6, i7⟩ := mt_all fo rows.length rows rfl
  have hk : keptL rows = fds (rows.foldl grp ([], 0)).2 := by unfold keptL; congr 1; omega
  unfold valL
  rw [hk, i7, i3]
  generalize rows.foldl grp ([], 0) = g at *
  obtain ⟨gs, m⟩ := g
  cases gs with
  | nil =>
    rw [if_pos (i5 rfl)]
    show fds (m * (if kp = [43] then 1 else 0)) = _
    by_cases z : kp = [43]
    · rw [if_pos z, if_pos z, Nat.mul_one]
    · rw [if_neg z, if_neg z, Nat.mul_zero] <;> rfl
  | cons a as =>
    rw [if_neg (by have := (i6 (fun z => nomatch z)).2; omega)]
    show (accV fo (a :: as)).1 ++ tailV kp m = _
    rcases hkp with rfl | rfl | rfl
    · rw [if_neg (by decide), if_neg (by decide), List.append_nil] <;> rfl
    · rw [if_pos rfl]
      show _ ++ [] = _
      rw [List.append_nil]
    · rw [if_neg (by decide), if_pos rfl, List.append_assoc] <;> rfl
theorem join_is (hd : List Nat) : ∀ ls : List (List Nat), TL.joinL [10] (hd :: ls) = hd ++ tlL ls
  | [] => (List.append_nil hd).symm
  | l :: r => by
    show hd ++ ([10] ++ TL.joinL [10] (l :: r)) = hd ++ 10 :: (l ++ tlL r)
    rw [join_is l r] <;> rfl
end T
namespace T
open PySem PySem.Spec PyProof.Rows L2 DJ LJ LamX
/-! ### the program: the text of a block -/
abbrev s_is_like_mark : Stmt := topS 35
abbrev N_is_like_mark : List Str := ["word"]
theorem sc_is_like_mark : FnScope N_is_like_mark ["word"] (defScope s_is_like_mark) := ⟨rfl, rfl, rfl, by decide +kernel, rfl, by decide +kernel, by decide +kernel⟩
abbrev s_ahead_of : Stmt := topS 34
abbrev N_ahead_of : List Str := ["word", "indent"]
theorem sc_ahead_of : FnScope N_ahead_of ["word", "indent"] (defScope s_ahead_of) := ⟨rfl, rfl, rfl, by decide +kernel, rfl, by decide +kernel, by decide +kernel⟩
abbrev s_filled : Stmt := topS 33
abbrev N_filled : List Str := ["words", "indent", "width", "first", "line", "lines", "word"]
theorem sc_filled : FnScope N_filled ["words", "indent", "width", "first"] (defScope s_filled) := ⟨rfl, rfl, rfl, by decide +kernel, rfl, by decide +kernel, by decide +kernel⟩
abbrev s_words_of : Stmt := topS 31
abbrev N_words_of : List Str := ["row", "width", "words", "begin", "place"]
theorem sc_words_of : FnScope N_words_of ["row", "width"] (defScope s_words_of) := ⟨rfl, rfl, rfl, by decide +kernel, rfl, by decide +kernel, by decide +kernel⟩
abbrev s_block_lines : Stmt := topS 37
abbrev N_block_lines : List Str := ["rows", "folded", "indent", "width", "lines", "before", "row", "word"]
theorem sc_block_lines : FnScope N_block_lines ["rows", "folded", "indent", "width"] (defScope s_block_lines) := ⟨rfl, rfl, rfl, by decide +kernel, rfl, by decide +kernel, by decide +kernel⟩
abbrev s_block_text : Stmt := topS 36
abbrev N_block_text : List Str := ["value", "folded", "indent", "width", "deep", "sign", "body", "feeds", "parts", "rows", "aside", "lines", "part", "row", "word"]
theorem sc_block_text : FnScope N_block_text ["value", "folded", "indent", "width", "deep"] (defScope s_block_text) := ⟨rfl, rfl, rfl, by decide +kernel, rfl, by decide +kernel, by decide +kernel⟩
abbrev s_text_of_scalar : Stmt := topS 70
abbrev N_text_of_scalar : List Str := ["value", "style", "context", "indent", "width", "deep"]
theorem sc_text_of_scalar : FnScope N_text_of_scalar ["value", "style", "context", "indent", "width", "deep"] (defScope s_text_of_scalar) := ⟨rfl, rfl, rfl, by decide +kernel, rfl, by decide +kernel, by decide +kernel⟩
abbrev s_written : Stmt := topS 58
abbrev N_written : List Str := ["value", "style", "context", "indent", "width", "deep"]
theorem sc_written : FnScope N_written ["value", "style", "context", "indent", "width", "deep"] (defScope s_written) := ⟨rfl, rfl, rfl, by decide +kernel, rfl, by decide +kernel, by decide +kernel⟩
def markL (w : List Nat) : Bool := decide (w.take 3 ∈ MRK) && decide ((w.drop 3).take 1 ∈ ([[], [32]] : List (List Nat)))
abbrev spcs (n : Int) : List Nat := (List.replicate n.toNat [32]).flatten
def aheadL (w : List Nat) (i : Int) : List Nat := if (decide (i = 0) && markL w) = true then [32] else spcs i
def lineL (w : List Nat) (i : Int) : List Nat := if w = [] then [] else aheadL w i ++ w
theorem cut_pre (l : List Nat) (k : Nat) : cutL l none (some ((k : Nat) : Int)) = l.take k := cutL_to l k
theorem cut34 (l : List Nat) : cutL l (some 3) (some 4) = (l.drop 3).take 1 := by
  show cutL l (some ((3 : Nat) : Int)) (some ((4 : Nat) : Int)) = _
  rw [cutL_nat]
theorem spcs_len (n : Int) : (spcs n).length = n.toNat := by
  show (List.replicate n.toNat [32]).flatten.length = _
  rw [rep_len, List.length_singleton, Nat.one_mul]
theorem ahead_len (w : List Nat) {i : Int} (h : i ≤ 200) : (aheadL w i).length ≤ 201 := by
  unfold aheadL
  split
  · decide
  · rw [spcs_len]; omega
theorem line_len (w : List Nat) {i : Int} (h : i ≤ 200) : (lineL w i).length ≤ w.length + 201 := by
  unfold lineL
  split
  · exact Nat.zero_le _
  · have := ahead_len w h
    rw [List.length_append]; omega
theorem eqD_one (w : List Nat) : eqD (.lst [.str w]) (.lst [.str []]) = decide (w = []) := by
  have e : eqD (.lst [.str w]) (.lst [.str []]) = (PyData.eqv (.str (tx w)) (.str (tx [])) && true) := rfl
  rw [e, Bool.and_true]
  by_cases h : w = []
  · subst h; rfl
  · rw [decide_eq_false h]
    cases hz : PyData.eqv (.str (tx w)) (.str (tx [])) with
    | false => rfl
    | true =>
      exact absurd (tx_inj (by simpa [PyData.eqv] using hz)) h
def sepW (fo : Bool) (b l : List Nat) : Bool := fo && (!decide (b = []) && (bareL b && bareL l))
def stW (fo : Bool) (i : Int) (a : List (List Nat) × List Nat) (l : List Nat) : List (List Nat) × List Nat :=
  if l = [] then (a.1 ++ [lineL l i], a.2) else (a.1 ++ (if sepW fo a.2 l = true then [[]] else []) ++ [lineL l i], l)
def runW (fo : Bool) (i : Int) (ws : List (List Nat)) : List (List Nat) × List Nat := ws.foldl (stW fo i) ([], [])
theorem runW_snoc (fo : Bool) (i : Int) (ws : List (List Nat)) (l : List Nat) : runW fo i (ws ++ [l]) = stW fo i (runW fo i ws) l := by
  unfold runW
  rw [List.foldl_append] <;> rfl
structure RunOk (ws : List (List Nat)) (n : Nat) (a : List (List Nat) × List Nat) : Prop where
  len : a.1.length ≤ 2 * n
  b : a.2 = [] ∨ a.2 ∈ ws
theorem stW_ok {fo : Bool} {i : Int} {ws : List (List Nat)} {n : Nat} {a : List (List Nat) × List Nat} {l : List Nat} (h : RunOk ws n a) (hl : l ∈ ws) : RunOk ws (n + 1) (stW fo i a l) := by
  unfold stW
  split
  · exact ⟨by show (a.1 ++ [_]).length ≤ _; rw [List.length_append, List.length_singleton]; have := h.len; omega, h.b⟩
  · refine ⟨?_, .inr hl⟩
    show (a.1 ++ _ ++ [_]).length ≤ _
    rw [List.length_append, List.length_append, List.length_singleton]
    have := h.len
    have h2 : (if sepW fo a.2 l = true then ([[]] : List (List Nat)) else []).length ≤ 1 := by split <;> decide
    omega
theorem runW_ok (fo : Bool) (i : Int) (ws : List (List Nat)) : ∀ j, j ≤ ws.length → RunOk ws j (runW fo i (ws.take j))
  | 0, _ => ⟨Nat.le_refl _, .inl rfl⟩
  | j + 1, h => by
    have hj : j < ws.length := by omega
    rw [← List.take_append_getElem hj, runW_snoc]
    exact stW_ok (runW_ok fo i ws j (by omega)) (List.getElem_mem hj)
theorem stW_mem {fo : Bool} {i : Int} {m : Nat} {a : List (List Nat) × List Nat} {l : List Nat} (h : ∀ x ∈ a.1, x.length ≤ m) (hl : (lineL l i).length ≤ m) : ∀ x ∈ (stW fo i a l).1, x.length ≤ m := by
  intro x hx
  unfold stW at hx
  split at hx
  · rcases List.mem_append.mp hx with q | q
    · exact h x q
    · rw [List.mem_singleton.mp q]; exact hl
  · rcases List.mem_append.mp hx with q | q
    · rcases List.mem_append.mp q with q | q
      · exact h x q
      · split at q
        · rw [List.mem_singleton.mp q]; exact Nat.zero_le _
        · cases q
    · rw [List.mem_singleton.mp q]; exact hl
theorem runW_mem {fo : Bool} {i : Int} {m : Nat} {ws : List (List Nat)} (h : ∀ l ∈ ws, (lineL l i).length ≤ m) : ∀ j, j ≤ ws.length → ∀ x ∈ (runW fo i (ws.take j)).1, x.length ≤ m
  | 0, _ => fun x hx => nomatch hx
  | j + 1, hj => by
    have hj' : j < ws.length := by omega
    rw [← List.take_append_getElem hj', runW_snoc]
    exact stW_mem (runW_mem h j (by omega)) (h _ (List.getElem_mem hj'))
theorem asc_pl {w : List Nat} (h : ∀ c ∈ w, c < 128) : plD (.lst [.str w]) = true := by
  show (plD (.str w) && true) = true
  rw [Bool.and_true]
  exact List.all_eq_true.mpr fun c hc => decide_eq_true (h c hc)
section
variable {P : Program} {w : World} {K : PySem.W.Frag} {mg : Str → Option Value} {base : Heap}
def R_mark : List Sl → List MO → Sl → List MO → Prop := fun ss M r M' => ∃ l : List Nat, l.length ≤ 3000 ∧ ss = [.d (.str l)] ∧ M = [] ∧ r = .d (.bl (markL l)) ∧ M' = []
theorem cal_mark {k : Nat} (D : Df K mg "is_like_mark" s_is_like_mark ["word"]) (c_MARKS : Gc K mg "MARKS" (.tup (MRK.map Dt.str))) : Cal P w K mg base (k + 1) "is_like_mark" (SpR K 1 R_mark) [] := by
  obtain ⟨v_MARKS, u_MARKS, hm_MARKS, hr_MARKS, hd_MARKS⟩ := c_MARKS.ex
  refine cal_mk D sc_is_like_mark rfl fun f cdv A outer s H E hr ss M r M' h => ?_
  obtain ⟨l, hl, rfl, rfl, rfl, rfl⟩ := h
  refine ⟨_, [], (pss_one (ps_ret (pe_and (pe_cmpR (show OpR _ (compareOp .In) (rIn K false) from op_in_seq) (pe_slice sl_str (pv 0) po_none (po_some pe_int)) (pe_glob (by rfl) hm_MARKS hr_MARKS) (by rfl)) (pe_one (pe_cmpR (show OpR _ (compareOp .In) (rIn K false) from op_in_seq) (pe_slice sl_str (pv 0) (po_some pe_int) (po_some pe_int)) (pe_tup (pa_cons pe_str (pa_cons pe_str pa_nil))) (by rfl)))))), ?_, Nat.le_refl _, fun _ h => nomatch h⟩
  exact es_ret (ev_andV (a := decide (l.take 3 ∈ MRK)) (c := decide ((l.drop 3).take 1 ∈ ([[], [32]] : List (List Nat)))) (ev_op (ev_isD (ev_slS (ev_var rfl) eo_none (eo_some ev_int) (by omega)) (show _ = Dt.str (l.take 3) by rw [show cutL l none (some 3) = l.take 3 from cut_pre l 3])) (ev_c hd_MARKS) ro_inT) (fun _ => ev_op (ev_isD (ev_slS (ev_var rfl) (eo_some ev_int) (eo_some ev_int) (by omega)) (by rw [cut34])) (ev_tup (xs := [[], [32]].map Dt.str) (ea_cons (ev_str _) (ea_cons (ev_str _) ea_nil)) (show 2 ≤ 1000 by decide)) ro_inT) (fun _ => rfl))
def R_ahead : List Sl → List MO → Sl → List MO → Prop := fun ss M r M' => ∃ (l : List Nat) (i : Int), l.length ≤ 3000 ∧ 0 ≤ i ∧ i ≤ 200 ∧ ss = [.d (.str l), .d (.int i)] ∧ M = [] ∧ r = .d (.str (aheadL l i)) ∧ M' = []
theorem cal_ahead {k : Nat} (D : Df K mg "ahead_of" s_ahead_of ["word", "indent"]) (f_is_like_mark : Cal P w K mg base (k + 1) "is_like_mark" (SpR K 1 R_mark) []) : Cal P w K mg base (k + 2) "ahead_of" (SpR K 2 R_ahead) [] := by
  refine cal_mk (k := k + 1) D sc_ahead_of rfl fun f cdv A outer s H E hr ss M r M' h => ?_
  obtain ⟨l, i, hl, h0, h1, rfl, rfl, rfl, rfl⟩ := h
  refine ⟨_, [], (pss_one (ps_ret (pe_ifExp (PW.pt (pw_and (pt_cmpR op_eq (pv 1) pe_int (nomark _)) (pw_and1 (pt_val (pe_c f_is_like_mark hr (by omega) (by rfl) (pa_cons (pv 0) pa_nil)))))) pe_str (pe_op op_repN pe_str (pv 1))))), ?_, Nat.le_refl _, fun _ h => nomatch h⟩
  exact es_ret (ev_iteS (et_and (b := decide (i = 0)) (c := markL l) (et_test (ev_op (ev_var rfl) ev_int ro_eqI)) (fun _ => et_B (ev_call0 (ds := [.str l]) (es := []) (z := .bl (markL l)) (ea_cons (ev_var rfl) ea_nil) ⟨l, hl, rfl, rfl, rfl, rfl⟩ rfl (fun _ => rfl))) (fun _ => rfl)) (fun _ => ev_str [32]) (fun _ => ev_op (ev_str [32]) (ev_var rfl) (ro_repN (l := [32]) (by omega) (by omega) (by show 1 * i.toNat ≤ _; omega))))
def R_filled : PySem.W.Frag → List Sl → List MO → Sl → List MO → Prop := fun K ss M r M' => ∃ (l : List Nat) (i : Int), l.length ≤ 3000 ∧ (∀ c ∈ l, c < 128) ∧ 0 ≤ i ∧ i ≤ 200 ∧ ss = [.d (.lst [.str l]), .d (.int i), .d (.int 0), .d (.bl false)] ∧ M = [] ∧ r = .d (lstX K [.str (lineL l i)]) ∧ M' = []
theorem cal_filled {k : Nat} (D : Df K mg "filled" s_filled ["words", "indent", "width", "first"]) (f_ahead_of : Cal P w K mg base (k + 2) "ahead_of" (SpR K 2 R_ahead) []) (m_len : mg "len" = none) : Cal P w K mg base (k + 3) "filled" (SpR K 4 (R_filled K)) [] := by
  refine cal_mk (k := k + 2) D sc_filled rfl fun f cdv A outer s H E hr ss M r M' h => ?_
  obtain ⟨l, i, hl, ha, h0, h1, rfl, rfl, rfl, rfl⟩ := h
  refine ⟨_, [], (pss_cons (ps_if (pt_cmpR (op_eqD (room64 hr)) (pv 0) (pe_lst (pa_cons pe_str pa_nil)) (nomark _)) (pss_one (ps_ret (pe_lst (pa_cons pe_str pa_nil)))) pss_nil) (pss_cons (ps_asg (pe_ifExp (pt_val (pv 3)) (pe_ix ix_list (pv 0) pe_int (fun _ _ => rfl)) (pe_op op_add_str (pe_c f_ahead_of hr (by omega) (by rfl) (pa_cons (pe_ix ix_list (pv 0) pe_int (fun _ _ => rfl)) (pa_cons (pv 1) pa_nil))) (pe_ix ix_list (pv 0) pe_int (fun _ _ => rfl)))) (pg_name (i := 4) sc_filled.nd rfl (by first | exact .inl rfl | exact .inr rfl))) (pss_cons (ps_asg (pe_lst pa_nil) (pg_name (i := 5) sc_filled.nd rfl (by first | exact .inl rfl | exact .inr rfl))) (pss_cons (ps_for PassesOwn.never rfl (pi_list (pe_slice sl_list (pv 0) (po_some pe_int) po_none)) (pg_name (i := 6) sc_filled.nd rfl (by first | exact .inl rfl | exact .inr rfl)) (pss_one (ps_if (pt_cmpR op_gt (pe_op op_add (pe_op op_add (pe_callB call_len_str (by rfl) m_len PySem.boot_len (pa_cons (pv 4) pa_nil)) pe_int) (pe_callB call_len_str (by rfl) m_len PySem.boot_len (pa_cons (pv 6) pa_nil))) (pv 2) (nomark _)) (pss_cons (ps_expr (pe_bm PySem.F.plainAttrs_list PySem.F.slot_list_append PySem.F.type_list_append mt_append (pv 5) (pa_cons (pv 4) pa_nil))) (pss_one (ps_asg (pe_op op_add_str (pe_c f_ahead_of hr (by omega) (by rfl) (pa_cons (pv 6) (pa_cons (pv 1) pa_nil))) (pv 6)) (pg_name (i := 4) sc_filled.nd rfl (by first | exact .inl rfl | exact .inr rfl))))) (pss_one (ps_asg (pe_op op_add_str (pe_op op_add_str (pv 4) pe_str) (pv 6)) (pg_name (i := 4) sc_filled.nd rfl (by first | exact .inl rfl | exact .inr rfl))))))) (pss_one (ps_ret (pe_op op_cat (pv 5) (pe_lst (pa_cons (pv 4) pa_nil))))))))), ?_, Nat.le_refl _, fun _ h => nomatch h⟩
  refine es_guard (b := decide (l = [])) (et_is (et_test (ev_op (ev_var rfl) (ev_lst (xs := [.str []]) (ea_cons (ev_str []) ea_nil) (show 1 ≤ 1000 by decide)) (ro_eqDt (asc_pl ha) rfl (show 1 ≤ 64 by decide) (show 1 ≤ 64 by decide)))) (eqD_one l)) (fun h => es_retD (ev_lstX (xs := [.str []]) (ea_cons (ev_str []) ea_nil) (show 1 ≤ 1000 by decide)) (by unfold lineL; rw [if_pos (of_decide_eq_true h)])) (fun h => ?_)
  have hal := ahead_len l h1
  have eL : lineL l i = aheadL l i ++ l := if_neg (of_decide_eq_false h)
  rw [eL]
  refine es_seq (es_asg (s := .d (.str (aheadL l i ++ l))) (M1 := []) (ev_isD (ev_iteS (b := false) (l := []) (m := aheadL l i ++ l) (et_B (ev_var rfl)) (fun h => nomatch h) (fun _ => ev_op (ev_call0 (ds := [.str l, .int i]) (es := []) (z := .str (aheadL l i)) (ea_cons (ev_op (ev_var rfl) ev_int (ro_ixL (x := .str l) rfl)) (ea_cons (ev_var rfl) ea_nil)) ⟨l, i, hl, h0, h1, rfl, rfl, rfl, rfl⟩ rfl (fun _ => rfl)) (ev_op (ev_var rfl) ev_int (ro_ixL (x := .str l) rfl)) (ro_addS (by omega)))) rfl)) ?_
  refine es_nG (G' := [_, _, _, _, _, _, _]) rfl ?_
  refine es_seq (es_asg (s := .d (lstX K [])) (M1 := []) (ev_lstX (xs := []) ea_nil (Nat.zero_le _))) ?_
  refine es_nG (G' := [_, _, _, _, _, _, _]) rfl ?_
  refine es_seq (G1 := [some (.d (.lst [.str l])), some (.d (.int i)), some (.d (.int 0)), some (.d (.bl false)), some (.d (.str (aheadL l i ++ l))), some (.d (lstX K [])), none]) (M1 := []) ?_ (es_ret (ev_op (ev_var rfl) (ev_lstX (xs := [.str (aheadL l i ++ l)]) (ea_cons (ev_var rfl) ea_nil) (show 1 ≤ 1000 by decide)) (ro_cat (show 0 + 1 ≤ 100000 by decide))))
  exact es_forN ([] : List Unit) (fun _ => .non) (fun _ => [some (.d (.lst [.str l])), some (.d (.int i)), some (.d (.int 0)), some (.d (.bl false)), some (.d (.str (aheadL l i ++ l))), some (.d (lstX K [])), none]) (fun _ => []) (ei_is (ei_list (ev_wk (ev_slL (ev_var rfl) (eo_some ev_int) eo_none) lstX_lst)) rfl) (Lg.refl _) fun j x hx => nomatch hx
def R_words : PySem.W.Frag → List Sl → List MO → Sl → List MO → Prop := fun K ss M r M' => ∃ l : List Nat, l.length ≤ 3000 ∧ ss = [.d (.str l), .d (.int 0)] ∧ M = [] ∧ r = .d (lstX K [.str l]) ∧ M' = []
theorem cal_words {k : Nat} (D : Df K mg "words_of" s_words_of ["row", "width"]) (m_len : mg "len" = none) (m_range : mg "range" = none) : Cal P w K mg base (k + 1) "words_of" (SpR K 2 (R_words K)) [] := by
  refine cal_mk D sc_words_of rfl fun f cdv A outer s H E hr ss M r M' h => ?_
  obtain ⟨l, hl, rfl, rfl, rfl, rfl⟩ := h
  refine ⟨_, [], (pss_cons (ps_asg (pe_lst pa_nil) (pg_name (i := 2) sc_words_of.nd rfl (by first | exact .inl rfl | exact .inr rfl))) (pss_cons (ps_asg pe_int (pg_name (i := 3) sc_words_of.nd rfl (by first | exact .inl rfl | exact .inr rfl))) (pss_cons (ps_for PassesOwn.never rfl (pi_range2 (by rfl) m_range (pa_cons pe_int (pa_cons (pe_op op_sub (pe_callB call_len_str (by rfl) m_len PySem.boot_len (pa_cons (pv 0) pa_nil)) pe_int) pa_nil))) (pg_name (i := 4) sc_words_of.nd rfl (by first | exact .inl rfl | exact .inr rfl)) (pss_one (ps_if (PW.pt (pw_and (pt_cmpR op_gt (pv 1) pe_int (nomark _)) (pw_and (pt_cmpR op_eq (pe_ix ix_str (pv 0) (pv 4) (fun _ _ => rfl)) pe_str (nomark _)) (pw_and (pt_cmpR op_notIn_str (pe_ix ix_str (pv 0) (pe_op op_sub (pv 4) pe_int) (fun _ _ => rfl)) pe_str (by rfl)) (pw_and1 (pt_cmpR op_notIn_str (pe_ix ix_str (pv 0) (pe_op op_add (pv 4) pe_int) (fun _ _ => rfl)) pe_str (by rfl))))))) (pss_cons (ps_expr (pe_bm PySem.F.plainAttrs_list PySem.F.slot_list_append PySem.F.type_list_append mt_append (pv 2) (pa_cons (pe_slice sl_str (pv 0) (po_some (pv 3)) (po_some (pv 4))) pa_nil))) (pss_one (ps_asg (pe_op op_add (pv 4) pe_int) (pg_name (i := 3) sc_words_of.nd rfl (by first | exact .inl rfl | exact .inr rfl))))) pss_nil))) (pss_one (ps_ret (pe_op op_cat (pv 2) (pe_lst (pa_cons (pe_slice sl_str (pv 0) (po_some (pv 3)) po_none) pa_nil)))))))), ?_, Nat.le_refl _, fun _ h => nomatch h⟩
  refine es_seq (es_asg (s := .d (lstX K [])) (M1 := []) (ev_lstX (xs := []) ea_nil (Nat.zero_le _))) ?_
  refine es_nG (G' := [_, _, _, _, _]) rfl ?_
  refine es_seq (es_asg ev_int) ?_
  refine es_nG (G' := [_, _, _, _, _]) rfl ?_
  refine es_seq (G1 := [some (.d (.str l)), some (.d (.int 0)), some (.d (lstX K [])), some (.d (.int 0)), none]) (M1 := []) ?_ (es_ret (ev_op (ev_var rfl) (ev_lstX (xs := [.str l]) (ea_cons (ev_isD (ev_slS (ev_var rfl) (eo_some (ev_var rfl)) eo_none (by omega)) (show _ = Dt.str l by rw [show cutL l (some 0) none = l from (cutL_from l 0).trans (List.drop_zero)])) ea_nil) (show 1 ≤ 1000 by decide)) (ro_cat (show 0 + 1 ≤ 100000 by decide))))
  refine es_forN (List.range (((l.length : Nat) : Int) - 1 - 1).toNat) (fun i => .int (1 + (i : Nat))) (fun _ => [some (.d (.str l)), some (.d (.int 0)), some (.d (lstX K [])), some (.d (.int 0)), none]) (fun _ => []) (ei_rng2 (ea_cons ev_int (ea_cons (ev_op (ev_cb (xs := [.str l]) (ea_cons (ev_var rfl) ea_nil) (rc_lenS (by omega))) ev_int ro_sub) ea_nil)) (by omega)) (Lg.refl _) fun j x hx => ⟨_, eg_name, .inl ?_⟩
  exact es_nxw (es_no (b := false) (et_and (b := false) (c := false) (et_is (et_test (ev_op (ev_var rfl) ev_int ro_gt)) rfl) (fun h => nomatch h) (fun _ => rfl)) rfl es_next) (lg_cons (lg_cons (lg_cons (lg_cons (lg_cons lg_nil (.inr rfl)) (.inl rfl)) (.inl rfl)) (.inl rfl)) (.inl rfl))
abbrev rowD (l : List Nat) : Dt := .lst [.str l]
def R_blines : PySem.W.Frag → List Sl → List MO → Sl → List MO → Prop := fun K ss M r M' => ∃ (ws : List (List Nat)) (fo : Bool) (i : Int), ws.length ≤ 3001 ∧ (∀ l ∈ ws, l.length ≤ 3000 ∧ ∀ c ∈ l, c < 128) ∧ 0 ≤ i ∧ i ≤ 200 ∧ ss = [.d (.lst (ws.map rowD)), .d (.bl fo), .d (.int i), .d (.int 0)] ∧ M = [] ∧ r = .d (lstX K ((runW fo i ws).1.map .str)) ∧ M' = []
theorem cal_blines {k : Nat} (D : Df K mg "block_lines" s_block_lines ["rows", "folded", "indent", "width"]) (f_filled : Cal P w K mg base (k + 3) "filled" (SpR K 4 (R_filled K)) []) : Cal P w K mg base (k + 4) "block_lines" (SpR K 4 (R_blines K)) [] := by
  refine cal_mk (k := k + 3) D sc_block_lines rfl fun f cdv A outer s H E hr ss M r M' h => ?_
  obtain ⟨ws, fo, i, hl, ha, h0, h1, rfl, rfl, rfl, rfl⟩ := h
  refine ⟨_, [.gone], (pss_cons (ps_asg (pe_lst pa_nil) (pg_name (i := 4) sc_block_lines.nd rfl (by first | exact .inl rfl | exact .inr rfl))) (pss_cons (ps_asg pe_str (pg_name (i := 5) sc_block_lines.nd rfl (by first | exact .inl rfl | exact .inr rfl))) (pss_cons (ps_for PassesOwn.never rfl (pi_list (pv 0)) (pg_name (i := 6) sc_block_lines.nd rfl (by first | exact .inl rfl | exact .inr rfl)) (pss_cons (ps_asg (pe_ix ix_list (pv 6) pe_int (fun _ _ => rfl)) (pg_name (i := 7) sc_block_lines.nd rfl (by first | exact .inl rfl | exact .inr rfl))) (pss_cons (ps_if (pt_cmpR op_ne (pv 7) pe_str (nomark _)) (pss_cons (ps_if (PW.pt (pw_and (pt_val (pv 1)) (pw_and (pt_cmpR op_ne (pv 5) pe_str (nomark _)) (pw_and (pt_cmpR op_notIn_str (pe_ix ix_str (pv 5) pe_int (fun _ _ => rfl)) pe_str (by rfl)) (pw_and1 (pt_cmpR op_notIn_str (pe_ix ix_str (pv 7) pe_int (fun _ _ => rfl)) pe_str (by rfl))))))) (pss_one (ps_expr (pe_bm PySem.F.plainAttrs_list PySem.F.slot_list_append PySem.F.type_list_append mt_append (pv 4) (pa_cons pe_str pa_nil)))) pss_nil) (pss_one (ps_asg (pv 7) (pg_name (i := 5) sc_block_lines.nd rfl (by first | exact .inl rfl | exact .inr rfl))))) pss_nil) (pss_one (ps_expr (pe_bm PySem.F.plainAttrs_list PySem.F.slot_list_extend PySem.F.type_list_extend mt_extend (pv 4) (pa_cons (pe_c f_filled hr (by omega) (by rfl) (pa_cons (pv 6) (pa_cons (pv 2) (pa_cons (pv 3) (pa_cons pe_bl pa_nil))))) pa_nil))))))) (pss_one (ps_ret (pv 4)))))), ?_, Nat.zero_le _, fun _ h => nomatch h⟩
  refine es_seq (es_asg (ev_lstO (xs := []) ea_nil (Nat.zero_le _))) ?_
  refine es_nG (G' := [_, _, _, _, _, _, _, _]) rfl ?_
  refine es_seq (es_asg (ev_str [])) ?_
  refine es_nG (G' := [_, _, _, _, _, _, _, _]) rfl ?_
  refine es_seq (G1 := [some (.d (.lst (ws.map rowD))), some (.d (.bl fo)), some (.d (.int i)), some (.d (.int 0)), some (.o 0), none, none, none]) (M1 := [.lst ((runW fo i ws).1.map .str)]) ?_ (show EvS K _ _ _ (.rt (.d (lstX K ((runW fo i ws).1.map .str))) ([MO.lst ((runW fo i ws).1.map .str)].set 0 .gone)) from es_ret (ev_freezeX (k := 0) (ev_var rfl) rfl))
  refine es_nxw (es_nxM (es_forN ws rowD (fun j => [some (.d (.lst (ws.map rowD))), some (.d (.bl fo)), some (.d (.int i)), some (.d (.int 0)), some (.o 0), some (.d (.str (runW fo i (ws.take j)).2)), none, none]) (fun j => [.lst ((runW fo i (ws.take j)).1.map .str)]) (ei_list (ev_var rfl)) (Lg.refl _) fun j l hj => ⟨_, eg_name, .inl ?_⟩) (by rw [List.take_length])) (lg_cons (lg_cons (lg_cons (lg_cons (lg_cons (lg_cons (lg_cons (lg_cons lg_nil (.inl rfl)) (.inl rfl)) (.inr rfl)) (.inl rfl)) (.inl rfl)) (.inl rfl)) (.inl rfl)) (.inl rfl))
  obtain ⟨hl1, ha1⟩ := ha l (List.mem_of_getElem? hj)
  have hjl : j < ws.length := (List.getElem?_eq_some_iff.mp hj).1
  have et : runW fo i (ws.take (j + 1)) = stW fo i (runW fo i (ws.take j)) l := by
    rw [← List.take_append_getElem hjl, (List.getElem?_eq_some_iff.mp hj).2, runW_snoc]
  obtain ⟨hn, hb⟩ := runW_ok fo i ws j (by omega)
  have hbl : (runW fo i (ws.take j)).2.length ≤ 3000 := by
    rcases hb with e | e
    · rw [e]; exact Nat.zero_le _
    · exact (ha _ e).1
  rw [et]
  generalize runW fo i (ws.take j) = a at *
  obtain ⟨xs, b⟩ := a
  simp only at hn hbl ⊢
  have hz : xs.length ≤ 6002 := by omega
  refine es_seq (es_asg (ev_op (ev_var rfl) ev_int (ro_ixL (x := .str l) rfl))) ?_
  refine es_nG (G' := [_, _, _, _, _, _, _, _]) rfl ?_
  have hst : ∃ (ys : List (List Nat)) (b2 : List Nat), ys.length ≤ 6003 ∧ stW fo i (xs, b) l = (ys ++ [lineL l i], b2) ∧ (l = [] → ys = xs ∧ b2 = b) ∧ (¬ l = [] → ys = xs ++ (if sepW fo b l = true then [[]] else []) ∧ b2 = l) := by
    unfold stW
    by_cases hle : l = []
    · rw [if_pos hle]
      exact ⟨xs, b, by omega, rfl, fun _ => ⟨rfl, rfl⟩, fun z => absurd hle z⟩
    · rw [if_neg hle]
      refine ⟨_, l, ?_, rfl, fun z => absurd z hle, fun _ => ⟨rfl, rfl⟩⟩
      rw [List.length_append]
      have h2 : (if sepW fo b l = true then ([[]] : List (List Nat)) else []).length ≤ 1 := by split <;> decide
      show xs.length + (if sepW fo b l = true then ([[]] : List (List Nat)) else []).length ≤ _
      omega
  obtain ⟨ys, b2, hys, hst, hs1, hs2⟩ := hst
  rw [hst]
  refine es_seq (G1 := [some (.d (.lst (ws.map rowD))), some (.d (.bl fo)), some (.d (.int i)), some (.d (.int 0)), some (.o 0), some (.d (.str b2)), some (.d (rowD l)), some (.d (.str l))]) (M1 := [.lst (ys.map .str)]) ?_ (es_nxw (es_nxM (es_extO (k := 0) (xs := ys.map .str) (ys := [.str (lineL l i)]) (M2 := [.lst (ys.map .str)]) (ev_var rfl) (ev_call0 (ds := [rowD l, .int i, .int 0, .bl false]) (es := []) (z := lstX K [.str (lineL l i)]) (ea_cons (ev_var rfl) (ea_cons (ev_var rfl) (ea_cons (ev_var rfl) (ea_cons ev_bl ea_nil)))) ⟨l, i, hl1, ha1, h0, h1, rfl, rfl, rfl, rfl⟩ rfl (fun _ => rfl)) ⟨_, rfl⟩ rfl (by rw [List.length_singleton, List.length_map]; omega)) (by rw [List.map_append] <;> rfl)) (lg_cons (lg_cons (lg_cons (lg_cons (lg_cons (lg_cons (lg_cons (lg_cons lg_nil (.inr rfl)) (.inr rfl)) (.inl rfl)) (.inl rfl)) (.inl rfl)) (.inl rfl)) (.inl rfl)) (.inl rfl)))
  by_cases hle : l = []
  · obtain ⟨rfl, rfl⟩ := hs1 hle
    exact es_nxw (es_no (b := false) (et_is (et_test (ev_op (ev_var rfl) (ev_str []) ro_neS)) (by rw [decide_eq_true hle] <;> rfl)) rfl es_next) (Lg.refl _)
  · obtain ⟨rfl, rfl⟩ := hs2 hle
    have hb0 : ¬ b = [] → atI b 0 = some (b.getD 0 0) := fun h => by
      cases b with
      | nil => exact absurd rfl h
      | cons c r =>
        show atI (c :: r) ((0 : Nat) : Int) = some c
        rw [atI_nat (Nat.succ_pos _)] <;> rfl
    have hr0 : atI b2 0 = some (b2.getD 0 0) := by
      cases b2 with
      | nil => exact absurd rfl hle
      | cons c r =>
        show atI (c :: r) ((0 : Nat) : Int) = some c
        rw [atI_nat (Nat.succ_pos _)] <;> rfl
    have t2 : EvT K _ [some (.d (.lst (ws.map rowD))), some (.d (.bl fo)), some (.d (.int i)), some (.d (.int 0)), some (.o 0), some (.d (.str b)), some (.d (rowD b2)), some (.d (.str b2))] [.lst (xs.map .str)] (sepW fo b b2) [.lst (xs.map .str)] := et_and (et_B (ev_var (i := 1) rfl)) (fun _ => et_and (et_test (ev_op (ev_var (i := 5) rfl) (ev_str []) ro_neS)) (fun hc => et_and (et_is (et_test (ev_op (ev_op (ev_var (i := 5) rfl) ev_int (ro_ixS (c := b.getD 0 0) (by omega) (hb0 (by simpa using hc)))) (ev_str [32, 9]) ro_ninS)) (by unfold bareL; rw [sub_one])) (fun _ => et_is (et_test (ev_op (ev_op (ev_var (i := 7) rfl) ev_int (ro_ixS (c := b2.getD 0 0) (by omega) hr0)) (ev_str [32, 9]) ro_ninS)) (by unfold bareL; rw [sub_one])) (fun _ => rfl)) (fun _ => rfl)) (fun _ => rfl)
    refine es_yes (et_test (ev_op (ev_var rfl) (ev_str []) ro_neS)) (by rw [decide_eq_false hle] <;> rfl) (es_seq (G1 := [some (.d (.lst (ws.map rowD))), some (.d (.bl fo)), some (.d (.int i)), some (.d (.int 0)), some (.o 0), some (.d (.str b)), some (.d (rowD b2)), some (.d (.str b2))]) (M1 := [.lst ((xs ++ (if sepW fo b b2 = true then [[]] else [])).map .str)]) ?_ (es_nxw (es_asg (ev_var rfl)) (Lg.refl _)))
    by_cases c : sepW fo b b2 = true
    · rw [if_pos c]
      exact es_yes t2 c (es_nxM (es_appO (k := 0) (xs := xs.map .str) (x := .str []) (ev_var rfl) (ev_str []) ⟨_, rfl⟩ rfl (by rw [List.length_map]; omega)) (by rw [List.map_append] <;> rfl))
    · rw [if_neg c, List.append_nil]
      exact es_no t2 (Bool.eq_false_iff.mpr c) es_next
end
end T
namespace T
open PySem PySem.Spec PyProof.Rows L2 DJ LJ LamX
theorem drop_head {g : Nat → Bool} : ∀ {l : List Nat} {c : Nat} {r : List Nat}, l.dropWhile g = c :: r → g c = false
  | [], _, _, h => by cases h
  | a :: l, c, r, h => by
    cases hg : g a with
    | true => rw [List.dropWhile_cons_of_pos hg] at h; exact drop_head h
    | false =>
      rw [List.dropWhile_cons_of_neg (by rw [hg]; exact Bool.false_ne_true)] at h
      injection h with h1 h2
      rw [← h1]; exact hg
theorem drop_all {g : Nat → Bool} : ∀ {l : List Nat}, l.dropWhile g = [] → ∀ c ∈ l, g c = true
  | [], _, _, hc => by cases hc
  | a :: l, h, c, hc => by
    cases hg : g a with
    | true =>
      rw [List.dropWhile_cons_of_pos hg] at h
      rcases List.mem_cons.mp hc with e | e
      · rw [e]; exact hg
      · exact drop_all h c e
    | false =>
      rw [List.dropWhile_cons_of_neg (by rw [hg]; exact Bool.false_ne_true)] at h
      cases h
def bdL (v : List Nat) : List Nat := rstripL [10] v
theorem bd_pre (v : List Nat) : bdL v = v.take (bdL v).length := by
  have h := take_rev_while (inL [10]) v
  have e : bdL v = v.take (v.length - (v.reverse.takeWhile (inL [10])).length) := h.symm
  generalize v.length - (v.reverse.takeWhile (inL [10])).length = n at e
  rw [e, List.length_take]
  by_cases hn : n ≤ v.length
  · rw [Nat.min_eq_left hn]
  · rw [Nat.min_eq_right (by omega), List.take_of_length_le (by omega), List.take_of_length_le (Nat.le_refl _)]
theorem bd_len (v : List Nat) : (bdL v).length ≤ v.length := by
  rw [bd_pre v, List.length_take]; omega
theorem bd_asc {v : List Nat} (h : ∀ c ∈ v, c < 128) : ∀ c ∈ bdL v, c < 128 := fun c hc => by
  rw [bd_pre v] at hc
  exact h c (List.mem_of_mem_take hc)
theorem bd_left {v : List Nat} (h : bdL v ≠ []) : lstripL [10] (bdL v) ≠ [] := fun e => by
  have ha := drop_all e
  have e1 : (bdL v).reverse = v.reverse.dropWhile (inL [10]) := List.reverse_reverse _
  cases er : (bdL v).reverse with
  | nil => exact h (by simpa using er)
  | cons c r =>
    have h1 := drop_head (e1.symm.trans er)
    rw [ha c (List.mem_reverse.mp (by rw [er]; exact List.mem_cons_self))] at h1
    cases h1
theorem spl_cons (acc : List Nat) (c : Nat) (r : List Nat) : TL.spl [10] 0 acc (c :: r) = if c = 10 then acc :: TL.spl [10] 0 [] r else TL.spl [10] 0 (acc ++ [c]) r := by
  by_cases h : c = 10
  · subst h
    rw [if_pos rfl]
    exact TL.spl_hit rfl
  · rw [if_neg h]
    exact TL.spl_miss (TL.pre_of_head [] r h)
theorem spl_ok : ∀ (r acc : List Nat), (TL.spl [10] 0 acc r).length ≤ r.length + 1 ∧ ∀ p ∈ TL.spl [10] 0 acc r, p.length ≤ acc.length + r.length ∧ ∀ c ∈ p, c ∈ acc ∨ c ∈ r
  | [], acc => by
    rw [TL.spl_nil]
    refine ⟨Nat.le_refl _, fun p hp => ?_⟩
    rw [List.mem_singleton] at hp
    subst hp
    exact ⟨Nat.le_add_right _ _, fun c hc => .inl hc⟩
  | c :: r, acc => by
    rw [spl_cons]
    split
    · obtain ⟨h1, h2⟩ := spl_ok r []
      refine ⟨by rw [List.length_cons, List.length_cons]; omega, fun p hp => ?_⟩
      rcases List.mem_cons.mp hp with e | hp
      · subst e
        exact ⟨Nat.le_add_right _ _, fun c hc => .inl hc⟩
      · obtain ⟨q1, q2⟩ := h2 p hp
        rw [List.length_nil] at q1
        refine ⟨by rw [List.length_cons]; omega, fun d hd => .inr (List.mem_cons_of_mem _ ?_)⟩
        rcases q2 d hd with q | q
        · cases q
        · exact q
    · obtain ⟨h1, h2⟩ := spl_ok r (acc ++ [c])
      refine ⟨by rw [List.length_cons]; omega, fun p hp => ?_⟩
      obtain ⟨q1, q2⟩ := h2 p hp
      rw [List.length_append, List.length_singleton] at q1
      refine ⟨by rw [List.length_cons]; omega, fun d hd => ?_⟩
      rcases q2 d hd with q | q
      · rcases List.mem_append.mp q with q | q
        · exact .inl q
        · rw [List.mem_singleton] at q
          subst q
          exact .inr List.mem_cons_self
      · exact .inr (List.mem_cons_of_mem _ q)
def rowsL (v : List Nat) : List (List Nat) := splL [10] (bdL v)
theorem rows_ok {v : List Nat} (hl : v.length ≤ 100) (ha : ∀ c ∈ v, c < 128) : (rowsL v).length ≤ 101 ∧ ∀ l ∈ rowsL v, l.length ≤ 100 ∧ ∀ c ∈ l, c < 128 := by
  obtain ⟨h1, h2⟩ := spl_ok (bdL v) []
  have hb := bd_len v
  refine ⟨by show (TL.spl [10] 0 [] (bdL v)).length ≤ 101; omega, fun l h => ?_⟩
  obtain ⟨q1, q2⟩ := h2 l h
  rw [List.length_nil] at q1
  refine ⟨by omega, fun c hc => ?_⟩
  rcases q2 c hc with q | q
  · cases q
  · exact bd_asc ha c q
theorem join_len (l : List Nat) : ∀ xs : List (List Nat), (TL.joinL l xs).length ≤ (xs.map (·.length)).sum + xs.length * l.length
  | [] => by simp [TL.joinL]
  | [x] => by simp [TL.joinL]
  | x :: y :: r => by
    have ih := join_len l (y :: r)
    show (x ++ (l ++ TL.joinL l (y :: r))).length ≤ _
    rw [List.length_append, List.length_append, List.map_cons, List.sum_cons, List.length_cons, Nat.add_mul]
    omega
theorem sum_le {n : Nat} : ∀ {xs : List (List Nat)}, (∀ x ∈ xs, x.length ≤ n) → (xs.map (·.length)).sum ≤ n * xs.length
  | [], _ => Nat.zero_le _
  | x :: xs, h => by
    have h1 := h x List.mem_cons_self
    have ih := sum_le fun y hy => h y (List.mem_cons_of_mem _ hy)
    rw [List.map_cons, List.sum_cons, List.length_cons, Nat.mul_succ]
    omega
def feedI (v : List Nat) : Int := (v.length : Int) - ((bdL v).length : Int)
theorem feed_ok (v : List Nat) : 0 ≤ feedI v ∧ feedI v ≤ v.length := by
  have := bd_len v
  unfold feedI
  omega
def sgnL (fo : Bool) : List Nat := if fo = true then [62] else [124]
theorem sgn_len (fo : Bool) : (sgnL fo).length = 1 := by cases fo <;> rfl
def asideL (v : List Nat) (ind : Int) : Bool := decide (ind = 0) && ((rowsL v).map markL).any id
def headC (v : List Nat) : Nat := (lstripL [10] (bdL v)).getD 0 0
def tenL (fo : Bool) (v : List Nat) (ind deep : Int) : List Nat := if decide ([headC v] = [32]) = true then sgnL fo ++ (if asideL v ind = true then [50] else TL.numL deep.toNat) else sgnL fo
def chompL (f : Int) : List Nat := if decide (f = 0) = true then [45] else (if decide (f = 1) = true then [] else [43])
abbrev fdI (n : Int) : List Nat := (List.replicate n.toNat [10]).flatten
theorem fdI_len (n : Int) : (fdI n).length = n.toNat := by
  show (List.replicate n.toNat [10]).flatten.length = _
  rw [rep_len, List.length_singleton, Nat.one_mul]
def topL (fo : Bool) (v : List Nat) (ind deep : Int) : List Nat := tenL fo v ind deep ++ chompL (feedI v)
def inX (v : List Nat) (ind : Int) : Int := if asideL v ind = true then 1 else ind
def blockL (fo : Bool) (v : List Nat) (ind deep : Int) : List Nat :=
  if bdL v = [] then (sgnL fo ++ (if (feedI v != 0) = true then [43] else [45])) ++ fdI (feedI v)
  else TL.joinL [10] (topL fo v ind deep :: (runW fo (inX v ind) (rowsL v)).1) ++ fdI (max 0 (feedI v - 1))
theorem num_one {d : Int} (h0 : 0 ≤ d) (h : d ≤ 9) : (TL.numL d.toNat).length = 1 := by
  rw [TL.numL_lt (by omega)] <;> rfl
theorem ten_len (fo : Bool) (v : List Nat) {ind deep : Int} (h0 : 0 ≤ deep) (h : deep ≤ 9) : (tenL fo v ind deep).length ≤ 2 := by
  have := num_one h0 h
  unfold tenL
  split
  · rw [List.length_append]
    split
    · rw [sgn_len] <;> decide
    · rw [this, sgn_len] <;> decide
  · rw [sgn_len] <;> decide
theorem chomp_len (f : Int) : (chompL f).length ≤ 1 := by
  unfold chompL
  split
  · decide
  · split <;> decide
theorem any_two (ws : List (List Nat)) : (ws.flatMap fun l => [l].map fun y => Dt.bl (markL y)) = (ws.map markL).map Dt.bl := by
  induction ws with
  | nil => rfl
  | cons w ws ih => rw [List.flatMap_cons, ih] <;> rfl
section
variable {P : Program} {w : World} {K : PySem.W.Frag} {mg : Str → Option Value} {base : Heap}
def R_block : List Sl → List MO → Sl → List MO → Prop := fun ss M r M' => ∃ (v : List Nat) (fo : Bool) (ind deep : Int), v.length ≤ 100 ∧ (∀ c ∈ v, c < 128) ∧ 0 ≤ ind ∧ ind ≤ 100 ∧ 1 ≤ deep ∧ deep ≤ 9 ∧ ss = [.d (.str v), .d (.bl fo), .d (.int ind), .d (.int 0), .d (.int deep)] ∧ M = [] ∧ r = .d (.str (blockL fo v ind deep)) ∧ M' = []
theorem cal_block (D : Df K mg "block_text" s_block_text ["value", "folded", "indent", "width", "deep"]) (c_FEED : Gc K mg "FEED" (.str [10])) (f_is_like_mark : Cal P w K mg base 1 "is_like_mark" (SpR K 1 R_mark) []) (f_words_of : Cal P w K mg base 1 "words_of" (SpR K 2 (R_words K)) []) (f_block_lines : Cal P w K mg base 4 "block_lines" (SpR K 4 (R_blines K)) []) (m_len : mg "len" = none) (m_any : mg "any" = none) (m_max : mg "max" = none) (m_str : mg "str" = none) : Cal P w K mg base 5 "block_text" (SpR K 5 R_block) [] := by
  obtain ⟨v_FEED, u_FEED, hm_FEED, hr_FEED, hd_FEED⟩ := c_FEED.ex
  refine cal_mk (k := 4) D sc_block_text rfl fun f cdv A outer s H E hr ss M r M' h => ?_
  obtain ⟨v, fo, ind, deep, hl, ha, h0, h1, h2, h3, rfl, rfl, rfl, rfl⟩ := h
  have hb := bd_len v
  obtain ⟨hf0, hf1⟩ := feed_ok v
  have eF : ((v.length : Nat) : Int) - (((bdL v).length : Nat) : Int) = feedI v := rfl
  by_cases hbd : bdL v = []
  · refine ⟨_, [], (pss_cons (ps_asg (pe_ifExp (pt_val (pv 1)) pe_str pe_str) (pg_name (i := 5) sc_block_text.nd rfl (by first | exact .inl rfl | exact .inr rfl))) (pss_cons (ps_asg (pe_m1 PySem.F.slot_str_rstrip PySem.F.type_str_rstrip mt_rstripChars (pv 0) (pe_glob (by rfl) hm_FEED hr_FEED)) (pg_name (i := 6) sc_block_text.nd rfl (by first | exact .inl rfl | exact .inr rfl))) (pss_cons (ps_asg (pe_op op_sub (pe_callB call_len_str (by rfl) m_len PySem.boot_len (pa_cons (pv 0) pa_nil)) (pe_callB call_len_str (by rfl) m_len PySem.boot_len (pa_cons (pv 6) pa_nil))) (pg_name (i := 7) sc_block_text.nd rfl (by first | exact .inl rfl | exact .inr rfl))) (pss_cons (ps_if (pt_cmpR op_eq (pv 6) pe_str (nomark _)) (pss_one (ps_ret (pe_op op_add_str (pe_op op_add_str (pv 5) (pe_ifExp (pt_truth (pv 7) (by intro _; rfl)) pe_str pe_str)) (pe_op op_repN (pe_glob (by rfl) hm_FEED hr_FEED) (pv 7))))) pss_nil) (pss_cons (ps_asg (pe_m1 PySem.F.slot_str_split PySem.F.type_str_split mt_split (pv 6) (pe_glob (by rfl) hm_FEED hr_FEED)) (pg_name (i := 8) sc_block_text.nd rfl (by first | exact .inl rfl | exact .inr rfl))) (pss_cons (ps_setLc (i := 9) (own := [("part", 12)]) (g := (gName 12)) (by rfl) sc_block_text.nd rfl rfl (sw_true rfl rfl rfl (by decide +kernel)) (pi_list (pv 8)) (blkOk_by (own := [("part", 12)]) (N := N_block_text) (sc := defScope s_block_text) (by decide +kernel)) (fun _ _ _ _ _ => pg_name (i := 12) sc_block_text.nd rfl (by first | exact .inl rfl | exact .inr rfl)) (fun _ _ _ _ _ => pts_nil) (fun _ _ _ _ _ => (pe_c f_words_of hr (by omega) (by rfl) (pa_cons (pv 12) (pa_cons (pe_ifExp (pt_cmpR (show OpR _ (compareOp .In) (rIn K false) from op_in_seq) (pe_slice sl_str (pv 12) po_none (po_some pe_int)) (pe_tup (pa_cons pe_str (pa_cons pe_str pa_nil))) (by rfl)) pe_int (pv 3)) pa_nil))))) (pss_cons (ps_asg (pe_and (pe_cmpR op_eq (pv 2) pe_int (nomark _)) (pe_one (pe_callB (cr_any rfl) (by rfl) m_any (by decide +kernel) (pa_cons (pe_lc2 (own := [("row", 13), ("word", 14)]) (vs1 := [14]) (g := gName 13) (g1 := gName 14) (wi1 := iList K (tVar 13)) (by rfl) sc_block_text.nd (pi_list (pv 9)) (blkOk_by (own := [("row", 13), ("word", 14)]) (N := N_block_text) (sc := defScope s_block_text) (by decide +kernel)) (by decide) (fun _ _ _ _ _ => pg_name (i := 13) sc_block_text.nd rfl (by first | exact .inl rfl | exact .inr rfl)) (fun _ _ _ _ _ => pts_nil) (fun _ _ _ _ _ => (pi_list (pv 13))) (fun _ _ _ _ _ => pg_name (i := 14) sc_block_text.nd rfl (by first | exact .inl rfl | exact .inr rfl)) (fun _ _ _ _ _ => pts_nil) (fun _ _ _ _ _ => (pe_c f_is_like_mark hr (by omega) (by rfl) (pa_cons (pv 14) pa_nil)))) pa_nil)))) (pg_name (i := 10) sc_block_text.nd rfl (by first | exact .inl rfl | exact .inr rfl))) (pss_cons (ps_if (pt_cmpR op_eq (pe_ix ix_str (pe_m1 PySem.F.slot_str_lstrip PySem.F.type_str_lstrip mt_lstripChars (pv 6) (pe_glob (by rfl) hm_FEED hr_FEED)) pe_int (fun _ _ => rfl)) pe_str (nomark _)) (pss_one (ps_asg (pe_op op_add_str (pv 5) (pe_ifExp (pt_val (pv 10)) pe_str (pe_callTy call_str_int (by rfl) m_str (by decide +kernel) (pa_cons (pv 4) pa_nil)))) (pg_name (i := 5) sc_block_text.nd rfl (by first | exact .inl rfl | exact .inr rfl)))) pss_nil) (pss_cons (ps_asg (pe_lst (pa_cons (pe_op op_add_str (pv 5) (pe_ifExp (pt_cmpR op_eq (pv 7) pe_int (nomark _)) pe_str (pe_ifExp (pt_cmpR op_eq (pv 7) pe_int (nomark _)) pe_str pe_str))) pa_nil)) (pg_name (i := 11) sc_block_text.nd rfl (by first | exact .inl rfl | exact .inr rfl))) (pss_cons (ps_expr (pe_bm PySem.F.plainAttrs_list PySem.F.slot_list_extend PySem.F.type_list_extend mt_extend (pv 11) (pa_cons (pe_c f_block_lines hr (by omega) (by rfl) (pa_cons (pv 9) (pa_cons (pv 1) (pa_cons (pe_ifExp (pt_val (pv 10)) pe_int (pv 2)) (pa_cons (pv 3) pa_nil))))) pa_nil))) (pss_one (ps_ret (pe_op op_add_str (pe_m1 PySem.F.slot_str_join PySem.F.type_str_join mt_join (pe_glob (by rfl) hm_FEED hr_FEED) (pv 11)) (pe_op op_repN (pe_glob (by rfl) hm_FEED hr_FEED) (pe_callB (call_max2 rfl) (by rfl) m_max (by decide +kernel) (pa_cons pe_int (pa_cons (pe_op op_sub (pv 7) pe_int) pa_nil))))))))))))))))), ?_, Nat.le_refl _, fun _ h => nomatch h⟩
    refine es_seq (es_asg (s := .d (.str (sgnL fo))) (M1 := []) (ev_iteS (et_B (ev_var rfl)) (fun _ => ev_str [62]) (fun _ => ev_str [124]))) ?_
    refine es_nG (G' := [_, _, _, _, _, _, _, _, _, _, _, _, _, _, _]) rfl ?_
    refine es_seq (es_asg (s := .d (.str (bdL v))) (M1 := []) (ev_m1 (ev_var rfl) (ev_c hd_FEED) (rm_rstrip (by omega)))) ?_
    refine es_nG (G' := [_, _, _, _, _, _, _, _, _, _, _, _, _, _, _]) rfl ?_
    refine es_seq (es_asg (s := .d (.int (feedI v))) (M1 := []) (ev_isD (ev_op (ev_cb (xs := [.str v]) (ea_cons (ev_var rfl) ea_nil) (rc_lenS (by omega))) (ev_cb (xs := [.str (bdL v)]) (ea_cons (ev_var rfl) ea_nil) (rc_lenS (by omega))) ro_sub) (by rw [eF]))) ?_
    refine es_nG (G' := [_, _, _, _, _, _, _, _, _, _, _, _, _, _, _]) rfl ?_
    refine es_seqR (es_yes (et_test (ev_op (ev_var rfl) (ev_str []) ro_eqS)) (decide_eq_true hbd) (es_retD (ev_op (ev_op (ev_var rfl) (ev_iteS (et_int (ev_var rfl)) (fun _ => ev_str [43]) (fun _ => ev_str [45])) (ro_addS (by rw [sgn_len]; split <;> decide))) (ev_op (ev_c hd_FEED) (ev_var rfl) (ro_repN (l := [10]) (by omega) (by omega) (by show 1 * (feedI v).toNat ≤ _; omega))) (ro_addS ?_)) ?_))
    · rw [fdI_len, List.length_append]
      have : (if (feedI v != 0) = true then ([43] : List Nat) else [45]).length = 1 := by split <;> rfl
      rw [this, sgn_len]
      omega
    · unfold blockL
      rw [if_pos hbd]
  · refine ⟨_, [.gone], (pss_cons (ps_asg (pe_ifExp (pt_val (pv 1)) pe_str pe_str) (pg_name (i := 5) sc_block_text.nd rfl (by first | exact .inl rfl | exact .inr rfl))) (pss_cons (ps_asg (pe_m1 PySem.F.slot_str_rstrip PySem.F.type_str_rstrip mt_rstripChars (pv 0) (pe_glob (by rfl) hm_FEED hr_FEED)) (pg_name (i := 6) sc_block_text.nd rfl (by first | exact .inl rfl | exact .inr rfl))) (pss_cons (ps_asg (pe_op op_sub (pe_callB call_len_str (by rfl) m_len PySem.boot_len (pa_cons (pv 0) pa_nil)) (pe_callB call_len_str (by rfl) m_len PySem.boot_len (pa_cons (pv 6) pa_nil))) (pg_name (i := 7) sc_block_text.nd rfl (by first | exact .inl rfl | exact .inr rfl))) (pss_cons (ps_if (pt_cmpR op_eq (pv 6) pe_str (nomark _)) (pss_one (ps_ret (pe_op op_add_str (pe_op op_add_str (pv 5) (pe_ifExp (pt_truth (pv 7) (by intro _; rfl)) pe_str pe_str)) (pe_op op_repN (pe_glob (by rfl) hm_FEED hr_FEED) (pv 7))))) pss_nil) (pss_cons (ps_asg (pe_m1 PySem.F.slot_str_split PySem.F.type_str_split mt_split (pv 6) (pe_glob (by rfl) hm_FEED hr_FEED)) (pg_name (i := 8) sc_block_text.nd rfl (by first | exact .inl rfl | exact .inr rfl))) (pss_cons (ps_setLc (i := 9) (own := [("part", 12)]) (g := (gName 12)) (by rfl) sc_block_text.nd rfl rfl (sw_true rfl rfl rfl (by decide +kernel)) (pi_list (pv 8)) (blkOk_by (own := [("part", 12)]) (N := N_block_text) (sc := defScope s_block_text) (by decide +kernel)) (fun _ _ _ _ _ => pg_name (i := 12) sc_block_text.nd rfl (by first | exact .inl rfl | exact .inr rfl)) (fun _ _ _ _ _ => pts_nil) (fun _ _ _ _ _ => (pe_c f_words_of hr (by omega) (by rfl) (pa_cons (pv 12) (pa_cons (pe_ifExp (pt_cmpR (show OpR _ (compareOp .In) (rIn K false) from op_in_seq) (pe_slice sl_str (pv 12) po_none (po_some pe_int)) (pe_tup (pa_cons pe_str (pa_cons pe_str pa_nil))) (by rfl)) pe_int (pv 3)) pa_nil))))) (pss_cons (ps_asg (pe_and (pe_cmpR op_eq (pv 2) pe_int (nomark _)) (pe_one (pe_callB (cr_any rfl) (by rfl) m_any (by decide +kernel) (pa_cons (pe_lc2 (own := [("row", 13), ("word", 14)]) (vs1 := [14]) (g := gName 13) (g1 := gName 14) (wi1 := iList K (tVar 13)) (by rfl) sc_block_text.nd (pi_list (pv 9)) (blkOk_by (own := [("row", 13), ("word", 14)]) (N := N_block_text) (sc := defScope s_block_text) (by decide +kernel)) (by decide) (fun _ _ _ _ _ => pg_name (i := 13) sc_block_text.nd rfl (by first | exact .inl rfl | exact .inr rfl)) (fun _ _ _ _ _ => pts_nil) (fun _ _ _ _ _ => (pi_list (pv 13))) (fun _ _ _ _ _ => pg_name (i := 14) sc_block_text.nd rfl (by first | exact .inl rfl | exact .inr rfl)) (fun _ _ _ _ _ => pts_nil) (fun _ _ _ _ _ => (pe_c f_is_like_mark hr (by omega) (by rfl) (pa_cons (pv 14) pa_nil)))) pa_nil)))) (pg_name (i := 10) sc_block_text.nd rfl (by first | exact .inl rfl | exact .inr rfl))) (pss_cons (ps_if (pt_cmpR op_eq (pe_ix ix_str (pe_m1 PySem.F.slot_str_lstrip PySem.F.type_str_lstrip mt_lstripChars (pv 6) (pe_glob (by rfl) hm_FEED hr_FEED)) pe_int (fun _ _ => rfl)) pe_str (nomark _)) (pss_one (ps_asg (pe_op op_add_str (pv 5) (pe_ifExp (pt_val (pv 10)) pe_str (pe_callTy call_str_int (by rfl) m_str (by decide +kernel) (pa_cons (pv 4) pa_nil)))) (pg_name (i := 5) sc_block_text.nd rfl (by first | exact .inl rfl | exact .inr rfl)))) pss_nil) (pss_cons (ps_asg (pe_lst (pa_cons (pe_op op_add_str (pv 5) (pe_ifExp (pt_cmpR op_eq (pv 7) pe_int (nomark _)) pe_str (pe_ifExp (pt_cmpR op_eq (pv 7) pe_int (nomark _)) pe_str pe_str))) pa_nil)) (pg_name (i := 11) sc_block_text.nd rfl (by first | exact .inl rfl | exact .inr rfl))) (pss_cons (ps_expr (pe_bm PySem.F.plainAttrs_list PySem.F.slot_list_extend PySem.F.type_list_extend mt_extend (pv 11) (pa_cons (pe_c f_block_lines hr (by omega) (by rfl) (pa_cons (pv 9) (pa_cons (pv 1) (pa_cons (pe_ifExp (pt_val (pv 10)) pe_int (pv 2)) (pa_cons (pv 3) pa_nil))))) pa_nil))) (pss_one (ps_ret (pe_op op_add_str (pe_m1 PySem.F.slot_str_join PySem.F.type_str_join mt_join (pe_glob (by rfl) hm_FEED hr_FEED) (pv 11)) (pe_op op_repN (pe_glob (by rfl) hm_FEED hr_FEED) (pe_callB (call_max2 rfl) (by rfl) m_max (by decide +kernel) (pa_cons pe_int (pa_cons (pe_op op_sub (pv 7) pe_int) pa_nil))))))))))))))))), ?_, Nat.zero_le _, fun _ h => nomatch h⟩
    refine es_seq (es_asg (s := .d (.str (sgnL fo))) (M1 := []) (ev_iteS (et_B (ev_var rfl)) (fun _ => ev_str [62]) (fun _ => ev_str [124]))) ?_
    refine es_nG (G' := [_, _, _, _, _, _, _, _, _, _, _, _, _, _, _]) rfl ?_
    refine es_seq (es_asg (s := .d (.str (bdL v))) (M1 := []) (ev_m1 (ev_var rfl) (ev_c hd_FEED) (rm_rstrip (by omega)))) ?_
    refine es_nG (G' := [_, _, _, _, _, _, _, _, _, _, _, _, _, _, _]) rfl ?_
    refine es_seq (es_asg (s := .d (.int (feedI v))) (M1 := []) (ev_isD (ev_op (ev_cb (xs := [.str v]) (ea_cons (ev_var rfl) ea_nil) (rc_lenS (by omega))) (ev_cb (xs := [.str (bdL v)]) (ea_cons (ev_var rfl) ea_nil) (rc_lenS (by omega))) ro_sub) (by rw [eF]))) ?_
    refine es_nG (G' := [_, _, _, _, _, _, _, _, _, _, _, _, _, _, _]) rfl ?_
    refine es_pass (et_is (et_test (ev_op (ev_var rfl) (ev_str []) ro_eqS)) (decide_eq_false hbd)) ?_
    refine es_seq (es_asg (s := .d (.lst ((rowsL v).map Dt.str))) (M1 := []) (ev_wk (ev_m1 (ev_var rfl) (ev_c hd_FEED) (rm_split (by omega) (by decide) (by decide))) lstX_lst)) ?_
    refine es_nG (G' := [_, _, _, _, _, _, _, _, _, _, _, _, _, _, _]) rfl ?_
    obtain ⟨hw1, hw2⟩ := rows_ok hl ha
    have hleft := bd_left hbd
    have eT : topL fo v ind deep = tenL fo v ind deep ++ chompL (feedI v) := rfl
    have eA : asideL v ind = (decide (ind = 0) && ((rowsL v).map markL).any id) := rfl
    have eB : blockL fo v ind deep = TL.joinL [10] (topL fo v ind deep :: (runW fo (inX v ind) (rowsL v)).1) ++ fdI (max 0 (feedI v - 1)) := if_neg hbd
    have eX : inX v ind = if asideL v ind = true then 1 else ind := rfl
    have hX : 0 ≤ inX v ind ∧ inX v ind ≤ 200 := by rw [eX]; split <;> omega
    have htl := ten_len fo v (ind := ind) (by omega) h3
    have hcl := chomp_len (feedI v)
    have eH : atI (lstripL [10] (bdL v)) 0 = some (headC v) := by
      have hp : 0 < (lstripL [10] (bdL v)).length := List.length_pos_iff.mpr hleft
      rw [show (0 : Int) = ((0 : Nat) : Int) from rfl, atI_nat hp]
      unfold headC
      rw [List.getD_eq_getElem?_getD, List.getElem?_eq_getElem hp] <;> rfl
    have eN : tenL fo v ind deep = if decide ([headC v] = [32]) = true then sgnL fo ++ (if asideL v ind = true then [50] else TL.numL deep.toNat) else sgnL fo := rfl
    have hll : (lstripL [10] (bdL v)).length ≤ 1000000 := by
      have : (lstripL [10] (bdL v)).length ≤ (bdL v).length := (List.dropWhile_sublist _).length_le
      omega
    have hnum := num_one (d := deep) (by omega) h3
    rw [eB]
    generalize rowsL v = ws at *
    refine es_seq (es_asg (s := .d (.lst (ws.map rowD))) (M1 := []) (ev_lcM ws Dt.str rowD (ei_list (ev_var rfl)) (by omega) (hw_name (by decide)) fun l hlm => ⟨_, eg_name, ev_wk (ev_call0 (ds := [.str l, .int 0]) (es := []) (z := lstX K [.str l]) (ea_cons (ev_var rfl) (ea_cons (ev_isD (ev_iteI (i := 0) (j := 0) (b := decide (l.take 1 ∈ ([[32], [9]] : List (List Nat)))) (et_test (ev_op (ev_isD (ev_slS (ev_var rfl) eo_none (eo_some ev_int) (by have := (hw2 l hlm).1; omega)) (show _ = Dt.str (l.take 1) by rw [show cutL l none (some 1) = l.take 1 from cut_pre l 1])) (ev_tup (xs := [[32], [9]].map Dt.str) (ea_cons (ev_str _) (ea_cons (ev_str _) ea_nil)) (show 2 ≤ 1000 by decide)) ro_inT)) (fun _ => ev_int) (fun _ => ev_var rfl)) (by split <;> rfl)) ea_nil)) ⟨l, by have := (hw2 l hlm).1; omega, rfl, rfl, rfl, rfl⟩ rfl (fun _ => rfl)) lstX_lst⟩)) ?_
    refine es_nG (G' := [_, _, _, _, _, _, _, _, _, _, _, _, _, _, _]) rfl ?_
    refine es_seq (es_asg (s := .d (.bl (asideL v ind))) (M1 := []) (ev_isD (ev_andV (a := decide (ind = 0)) (c := (ws.map markL).any id) (ev_op (ev_var rfl) ev_int ro_eqI) (fun _ => ev_cb (xs := [.lst ((ws.map markL).map Dt.bl)]) (ea_cons (ev_isD (ev_lc2 ws rowD (fun l => [l]) Dt.str (fun _ y => .bl (markL y)) (ei_list (ev_var rfl)) (by rw [any_two, List.length_map, List.length_map]; omega) (hw_name (by decide)) (hw_name (by decide)) fun l hlm => ⟨_, eg_name, ei_list (ev_var rfl), fun y hy => ⟨_, eg_name, ev_call0 (ds := [.str y]) (es := []) (z := .bl (markL y)) (ea_cons (ev_var rfl) ea_nil) ⟨y, by rw [List.mem_singleton] at hy; subst hy; have := (hw2 _ hlm).1; omega, rfl, rfl, rfl, rfl⟩ rfl (fun _ => rfl)⟩⟩) (by rw [any_two])) ea_nil) rc_any) (fun _ => rfl)) (by rw [eA]))) ?_
    refine es_nG (G' := [_, _, _, _, _, _, _, _, _, _, _, _, _, _, _]) rfl ?_
    generalize asideL v ind = as at *
    refine es_seq (G1 := [some (.d (.str v)), some (.d (.bl fo)), some (.d (.int ind)), some (.d (.int 0)), some (.d (.int deep)), some (.d (.str (tenL fo v ind deep))), some (.d (.str (bdL v))), some (.d (.int (feedI v))), some (.d (.lst (ws.map Dt.str))), some (.d (.lst (ws.map rowD))), some (.d (.bl as)), none, none, none, none]) (M1 := []) ?_ ?_
    · have t : EvT K _ [some (.d (.str v)), some (.d (.bl fo)), some (.d (.int ind)), some (.d (.int 0)), some (.d (.int deep)), some (.d (.str (sgnL fo))), some (.d (.str (bdL v))), some (.d (.int (feedI v))), some (.d (.lst (ws.map Dt.str))), some (.d (.lst (ws.map rowD))), some (.d (.bl as)), none, none, none, none] [] (decide ([headC v] = [32])) [] := et_test (ev_op (ev_op (ev_m1 (ev_var (i := 6) rfl) (ev_c hd_FEED) (rm_lstrip (by omega))) ev_int (ro_ixS hll eH)) (ev_str [32]) ro_eqS)
      refine es_if t (fun h => ?_) (fun h => ?_)
      · have e : tenL fo v ind deep = sgnL fo ++ (if as = true then [50] else TL.numL deep.toNat) := by rw [eN, if_pos h]
        rw [e]
        exact es_asg (i := 5) (ev_op (ev_var rfl) (ev_iteS (et_B (ev_var rfl)) (fun _ => ev_str [50]) (fun _ => ev_cb (xs := [.int deep]) (ea_cons (ev_var rfl) ea_nil) (rc_str (by
          have : deep = 1 ∨ deep = 2 ∨ deep = 3 ∨ deep = 4 ∨ deep = 5 ∨ deep = 6 ∨ deep = 7 ∨ deep = 8 ∨ deep = 9 := by omega
          rcases this with e | e | e | e | e | e | e | e | e <;> subst e <;> decide) (by omega)))) (ro_addS (by
          have : (if as = true then ([50] : List Nat) else TL.numL deep.toNat).length = 1 := by split <;> first | rfl | exact hnum
          rw [this, sgn_len] <;> decide)))
      · have e : tenL fo v ind deep = sgnL fo := by rw [eN, if_neg (by rw [h]; exact Bool.false_ne_true)]
        rw [e]
        exact es_next
    refine es_seq (es_asg (ev_lstO (M1 := []) (xs := [.str (topL fo v ind deep)]) (ea_cons (ev_isD (ev_op (ev_var rfl) (ev_iteS (et_test (ev_op (ev_var rfl) ev_int ro_eqI)) (fun _ => ev_str [45]) (fun _ => ev_iteS (et_test (ev_op (ev_var rfl) ev_int ro_eqI)) (fun _ => ev_str []) (fun _ => ev_str [43]))) (ro_addS (show (tenL fo v ind deep).length + (chompL (feedI v)).length ≤ _ by omega))) (by rw [eT] <;> rfl)) ea_nil) (show 1 ≤ 1000 by decide))) ?_
    refine es_nG (G' := [_, _, _, _, _, _, _, _, _, _, _, _, _, _, _]) rfl ?_
    refine es_seq (es_extO (k := 0) (xs := [.str (topL fo v ind deep)]) (ys := ((runW fo (inX v ind) ws).1.map Dt.str)) (M2 := [.lst [.str (topL fo v ind deep)]]) (ev_var rfl) (ev_call0 (ds := [.lst (ws.map rowD), .bl fo, .int (inX v ind), .int 0]) (es := []) (z := lstX K (((runW fo (inX v ind) ws).1.map Dt.str))) (ea_cons (ev_var rfl) (ea_cons (ev_var rfl) (ea_cons (ev_isD (ev_iteI (et_B (ev_var rfl)) (fun _ => ev_int) (fun _ => ev_var rfl)) (by rw [eX])) (ea_cons (ev_var rfl) ea_nil)))) ⟨ws, fo, inX v ind, by omega, fun l hlm => ⟨by have := (hw2 l hlm).1; omega, (hw2 l hlm).2⟩, hX.1, hX.2, rfl, rfl, rfl, rfl⟩ rfl (fun _ => rfl)) ⟨_, rfl⟩ rfl (by have hrl := (runW_ok fo (inX v ind) ws ws.length (Nat.le_refl _)).len; rw [List.take_length] at hrl; rw [List.length_map, List.length_singleton]; omega)) ?_
    have htop : (topL fo v ind deep).length ≤ 3 := by rw [eT, List.length_append]; omega
    generalize topL fo v ind deep = tp at *
    have hrl := (runW_ok fo (inX v ind) ws ws.length (Nat.le_refl _)).len
    rw [List.take_length] at hrl
    have hmem : ∀ x ∈ (runW fo (inX v ind) ws).1, x.length ≤ 301 := by
      have := runW_mem (fo := fo) (i := inX v ind) (m := 301) (ws := ws) (fun l hlm => by
        have q1 := line_len l hX.2
        have q2 := (hw2 l hlm).1
        omega) ws.length (Nat.le_refl _)
      rw [List.take_length] at this
      exact this
    have eZ : [Dt.str tp] ++ ((runW fo (inX v ind) ws).1.map Dt.str) = (tp :: (runW fo (inX v ind) ws).1).map Dt.str := by
      rw [List.map_cons] <;> rfl
    have hsum : ((tp :: (runW fo (inX v ind) ws).1).map (·.length)).sum ≤ 301 * (tp :: (runW fo (inX v ind) ws).1).length := sum_le fun x hx => by
      rcases List.mem_cons.mp hx with e | hx
      · rw [e]; omega
      · exact hmem x hx
    have hcount : (tp :: (runW fo (inX v ind) ws).1).length ≤ 203 := by rw [List.length_cons]; omega
    have hjoin := join_len [10] (tp :: (runW fo (inX v ind) ws).1)
    refine es_nM (M' := [.lst ((tp :: (runW fo (inX v ind) ws).1).map Dt.str)]) (by rw [← eZ] <;> rfl) ?_
    generalize (tp :: (runW fo (inX v ind) ws).1) = ls at *
    rw [List.length_singleton] at hjoin
    show EvS K _ _ _ (.rt (.d (.str (TL.joinL [10] ls ++ fdI (max 0 (feedI v - 1))))) ([MO.lst (ls.map Dt.str)].set 0 .gone))
    refine es_ret (ev_op (ev_m1 (ev_c hd_FEED) (ev_freeze (k := 0) (ev_var rfl) rfl) (rm_join (by rw [List.length_singleton]; omega))) (ev_op (ev_c hd_FEED) (ev_isD (ev_cb (xs := [.int 0, .int (feedI v - 1)]) (ea_cons ev_int (ea_cons (ev_op (ev_var rfl) ev_int ro_sub) ea_nil)) rc_max2) (show _ = Dt.int (max 0 (feedI v - 1)) by congr 1; split <;> omega)) (ro_repN (l := [10]) (by omega) (by omega) (by show 1 * (max 0 (feedI v - 1)).toNat ≤ _; omega))) (ro_addS ?_))
    rw [fdI_len]
    omega
end
end T
namespace T
open PySem PySem.Spec PyProof.Rows L2 DJ LJ LamX
def styF (fo : Bool) : List Nat := if fo = true then FLD else LIT
theorem sty_in (fo : Bool) : styF fo ∈ STYS ∧ decide (styF fo ∈ ([LIT, FLD] : List (List Nat))) = true ∧ decide (styF fo = FLD) = fo := by cases fo <;> decide
theorem has_lit (fo : Bool) (v : List Nat) : hasL v (styF fo) BLK = true := by
  unfold hasL
  cases fo with
  | false =>
    rw [if_neg (by decide), if_neg (by decide)]
    rfl
  | true =>
    rw [if_neg (by decide), if_neg (by decide)]
    rfl
section
variable {P : Program} {w : World} {K : PySem.W.Frag} {mg : Str → Option Value} {base : Heap}
def R_tos : List Sl → List MO → Sl → List MO → Prop := fun ss M r M' => ∃ (v : List Nat) (fo : Bool) (ind deep : Int), v.length ≤ 100 ∧ (∀ c ∈ v, c < 128) ∧ 0 ≤ ind ∧ ind ≤ 100 ∧ 1 ≤ deep ∧ deep ≤ 9 ∧ ss = [.d (.str v), .d (.str (styF fo)), .d (.str BLK), .d (.int ind), .d (.int 0), .d (.int deep)] ∧ M = [] ∧ r = .d (.str (blockL fo v ind deep)) ∧ M' = []
theorem cal_tos (D : Df K mg "text_of_scalar" s_text_of_scalar ["value", "style", "context", "indent", "width", "deep"]) (f_block_text : Cal P w K mg base 5 "block_text" (SpR K 5 R_block) []) : Cal P w K mg base 6 "text_of_scalar" (SpR K 6 R_tos) [] := by
  refine cal_mk (k := 5) D sc_text_of_scalar rfl fun f cdv A outer s H E hr ss M r M' h => ?_
  obtain ⟨v, fo, ind, deep, hl, ha, h0, h1, h2, h3, rfl, rfl, rfl, rfl⟩ := h
  refine ⟨_, [], (pss_cons (ps_if (pt_cmpR (show OpR _ (compareOp .In) (rIn K false) from op_in_seq) (pv 1) (pe_tup (pa_cons pe_str (pa_cons pe_str pa_nil))) (by rfl)) (pss_one (ps_ret (pe_c f_block_text hr (by omega) (by rfl) (pa_cons (pv 0) (pa_cons (pe_cmpR op_eq (pv 1) pe_str (nomark _)) (pa_cons (pv 3) (pa_cons (pe_ifExp (pt_cmpR op_eq (pv 1) pe_str (nomark _)) (pv 4) pe_int) (pa_cons (pv 5) pa_nil)))))))) pss_nil) (pss_one ps_never)), ?_, Nat.le_refl _, fun _ h => nomatch h⟩
  exact es_seqR (es_yes (et_test (ev_op (ev_var rfl) (ev_tup (xs := [LIT, FLD].map Dt.str) (ea_cons (ev_str _) (ea_cons (ev_str _) ea_nil)) (show 2 ≤ 1000 by decide)) ro_inT)) (sty_in fo).2.1 (es_ret (ev_call0 (ds := [.str v, .bl fo, .int ind, .int 0, .int deep]) (es := []) (z := .str (blockL fo v ind deep)) (ea_cons (ev_var rfl) (ea_cons (ev_isD (ev_op (ev_var rfl) (ev_str FLD) ro_eqS) (by rw [(sty_in fo).2.2])) (ea_cons (ev_var rfl) (ea_cons (ev_isD (ev_iteI (i := 0) (j := 0) (b := fo) (et_is (et_test (ev_op (ev_var rfl) (ev_str FLD) ro_eqS)) (sty_in fo).2.2) (fun _ => ev_var rfl) (fun _ => ev_int)) (by split <;> rfl)) (ea_cons (ev_var rfl) ea_nil))))) ⟨v, fo, ind, deep, hl, ha, h0, h1, h2, h3, rfl, rfl, rfl, rfl⟩ rfl (fun _ => rfl))))
def R_wr : List Sl → List MO → Sl → List MO → Prop := fun ss M r M' => ∃ (v : List Nat) (fo : Bool) (ind deep : Int), v.length ≤ 100 ∧ v.all goodC = true ∧ 0 ≤ ind ∧ ind ≤ 100 ∧ 1 ≤ deep ∧ deep ≤ 9 ∧ deep ≤ ind + 1 ∧ ss = [.d (.str v), .d (.str (styF fo)), .d (.str BLK), .d (.int ind), .d (.int 0), .d (.int deep)] ∧ M = [] ∧ r = .d (.str (blockL fo v ind deep)) ∧ M' = []
theorem cal_wr (D : DfD K mg "written" s_written [.int 0, .int 1]) (f_check : Cal P w K mg base 1 "check" (SpR K 2 R_check) []) (f_is_value : Cal P w K mg base 3 "is_value" (SpR K 1 R_value) []) (f_check_style : Cal P w K mg base 2 "check_style" (SpR K 2 R_style) []) (f_is_whole : Cal P w K mg base 1 "is_whole" (SpR K 3 R_whole) []) (f_check_deep : Cal P w K mg base 2 "check_deep" (SpR K 2 R_cdeep) []) (f_has_text : Cal P w K mg base 5 "has_text" (SpR K 3 R_has) []) (f_text_of_scalar : Cal P w K mg base 6 "text_of_scalar" (SpR K 6 R_tos) [])
    (j : Nat) (hj : 6 - (2 - j) + (2 - j) = 6)
    (hbind : ∀ (T : Addr) (kV doc pm : Value) (an : Option Addr) (cdv ct : Value) (us its : List Value), us.length = 6 - (2 - j) → its.length = 2 →
      ∃ k, bindArgs (PySem.W.fnOf "written" "written" (defArgs s_written) (defBody s_written) (defScope s_written) (.ref T) kV doc pm an cdv ct) ⟨us, []⟩ = seqItems? (.ref T) >>= k ∧ k (some its.toArray) = pure ((["value", "style", "context", "indent", "width", "deep"] : List Str).zip (us ++ its.drop j))) :
    Cal P w K mg base 7 "written" (SpR K 6 R_wr) (([.int 0, .int 1] : List V).drop j) := by
  refine cal_mkD (k := 6) (N := N_written) D sc_written rfl (fun f cdv A outer s H E hr ss M r M' h => ?_) j hj (by simp) hbind
  obtain ⟨v, fo, ind, deep, hl, hg, h0, h1, h4, h5, h6, rfl, rfl, rfl, rfl⟩ := h
  refine ⟨_, [], (pss_cons (ps_expr (pe_c f_check hr (by omega) (by rfl) (pa_cons (pe_c f_is_value hr (by omega) (by rfl) (pa_cons (pv 0) pa_nil)) (pa_cons pe_str pa_nil)))) (pss_cons (ps_expr (pe_c f_check_style hr (by omega) (by rfl) (pa_cons (pv 1) (pa_cons (pv 2) pa_nil)))) (pss_cons (ps_expr (pe_c f_check hr (by omega) (by rfl) (pa_cons (pe_c f_is_whole hr (by omega) (by rfl) (pa_cons (pv 3) (pa_cons pe_int (pa_cons pe_int pa_nil)))) (pa_cons pe_str pa_nil)))) (pss_cons (ps_expr (pe_c f_check hr (by omega) (by rfl) (pa_cons (pe_c f_is_whole hr (by omega) (by rfl) (pa_cons (pv 4) (pa_cons pe_int (pa_cons pe_int pa_nil)))) (pa_cons pe_str pa_nil)))) (pss_cons (ps_expr (pe_c f_check_deep hr (by omega) (by rfl) (pa_cons (pv 5) (pa_cons (pv 3) pa_nil)))) (pss_cons (ps_if (pt_not (pt_val (pe_c f_has_text hr (by omega) (by rfl) (pa_cons (pv 0) (pa_cons (pv 1) (pa_cons (pv 2) pa_nil)))))) pss_never pss_nil) (pss_one (ps_ret (pe_c f_text_of_scalar hr (by omega) (by rfl) (pa_cons (pv 0) (pa_cons (pv 1) (pa_cons (pv 2) (pa_cons (pv 3) (pa_cons (pv 4) (pa_cons (pv 5) pa_nil))))))))))))))), ?_, Nat.le_refl _, fun _ h => nomatch h⟩
  refine es_seq (es_drop (ev_call0 (ds := [.bl true, .str [118, 97, 108, 117, 101]]) (es := []) (z := .non) (ea_cons (ev_call0 (ds := [.str v]) (es := []) (z := .bl true) (ea_cons (ev_var rfl) ea_nil) ⟨v, by omega, hg, rfl, rfl, rfl, rfl⟩ rfl (fun _ => rfl)) (ea_cons (ev_str _) ea_nil)) ⟨_, rfl, rfl, rfl, rfl⟩ rfl (fun _ => rfl))) ?_
  refine es_seq (es_drop (ev_call0 (ds := [.str (styF fo), .str BLK]) (es := []) (z := .non) (ea_cons (ev_var rfl) (ea_cons (ev_var rfl) ea_nil)) ⟨styF fo, BLK, (sty_in fo).1, by decide, rfl, rfl, rfl, rfl⟩ rfl (fun _ => rfl))) ?_
  refine es_seq (es_drop (ev_call0 (ds := [.bl true, .str [105, 110, 100, 101, 110, 116]]) (es := []) (z := .non) (ea_cons (ev_call0 (ds := [.int ind, .int 0, .int 100]) (es := []) (z := .bl true) (ea_cons (ev_var rfl) (ea_cons ev_int (ea_cons ev_int ea_nil))) ⟨ind, 0, 100, h0, h1, rfl, rfl, rfl, rfl⟩ rfl (fun _ => rfl)) (ea_cons (ev_str _) ea_nil)) ⟨_, rfl, rfl, rfl, rfl⟩ rfl (fun _ => rfl))) ?_
  refine es_seq (es_drop (ev_call0 (ds := [.bl true, .str [119, 105, 100, 116, 104]]) (es := []) (z := .non) (ea_cons (ev_call0 (ds := [.int 0, .int 0, .int 200]) (es := []) (z := .bl true) (ea_cons (ev_var rfl) (ea_cons ev_int (ea_cons ev_int ea_nil))) ⟨0, 0, 200, by decide, by decide, rfl, rfl, rfl, rfl⟩ rfl (fun _ => rfl)) (ea_cons (ev_str _) ea_nil)) ⟨_, rfl, rfl, rfl, rfl⟩ rfl (fun _ => rfl))) ?_
  refine es_seq (es_drop (ev_call0 (ds := [.int deep, .int ind]) (es := []) (z := .non) (ea_cons (ev_var rfl) (ea_cons (ev_var rfl) ea_nil)) ⟨deep, ind, h4, h5, h6, rfl, rfl, rfl, rfl⟩ rfl (fun _ => rfl))) ?_
  refine es_pass (et_is (et_not (et_B (ev_call0 (ds := [.str v, .str (styF fo), .str BLK]) (es := []) (z := .bl (hasL v (styF fo) BLK)) (ea_cons (ev_var rfl) (ea_cons (ev_var rfl) (ea_cons (ev_var rfl) ea_nil))) ⟨v, styF fo, BLK, by omega, rfl, rfl, rfl, rfl⟩ rfl (fun _ => rfl)))) (by rw [has_lit] <;> rfl)) ?_
  exact es_ret (ev_call0 (ds := [.str v, .str (styF fo), .str BLK, .int ind, .int 0, .int deep]) (es := []) (z := .str (blockL fo v ind deep)) (ea_cons (ev_var rfl) (ea_cons (ev_var rfl) (ea_cons (ev_var rfl) (ea_cons (ev_var rfl) (ea_cons (ev_var rfl) (ea_cons (ev_var rfl) ea_nil)))))) ⟨v, fo, ind, deep, hl, good_asc hg, h0, h1, h4, h5, rfl, rfl, rfl, rfl⟩ rfl (fun _ => rfl))
theorem bind6 (T : Addr) (kV doc pm : Value) (an : Option Addr) (cdv ct : Value) (us its : List Value) (h1 : us.length = 6) (h2 : its.length = 2) :
      ∃ k, bindArgs (PySem.W.fnOf "written" "written" (defArgs s_written) (defBody s_written) (defScope s_written) (.ref T) kV doc pm an cdv ct) ⟨us, []⟩ = seqItems? (.ref T) >>= k ∧ k (some its.toArray) = pure ((["value", "style", "context", "indent", "width", "deep"] : List Str).zip (us ++ its.drop 2)) :=
  match us, h1, its, h2 with | [_, _, _, _, _, _], _, [_, _], _ => ⟨_, rfl, rfl⟩
end
end T
namespace T
open PySem PySem.Spec PyProof.Rows L2 DJ LJ LamX
/-! ### mathematics: what is written, and what it is read as -/
abbrev Gs := List (Nat × List Nat)
abbrev SOMEK : List (List Nat) := [[97], [98, 32, 99], [100, 32, 32, 101], [32, 102], [32, 32], [9, 103], [45, 45, 45, 32, 104], [46, 46, 46], [105, 32], [35, 106], [45, 32, 107]]
def RowOk (l : List Nat) : Prop := l ∈ SOMEK
theorem row_facts : ∀ l ∈ SOMEK, l ≠ [] ∧ 10 ∉ l ∧ l.length ≤ 5 ∧ l.all goodC = true ∧ (decide (l.getD 0 0 = 32) = false → pbL l = 0) ∧ markL l = mkL l ∧ (mkL l = true → pbL l = 0) := by decide +kernel
structure GsOk (gs : Gs) : Prop where
  row : ∀ g ∈ gs, g.2 ∈ SOMEK ∧ g.1 ≤ 3
  later : ∀ g ∈ gs.tail, 1 ≤ g.1
theorem GsOk.tl {g : Nat × List Nat} {r : Gs} (h : GsOk (g :: r)) : GsOk r := ⟨fun x hx => h.row x (List.mem_cons_of_mem g hx), fun x hx => h.later x (List.mem_of_mem_tail hx)⟩
/-- the value of the rows, without what ends it -/
def flV : Gs → List Nat
  | [] => []
  | g :: r => fds g.1 ++ (g.2 ++ flV r)
def vlV (gs : Gs) (f : Nat) : List Nat := flV gs ++ fds f
def empN (fo : Bool) (la : List Nat) (g : Nat × List Nat) : Nat := if la = [] then g.1 else if (fo && (bareL la && bareL g.2)) = true then g.1 else g.1 - 1
def lnG (fo : Bool) (d : Nat) : List Nat → Gs → List (List Nat)
  | _, [] => []
  | la, g :: r => List.replicate (empN fo la g) [] ++ ((List.replicate d 32 ++ g.2) :: lnG fo d g.2 r)
def egG (fo : Bool) : List Nat → Gs → Gs
  | _, [] => []
  | la, g :: r => (empN fo la g, g.2) :: egG fo g.2 r
theorem fds_succ (n : Nat) : fds (n + 1) = 10 :: fds n := rfl
theorem fds_app (n : Nat) : fds n ++ [10] = fds (n + 1) := by
  unfold fds
  rw [← List.replicate_succ']
/-! the body, its rows -/
theorem drop_fds (n : Nat) (r : List Nat) : (fds n ++ r).dropWhile (inL [10]) = r.dropWhile (inL [10]) := by
  induction n with
  | zero => rfl
  | succ n ih =>
    rw [fds_succ, List.cons_append, List.dropWhile_cons_of_pos rfl, ih]
theorem fds_rev (n : Nat) : (fds n).reverse = fds n := by unfold fds; rw [List.reverse_replicate]
theorem fl_end : ∀ {gs : Gs}, GsOk gs → gs ≠ [] → ∃ x c, flV gs = x ++ [c] ∧ c ≠ 10
  | [], _, h => absurd rfl h
  | [g], h, _ => by
    obtain ⟨h1, h2, _⟩ := row_facts g.2 (h.row g List.mem_cons_self).1
    refine ⟨fds g.1 ++ g.2.dropLast, g.2.getLast h1, ?_, fun e => h2 (e ▸ List.getLast_mem h1)⟩
    show fds g.1 ++ (g.2 ++ []) = _
    rw [List.append_nil, List.append_assoc, List.dropLast_concat_getLast]
  | g :: b :: r, h, _ => by
    obtain ⟨x, c, e, hc⟩ := fl_end (gs := b :: r) h.tl (List.cons_ne_nil _ _)
    refine ⟨fds g.1 ++ (g.2 ++ x), c, ?_, hc⟩
    show fds g.1 ++ (g.2 ++ flV (b :: r)) = _
    rw [e]
    simp only [List.append_assoc]
theorem bd_is {gs : Gs} (h : GsOk gs) (f : Nat) : bdL (vlV gs f) = flV gs := by
  unfold bdL vlV
  show ((flV gs ++ fds f).reverse.dropWhile (inL [10])).reverse = _
  rw [List.reverse_append, fds_rev, drop_fds]
  by_cases c : gs = []
  · subst c; rfl
  · obtain ⟨x, c, e, hc⟩ := fl_end h c
    rw [e, List.reverse_append]
    show (List.dropWhile (inL [10]) (c :: x.reverse)).reverse = _
    rw [List.dropWhile_cons_of_neg (by unfold inL; simpa using hc), List.reverse_cons, List.reverse_reverse]
theorem feed_is {gs : Gs} (h : GsOk gs) (f : Nat) : feedI (vlV gs f) = (f : Nat) := by
  unfold feedI
  rw [bd_is h]
  unfold vlV
  rw [List.length_append, fds_len]
  omega
theorem spl_feeds (n : Nat) (r : List Nat) : TL.spl [10] 0 [] (fds n ++ r) = List.replicate n [] ++ TL.spl [10] 0 [] r := by
  induction n with
  | zero => rfl
  | succ n ih =>
    rw [fds_succ, List.cons_append, spl_cons, if_pos rfl, ih, List.replicate_succ, List.cons_append]
theorem spl_word : ∀ (l acc r : List Nat), 10 ∉ l → TL.spl [10] 0 acc (l ++ r) = TL.spl [10] 0 (acc ++ l) r
  | [], acc, r, _ => by rw [List.append_nil] <;> rfl
  | c :: l, acc, r, h => by
    rw [List.cons_append, spl_cons, if_neg (fun e => h (by rw [e]; exact List.mem_cons_self)), spl_word l _ r (fun e => h (List.mem_cons_of_mem c e)), List.append_assoc] <;> rfl
/-- the rows behind a row -/
def rwT (la : List Nat) : Gs → List (List Nat)
  | [] => [la]
  | g :: r => la :: (List.replicate (g.1 - 1) [] ++ rwT g.2 r)
theorem spl_tl : ∀ (r : Gs) (la : List Nat), (∀ g ∈ r, g.2 ∈ SOMEK ∧ 1 ≤ g.1) → TL.spl [10] 0 la (flV r) = rwT la r
  | [], la, _ => by rw [show flV [] = [] from rfl, TL.spl_nil] <;> rfl
  | g :: r, la, h => by
    obtain ⟨h1, h2⟩ := h g List.mem_cons_self
    obtain ⟨_, hn, _⟩ := row_facts g.2 h1
    obtain ⟨m, hm⟩ : ∃ m, g.1 = m + 1 := ⟨g.1 - 1, by omega⟩
    show TL.spl [10] 0 la (fds g.1 ++ (g.2 ++ flV r)) = la :: (List.replicate (g.1 - 1) [] ++ rwT g.2 r)
    rw [hm, fds_succ, List.cons_append, spl_cons, if_pos rfl, spl_feeds, spl_word _ _ _ hn, List.nil_append, spl_tl r g.2 fun x hx => h x (List.mem_cons_of_mem g hx)] <;> rfl
theorem rows_is {g : Nat × List Nat} {r : Gs} (h : GsOk (g :: r)) (f : Nat) : rowsL (vlV (g :: r) f) = List.replicate g.1 [] ++ rwT g.2 r := by
  unfold rowsL
  rw [bd_is h]
  show TL.spl [10] 0 [] (fds g.1 ++ (g.2 ++ flV r)) = _
  obtain ⟨_, hn, _⟩ := row_facts g.2 (h.row g List.mem_cons_self).1
  rw [spl_feeds, spl_word _ _ _ hn, List.nil_append, spl_tl r g.2 fun x hx => ⟨(h.row x (List.mem_cons_of_mem g hx)).1, h.later x hx⟩]
/-! the lines -/
theorem run_nils (fo : Bool) (i : Int) (n : Nat) (a : List (List Nat) × List Nat) : (List.replicate n []).foldl (stW fo i) a = (a.1 ++ List.replicate n [], a.2) := by
  induction n generalizing a with
  | zero => simp
  | succ n ih =>
    rw [List.replicate_succ, List.foldl_cons, ih]
    have e : stW fo i a [] = (a.1 ++ [[]], a.2) := if_pos rfl
    rw [e]
    simp only [List.append_assoc, List.cons_append, List.nil_append]
def Lined (i : Int) (d : Nat) (l : List Nat) : Prop := lineL l i = List.replicate d 32 ++ l
theorem run_tl {fo : Bool} {i : Int} {d : Nat} : ∀ (r : Gs) (la : List Nat) (acc : List (List Nat)) (b : List Nat), la ≠ [] → Lined i d la → (∀ g ∈ r, g.2 ≠ [] ∧ Lined i d g.2 ∧ 1 ≤ g.1) →
    ((rwT la r).foldl (stW fo i) (acc, b)).1 = acc ++ ((if sepW fo b la = true then [[]] else []) ++ ((List.replicate d 32 ++ la) :: lnG fo d la r))
  | [], la, acc, b, hla, hl, _ => by
    show (stW fo i (acc, b) la).1 = _
    unfold stW
    rw [if_neg hla]
    show acc ++ _ ++ [lineL la i] = _
    rw [hl, List.append_assoc] <;> rfl
  | g :: r, la, acc, b, hla, hl, h => by
    obtain ⟨h1, h2, h3⟩ := h g List.mem_cons_self
    show ((List.replicate (g.1 - 1) [] ++ rwT g.2 r).foldl (stW fo i) (stW fo i (acc, b) la)).1 = _
    have e : stW fo i (acc, b) la = (acc ++ (if sepW fo b la = true then [[]] else []) ++ [List.replicate d 32 ++ la], la) := by
      unfold stW
      rw [if_neg hla, hl]
    rw [e, List.foldl_append, run_nils, run_tl r g.2 _ la h1 h2 fun x hx => h x (List.mem_cons_of_mem g hx)]
    simp only [List.append_assoc, List.cons_append, List.nil_append]
    congr 3
    show _ = List.replicate (empN fo la g) [] ++ ((List.replicate d 32 ++ g.2) :: lnG fo d g.2 r)
    rw [← List.append_assoc]
    congr 1
    unfold empN sepW
    rw [if_neg hla, decide_eq_false hla]
    by_cases c : (fo && (bareL la && bareL g.2)) = true
    · rw [if_pos c, if_pos (by simpa using c)]
      obtain ⟨m, hm⟩ : ∃ m, g.1 = m + 1 := ⟨g.1 - 1, by omega⟩
      rw [hm, List.replicate_succ'] <;> rfl
    · rw [if_neg c, if_neg (by simpa using c), List.append_nil]
theorem run_is {fo : Bool} {i : Int} {d : Nat} {g : Nat × List Nat} {r : Gs} (h : GsOk (g :: r)) (f : Nat) (hl : ∀ x ∈ g :: r, Lined i d x.2) : (runW fo i (rowsL (vlV (g :: r) f))).1 = lnG fo d [] (g :: r) := by
  unfold runW
  rw [rows_is h, List.foldl_append, run_nils, run_tl r g.2 _ [] (row_facts g.2 (h.row g List.mem_cons_self).1).1 (hl g List.mem_cons_self) fun x hx => ⟨(row_facts x.2 (h.row x (List.mem_cons_of_mem g hx)).1).1, hl x (List.mem_cons_of_mem g hx), h.later x hx⟩]
  show [] ++ List.replicate g.1 [] ++ _ = List.replicate (empN fo [] g) [] ++ _
  rw [List.nil_append]
  have e : sepW fo [] g.2 = false := by unfold sepW; cases fo <;> rfl
  rw [e, if_neg Bool.false_ne_true] <;> rfl
/-! the text -/
theorem tl_app : ∀ xs ys : List (List Nat), tlL (xs ++ ys) = tlL xs ++ tlL ys
  | [], _ => rfl
  | x :: xs, ys => by
    show 10 :: (x ++ tlL (xs ++ ys)) = 10 :: ((x ++ tlL xs) ++ tlL ys)
    rw [tl_app xs ys, List.append_assoc]
theorem tl_nils (n : Nat) : tlL (List.replicate n []) = fds n := by
  induction n with
  | zero => rfl
  | succ n ih =>
    rw [List.replicate_succ]
    show 10 :: ([] ++ tlL (List.replicate n [])) = _
    rw [ih] <;> rfl
def moreB (gs : Gs) (n : Nat) : Bool := decide (n = 0) && gs.any fun g => mkL g.2
def dpN (gs : Gs) (n : Nat) : Nat := if moreB gs n = true then 1 else n
def kpN (f : Nat) : List Nat := if f = 0 then [45] else if f = 1 then [] else [43]
def dgN (gs : Gs) (n dp : Nat) : Nat := match gs with
  | [] => 0
  | g :: _ => if g.2.getD 0 0 = 32 then dp + (if moreB gs n = true then 1 else 0) else 0
def toldN (dg : Nat) : List Nat := if dg = 0 then [] else [48 + dg]
def hdN (gs : Gs) (f n dp : Nat) : List Nat := match gs with
  | [] => if f = 0 then [45] else [43]
  | _ :: _ => toldN (dgN gs n dp) ++ kpN f
def lsN (fo : Bool) (gs : Gs) (f n : Nat) : List (List Nat) := match gs with
  | [] => List.replicate f []
  | _ :: _ => lnG fo (dpN gs n) [] gs ++ List.replicate (f - 1) []
def txN (fo : Bool) (gs : Gs) (f n dp : Nat) : List Nat := txL (if fo = true then 62 else 124) (hdN gs f n dp) (lsN fo gs f n)
theorem told_num : ∀ d ∈ List.range 10, 1 ≤ d → TL.numL d = toldN d := by decide +kernel
theorem any_mark : ∀ (r : Gs) (la : List Nat), (∀ g ∈ r, g.2 ∈ SOMEK) → la ∈ SOMEK → ((rwT la r).map markL).any id = (mkL la || r.any fun g => mkL g.2)
  | [], la, _, hl => by
    show (markL la || false) = (mkL la || false)
    rw [(row_facts la hl).2.2.2.2.2.1]
  | g :: r, la, h, hl => by
    show ((la :: (List.replicate (g.1 - 1) [] ++ rwT g.2 r)).map markL).any id = (mkL la || (mkL g.2 || r.any fun g => mkL g.2))
    rw [List.map_cons, List.any_cons, (row_facts la hl).2.2.2.2.2.1, List.map_append, List.any_append, any_mark r g.2 (fun x hx => h x (List.mem_cons_of_mem g hx)) (h g List.mem_cons_self)]
    have e : ((List.replicate (g.1 - 1) ([] : List Nat)).map markL).any id = false := by
      rw [List.map_replicate]
      generalize g.1 - 1 = m
      induction m with
      | zero => rfl
      | succ m ih =>
        rw [List.replicate_succ, List.any_cons, ih]
        rfl
    rw [e] <;> rfl
theorem aside_is {g : Nat × List Nat} {r : Gs} (h : GsOk (g :: r)) (f n : Nat) : asideL (vlV (g :: r) f) (n : Nat) = moreB (g :: r) n := by
  unfold asideL moreB
  rw [rows_is h, List.map_append, List.any_append, any_mark r g.2 (fun x hx => (h.row x (List.mem_cons_of_mem g hx)).1) (h.row g List.mem_cons_self).1]
  have e : ((List.replicate g.1 ([] : List Nat)).map markL).any id = false := by
    rw [List.map_replicate]
    generalize g.1 = m
    induction m with
    | zero => rfl
    | succ m ih =>
      rw [List.replicate_succ, List.any_cons, ih]
      rfl
  rw [e, Bool.false_or]
  congr 1
  exact decide_eq_decide.mpr (by omega)
theorem in_is {g : Nat × List Nat} {r : Gs} (h : GsOk (g :: r)) (f n : Nat) : inX (vlV (g :: r) f) (n : Nat) = (dpN (g :: r) n : Nat) := by
  unfold inX dpN
  rw [aside_is h]
  split <;> rfl
theorem any_of {gs : Gs} {x : Nat × List Nat} (hx : x ∈ gs) (hm : mkL x.2 = true) : (gs.any fun g => mkL g.2) = true := List.any_eq_true.mpr ⟨x, hx, hm⟩
theorem spcs_nat (d : Nat) : spcs ((d : Nat) : Int) = List.replicate d 32 := by
  show (List.replicate ((d : Nat) : Int).toNat [32]).flatten = _
  rw [Int.toNat_natCast]
  induction d with
  | zero => rfl
  | succ d ih => rw [List.replicate_succ, List.flatten_cons, ih] <;> rfl
theorem lined {gs : Gs} {n : Nat} {x : Nat × List Nat} (h : GsOk gs) (hx : x ∈ gs) : Lined ((dpN gs n : Nat) : Int) (dpN gs n) x.2 := by
  obtain ⟨h1, _, _, _, _, h6, _⟩ := row_facts x.2 (h.row x hx).1
  unfold Lined lineL
  rw [if_neg h1]
  congr 1
  unfold aheadL
  rw [if_neg]
  · exact spcs_nat _
  · intro z
    rw [Bool.and_eq_true] at z
    have z1 := of_decide_eq_true z.1
    have z2 := z.2
    rw [h6] at z2
    have ha := any_of hx z2
    unfold dpN at z1
    by_cases c : moreB gs n = true
    · rw [if_pos c] at z1; cases z1
    · rw [if_neg c] at z1
      exact c (by unfold moreB; rw [ha, decide_eq_true (show n = 0 by omega)] <;> rfl)
theorem head_is {g : Nat × List Nat} {r : Gs} (h : GsOk (g :: r)) (f : Nat) : headC (vlV (g :: r) f) = g.2.getD 0 0 := by
  unfold headC
  rw [bd_is h]
  show ((fds g.1 ++ (g.2 ++ flV r)).dropWhile (inL [10])).getD 0 0 = _
  rw [drop_fds]
  obtain ⟨h1, h2, _⟩ := row_facts g.2 (h.row g List.mem_cons_self).1
  cases e : g.2 with
  | nil => exact absurd e h1
  | cons c l =>
    rw [e] at h2
    rw [List.cons_append, List.dropWhile_cons_of_neg (by
      unfold inL
      have : c ≠ 10 := fun z => h2 (by rw [z]; exact List.mem_cons_self)
      simpa using this)] <;> rfl
theorem chomp_is (f : Nat) : chompL ((f : Nat) : Int) = kpN f := by
  unfold chompL kpN
  by_cases c : f = 0
  · rw [if_pos c, if_pos (decide_eq_true (by omega))]
  · rw [if_neg c, if_neg (by rw [decide_eq_false (by omega)]; exact Bool.false_ne_true)]
    by_cases c2 : f = 1
    · rw [if_pos c2, if_pos (decide_eq_true (by omega))]
    · rw [if_neg c2, if_neg (by rw [decide_eq_false (by omega)]; exact Bool.false_ne_true)]
theorem fdI_nat (n : Nat) : fdI ((n : Nat) : Int) = fds n := fds_is n
theorem block_is {gs : Gs} (h : GsOk gs) (fo : Bool) {f n dp : Nat} (h1 : 1 ≤ dp) (h2 : dp ≤ 9) (h3 : dp ≤ n + 1) : blockL fo (vlV gs f) (n : Nat) (dp : Nat) = txN fo gs f n dp := by
  unfold blockL txN
  rw [bd_is h, feed_is h]
  cases gs with
  | nil =>
    rw [if_pos (show flV [] = [] from rfl)]
    show (sgnL fo ++ _) ++ fdI ((f : Nat) : Int) = txL _ (if f = 0 then [45] else [43]) (List.replicate f [])
    unfold txL
    rw [tl_nils, fdI_nat]
    have e : (if (((f : Nat) : Int) != 0) = true then ([43] : List Nat) else [45]) = if f = 0 then [45] else [43] := by
      by_cases c : f = 0
      · subst c; rfl
      · rw [if_neg c, if_pos (by simpa using c)]
    rw [e]
    cases fo <;> rfl
  | cons g r =>
    rw [if_neg (fun z => by
      obtain ⟨x, c, e, _⟩ := fl_end h (List.cons_ne_nil _ _)
      rw [e] at z
      exact absurd z (by simp))]
    rw [in_is h, run_is h f fun x hx => lined h hx, join_is]
    have e2 : max 0 (((f : Nat) : Int) - 1) = ((f - 1 : Nat) : Int) := by omega
    rw [e2, fdI_nat]
    have e3 : topL fo (vlV (g :: r) f) (n : Nat) (dp : Nat) = (if fo = true then 62 else 124) :: hdN (g :: r) f n dp := by
      unfold topL tenL
      rw [feed_is h, chomp_is, head_is h, aside_is h]
      show _ = (if fo = true then 62 else 124) :: (toldN (dgN (g :: r) n dp) ++ kpN f)
      rw [show dgN (g :: r) n dp = if g.2.getD 0 0 = 32 then dp + (if moreB (g :: r) n = true then 1 else 0) else 0 from rfl]
      have es : sgnL fo = [if fo = true then 62 else 124] := by cases fo <;> rfl
      by_cases c : g.2.getD 0 0 = 32
      · rw [if_pos c, if_pos (decide_eq_true (by rw [c])), es]
        have e4 : (if moreB (g :: r) n = true then ([50] : List Nat) else TL.numL ((dp : Nat) : Int).toNat) = toldN (dp + if moreB (g :: r) n = true then 1 else 0) := by
          by_cases c2 : moreB (g :: r) n = true
          · rw [if_pos c2, if_pos c2]
            have : n = 0 := by
              unfold moreB at c2
              rw [Bool.and_eq_true] at c2
              exact of_decide_eq_true c2.1
            have hd : dp = 1 := by omega
            subst hd; rfl
          · rw [if_neg c2, if_neg c2, Int.toNat_natCast]
            exact told_num dp (List.mem_range.mpr (by omega)) h1
        rw [e4] <;> rfl
      · rw [if_neg c, if_neg (by
          rw [decide_eq_false (by
            intro z
            injection z with z _
            exact c z)]
          exact Bool.false_ne_true), es] <;> rfl
    rw [e3]
    show (_ :: _) ++ _ ++ _ = txL _ _ (lnG fo (dpN (g :: r) n) [] (g :: r) ++ List.replicate (f - 1) [])
    unfold txL
    rw [tl_app, tl_nils]
    simp only [List.cons_append, List.append_assoc]
end T
namespace T
open PySem PySem.Spec PyProof.Rows L2 DJ LJ LamX
/-! ### mathematics: the written text is read as the value -/
theorem pb_spc (d : Nat) (l : List Nat) : pbL (List.replicate d 32 ++ l) = d + pbL l := by
  induction d with
  | zero => simp
  | succ d ih =>
    rw [List.replicate_succ, List.cons_append]
    show (if (32 : Nat) = 32 then pbL (List.replicate d 32 ++ l) + 1 else 0) = _
    rw [if_pos rfl, ih]
    omega
theorem mk_spc (d : Nat) (l : List Nat) : mkL (List.replicate (d + 1) 32 ++ l) = false := by
  unfold mkL
  rw [List.replicate_succ]
  simp
theorem goC_nils (d : Nat) : ∀ (k : Nat) (acc : Gs) (m : Nat) (ls : List (List Nat)), goC d (acc, m) (List.replicate k [] ++ ls) = goC d (acc, m + k) ls
  | 0, acc, m, ls => rfl
  | k + 1, acc, m, ls => by
    have e : goC d (acc, m) (List.replicate (k + 1) [] ++ ls) = goC d (acc, m + 1) (List.replicate k [] ++ ls) := if_pos (show bareC d [] = true by unfold bareC; rw [decide_eq_true (show pbL [] = ([] : List Nat).length from rfl), decide_eq_true (show pbL [] ≤ d from Nat.zero_le _)] <;> rfl)
    rw [e, goC_nils d k acc (m + 1) ls, show m + 1 + k = m + (k + 1) by omega]
theorem goC_row {d : Nat} {row : List Nat} (acc : Gs) (m : Nat) (ls : List (List Nat)) (h1 : row ≠ []) (h2 : d = 0 → mkL row = false) : goC d (acc, m) ((List.replicate d 32 ++ row) :: ls) = goC d (acc ++ [(m, row)], 0) ls := by
  have hp : 0 < row.length := List.length_pos_iff.mpr h1
  have c1 : ¬ bareC d (List.replicate d 32 ++ row) = true := by
    intro z
    unfold bareC at z
    rw [Bool.and_eq_true, decide_eq_true_eq, decide_eq_true_eq, List.length_append, List.length_replicate] at z
    omega
  have c2 : ¬ badC d (List.replicate d 32 ++ row) = true := by
    intro z
    unfold badC at z
    rw [pb_spc, decide_eq_false (by omega), Bool.false_or, Bool.and_eq_true, decide_eq_true_eq] at z
    obtain ⟨z1, z2⟩ := z
    subst z1
    have := h2 rfl
    rw [show List.replicate 0 32 ++ row = row from rfl, this] at z2
    cases z2
  show (if _ then _ else _) = _
  rw [if_neg c1, if_neg c2]
  show goC d (acc ++ [(m, (List.replicate d 32 ++ row).drop d)], 0) ls = _
  rw [List.drop_left' List.length_replicate]
theorem goC_lines {fo : Bool} {d : Nat} : ∀ (gs : Gs) (la : List Nat) (acc : Gs) (t : Nat), (∀ g ∈ gs, g.2 ≠ [] ∧ (d = 0 → mkL g.2 = false)) → goC d (acc, 0) (lnG fo d la gs ++ List.replicate t []) = some (acc ++ egG fo la gs, t)
  | [], la, acc, t, _ => by
    have := goC_nils d t acc 0 []
    rw [List.append_nil, Nat.zero_add] at this
    show goC d (acc, 0) ([] ++ List.replicate t []) = some (acc ++ [], t)
    rw [List.nil_append, this, List.append_nil] <;> rfl
  | g :: r, la, acc, t, h => by
    obtain ⟨h1, h2⟩ := h g List.mem_cons_self
    show goC d (acc, 0) ((List.replicate (empN fo la g) [] ++ ((List.replicate d 32 ++ g.2) :: lnG fo d g.2 r)) ++ List.replicate t []) = some (acc ++ ((empN fo la g, g.2) :: egG fo g.2 r), t)
    rw [List.append_assoc, goC_nils, Nat.zero_add, List.cons_append, goC_row _ _ _ h1 h2, goC_lines r g.2 _ t fun x hx => h x (List.mem_cons_of_mem g hx), List.append_assoc] <;> rfl
theorem gap_is {fo : Bool} {la : List Nat} {g : Nat × List Nat} (hla : la ≠ []) (h : 1 ≤ g.1) : gapV fo (empN fo la g, g.2) la = fds g.1 := by
  unfold gapV empN
  rw [if_neg hla]
  by_cases c : (fo && (bareL la && bareL g.2)) = true
  · have c' : (fo && (bareL g.2 && bareL la)) = true := by rw [Bool.and_comm (bareL g.2)]; exact c
    rw [if_pos c, if_pos c', if_pos (decide_eq_true (show 0 < g.1 by omega))]
  · have c' : ¬ (fo && (bareL g.2 && bareL la)) = true := by rw [Bool.and_comm (bareL g.2)]; exact c
    rw [if_neg c, if_neg c', show g.1 - 1 + 1 = g.1 by omega]
theorem val_run {fo : Bool} : ∀ (r : Gs) (x la : List Nat), la ≠ [] → (∀ g ∈ r, g.2 ≠ [] ∧ 1 ≤ g.1) → ((egG fo la r).foldl (stV fo) (x, la)).1 = x ++ flV r
  | [], x, la, _, _ => (List.append_nil x).symm
  | g :: r, x, la, hla, h => by
    obtain ⟨h1, h2⟩ := h g List.mem_cons_self
    show ((egG fo g.2 r).foldl (stV fo) ((x ++ gapV fo (empN fo la g, g.2) la) ++ g.2, g.2)).1 = x ++ (fds g.1 ++ (g.2 ++ flV r))
    rw [gap_is hla h2, val_run r _ g.2 h1 fun y hy => h y (List.mem_cons_of_mem g hy)]
    simp only [List.append_assoc]
theorem tail_is (f : Nat) : tailV (kpN f) (f - 1) = fds f := by
  unfold tailV kpN
  by_cases c : f = 0
  · subst c; rfl
  · by_cases c2 : f = 1
    · subst c2; rfl
    · rw [if_neg c, if_neg c2, if_neg (by decide), if_neg (by decide), show f - 1 + 1 = f by omega]
theorem hd_facts : ∀ dg ∈ List.range 10, ∀ kp ∈ ([[45], [], [43]] : List (List Nat)), okH (toldN dg ++ kp) = true ∧ (hdU (toldN dg ++ kp)).1 = dg ∧ (hdU (toldN dg ++ kp)).2.1 = kp ∧ 10 ∉ toldN dg ++ kp ∧ (toldN dg ++ kp).all goodC = true ∧ (toldN dg ++ kp).length ≤ 2 := by decide +kernel
theorem kp_mem (f : Nat) : kpN f ∈ ([[45], [], [43]] : List (List Nat)) ∧ (kpN f = [] ∨ kpN f = [45] ∨ kpN f = [43]) := by
  unfold kpN
  by_cases c : f = 0
  · rw [if_pos c]; exact ⟨by decide, by decide⟩
  · by_cases c2 : f = 1
    · rw [if_neg c, if_pos c2]; exact ⟨by decide, by decide⟩
    · rw [if_neg c, if_neg c2]; exact ⟨by decide, by decide⟩
theorem more_n {gs : Gs} {n : Nat} (h : moreB gs n = true) : n = 0 := by
  unfold moreB at h
  rw [Bool.and_eq_true] at h
  exact of_decide_eq_true h.1
theorem fi_nils (N a m : Nat) (k : Nat) (ls : List (List Nat)) : fiR N a m (List.replicate k [] ++ ls) = fiR N a m ls := by
  induction k with
  | zero => rfl
  | succ k ih =>
    rw [List.replicate_succ, List.cons_append]
    have e : fiR N a m ([] :: (List.replicate k [] ++ ls)) = fiR N a (max m 0) (List.replicate k [] ++ ls) := if_pos rfl
    rw [e, show max m 0 = m by omega, ih]
theorem dep_is {g : Nat × List Nat} {r : Gs} (h : GsOk (g :: r)) {fo : Bool} {f n dp N : Nat} (h1 : 1 ≤ dp) (h2 : dp ≤ 9) (h3 : dp ≤ n + 1) :
    dgN (g :: r) n dp ∈ List.range 10 ∧ ((hdU (hdN (g :: r) f n dp)).1 = dgN (g :: r) n dp → depD N (n + 1 - dp) (hdN (g :: r) f n dp) (lsN fo (g :: r) f n) = .inl (dpN (g :: r) n)) := by
  have eg : dgN (g :: r) n dp = if g.2.getD 0 0 = 32 then dp + (if moreB (g :: r) n = true then 1 else 0) else 0 := rfl
  have ed : dpN (g :: r) n = if moreB (g :: r) n = true then 1 else n := rfl
  constructor
  · rw [eg, List.mem_range]
    split
    · split
      · have := more_n ‹_›; omega
      · omega
    · omega
  · intro hh
    unfold depD
    rw [hh]
    by_cases c : g.2.getD 0 0 = 32
    · rw [eg, if_pos c, if_neg (by omega), ed]
      congr 1
      split
      · have := more_n ‹_›; omega
      · omega
    · rw [eg, if_neg c, if_pos rfl]
      obtain ⟨q1, _, _, _, q5, _, _⟩ := row_facts g.2 (h.row g List.mem_cons_self).1
      have hp : 0 < g.2.length := List.length_pos_iff.mpr q1
      have q5 := q5 (decide_eq_false c)
      show fiR N (n + 1 - dp) (n + 1 - dp) ((List.replicate (empN fo [] g) [] ++ ((List.replicate (dpN (g :: r) n) 32 ++ g.2) :: lnG fo (dpN (g :: r) n) g.2 r)) ++ List.replicate (f - 1) []) = _
      rw [List.append_assoc, fi_nils, List.cons_append]
      have hd : n ≤ dpN (g :: r) n := by
        rw [ed]
        split
        · have := more_n ‹_›; omega
        · exact Nat.le_refl _
      have e1 : pbL (List.replicate (dpN (g :: r) n) 32 ++ g.2) = dpN (g :: r) n := by rw [pb_spc, q5] <;> rfl
      have e2 : mkL (List.replicate (dpN (g :: r) n) 32 ++ g.2) = false := by
        cases hz : dpN (g :: r) n with
        | succ d => exact mk_spc d g.2
        | zero =>
          rw [show List.replicate 0 32 ++ g.2 = g.2 from rfl]
          cases hm : mkL g.2 with
          | false => rfl
          | true =>
            have hb : moreB (g :: r) n = true := by
              unfold moreB
              rw [any_of (gs := g :: r) List.mem_cons_self hm, decide_eq_true (show n = 0 by omega)] <;> rfl
            rw [ed, if_pos hb] at hz
            cases hz
      unfold fiR
      rw [e1, e2, if_neg (by rw [List.length_append, List.length_replicate]; omega), if_neg (by rw [decide_eq_false (by omega)]; exact Bool.false_ne_true), if_neg (by omega)]
theorem rs_is {gs : Gs} (h : GsOk gs) (fo : Bool) {f n dp : Nat} (x : List Nat) (h1 : 1 ≤ dp) (h2 : dp ≤ 9) (h3 : dp ≤ n + 1) : rsB x BLK (styF fo) (hdN gs f n dp) (lsN fo gs f n) (n + 1 - dp) = some (vlV gs f) := by
  have main : ∀ {hd kp : List Nat} {ls : List (List Nat)} {d : Nat} {v : Cs}, okH hd = true → (hdU hd).2.1 = kp → (kp = [] ∨ kp = [45] ∨ kp = [43]) → depD (wholeL x BLK).length (n + 1 - dp) hd ls = .inl d → goC d ([], 0) ls = some v → valG fo kp v = vlV gs f → rsB x BLK (styF fo) hd ls (n + 1 - dp) = some (vlV gs f) := by
    intro hd kp ls d v e1 e2 e3 e4 e5 e6
    unfold rsB
    rw [if_pos rfl]
    unfold vbL rbX
    rw [if_neg (by rw [e1]; exact fun z => nomatch z), e4]
    show (if (clL d ls).2 = [] then some (rbS (styF fo) hd ls d) else none) = _
    rw [goC_is] at e5
    by_cases c : (clL d ls).2 = []
    · rw [if_pos c] at e5 ⊢
      have e5 := Option.some.inj e5
      unfold rbS
      rw [(sty_in fo).2.2, e2, ← val_eq _ _ e3, e5, e6]
    · rw [if_neg c] at e5
      cases e5
  cases gs with
  | nil =>
    have hk : ∀ kp : List Nat, kp = [45] ∨ kp = [43] → okH kp = true ∧ (hdU kp).1 = 0 ∧ (hdU kp).2.1 = kp := by
      intro kp hk
      rcases hk with rfl | rfl
      · exact ⟨by decide +kernel, by decide +kernel, by decide +kernel⟩
      · exact ⟨by decide +kernel, by decide +kernel, by decide +kernel⟩
    have hh : hdN [] f n dp = (if f = 0 then [45] else [43]) := rfl
    obtain ⟨k1, k2, k3⟩ := hk (hdN [] f n dp) (by rw [hh]; split <;> simp)
    have hg : goC (n + 1 - dp) ([], 0) (lsN fo [] f n) = some ([], f) := by
      have := goC_nils (n + 1 - dp) f [] 0 []
      rw [List.append_nil, Nat.zero_add] at this
      exact this
    refine main k1 k3 (by rw [hh]; split <;> simp) (d := n + 1 - dp) (v := ([], f)) ?_ hg ?_
    · unfold depD
      rw [if_pos k2]
      have := fi_nils (wholeL x BLK).length (n + 1 - dp) (n + 1 - dp) f []
      rw [List.append_nil] at this
      exact this
    · show fds (f * (if hdN [] f n dp = [43] then 1 else 0)) = [] ++ fds f
      rw [hh, List.nil_append]
      by_cases c : f = 0
      · subst c; rfl
      · rw [if_neg c, if_pos rfl, Nat.mul_one]
  | cons g r =>
    obtain ⟨d1, d2⟩ := dep_is h (fo := fo) (f := f) (N := (wholeL x BLK).length) h1 h2 h3
    obtain ⟨k1, k2, k3, _⟩ := hd_facts _ d1 _ (kp_mem f).1
    have hno : dpN (g :: r) n = 0 → ∀ y ∈ g :: r, mkL y.2 = false := by
      intro hz y hy
      cases hm : mkL y.2 with
      | false => rfl
      | true =>
        have ha := any_of hy hm
        unfold dpN at hz
        by_cases c : moreB (g :: r) n = true
        · rw [if_pos c] at hz; cases hz
        · rw [if_neg c] at hz
          exact absurd (by unfold moreB; rw [ha, decide_eq_true hz] <;> rfl) c
    refine main k1 k3 (kp_mem f).2 (d2 k2) (goC_lines (g :: r) [] [] (f - 1) fun y hy => ⟨(row_facts y.2 (h.row y hy).1).1, fun z => hno z y hy⟩) ?_
    show ((egG fo g.2 r).foldl (stV fo) (fds g.1 ++ g.2, g.2)).1 ++ tailV (kpN f) (f - 1) = (fds g.1 ++ (g.2 ++ flV r)) ++ fds f
    rw [tail_is, val_run r _ g.2 (row_facts g.2 (h.row g List.mem_cons_self).1).1 fun y hy => ⟨(row_facts y.2 (h.row y (List.mem_cons_of_mem g hy)).1).1, h.later y hy⟩]
    simp only [List.append_assoc]
/-! the text is one -/
theorem emp_le {fo : Bool} {la : List Nat} {g : Nat × List Nat} : empN fo la g ≤ g.1 := by
  unfold empN
  split
  · exact Nat.le_refl _
  · split <;> omega
theorem fds_good (n : Nat) : (fds n).all goodC = true := by
  unfold fds
  exact List.all_eq_true.mpr fun c hc => by rw [List.eq_of_mem_replicate hc] <;> rfl
theorem ln_facts {fo : Bool} {d : Nat} : ∀ (gs : Gs) (la : List Nat), (∀ g ∈ gs, g.2 ∈ SOMEK ∧ g.1 ≤ 3) → (tlL (lnG fo d la gs)).length ≤ gs.length * (d + 9) ∧ (tlL (lnG fo d la gs)).all goodC = true ∧ ∀ l ∈ lnG fo d la gs, 10 ∉ l
  | [], la, _ => ⟨Nat.le_of_eq (Nat.zero_mul _).symm, rfl, fun _ h => nomatch h⟩
  | g :: r, la, h => by
    obtain ⟨q1, q2, q3⟩ := ln_facts (fo := fo) (d := d) r g.2 fun x hx => h x (List.mem_cons_of_mem g hx)
    obtain ⟨h1, h2⟩ := h g List.mem_cons_self
    obtain ⟨_, n2, n3, n4, _⟩ := row_facts g.2 h1
    have he := emp_le (fo := fo) (la := la) (g := g)
    have ex : tlL (lnG fo d la (g :: r)) = fds (empN fo la g) ++ (10 :: ((List.replicate d 32 ++ g.2) ++ tlL (lnG fo d g.2 r))) := by
      show tlL (List.replicate (empN fo la g) [] ++ ((List.replicate d 32 ++ g.2) :: lnG fo d g.2 r)) = _
      rw [tl_app, tl_nils] <;> rfl
    refine ⟨?_, ?_, ?_⟩
    · rw [ex, List.length_append, fds_len, List.length_cons, List.length_append, List.length_append, List.length_replicate, List.length_cons, Nat.succ_mul]
      omega
    · rw [ex, List.all_append, fds_good, List.all_cons, List.all_append, List.all_append, q2, n4]
      have : (List.replicate d 32).all goodC = true := List.all_eq_true.mpr fun c hc => by rw [List.eq_of_mem_replicate hc] <;> rfl
      rw [this] <;> rfl
    · intro l hl
      rcases List.mem_append.mp (show l ∈ List.replicate (empN fo la g) [] ++ ((List.replicate d 32 ++ g.2) :: lnG fo d g.2 r) from hl) with z | z
      · rw [List.eq_of_mem_replicate z]; exact fun z => nomatch z
      · rcases List.mem_cons.mp z with z | z
        · subst z
          intro z
          rcases List.mem_append.mp z with z | z
          · exact absurd (List.eq_of_mem_replicate z) (by decide)
          · exact n2 z
        · exact q3 l z
theorem tx_ok {gs : Gs} (h : GsOk gs) (hl : gs.length ≤ 5) (fo : Bool) {f n dp a : Nat} (hf : f ≤ 3) (hn : n ≤ 100) (h1 : 1 ≤ dp) (h2 : dp ≤ 9) (h3 : dp ≤ n + 1) : TxP (txN fo gs f n dp) (hdN gs f n dp) (styF fo) (lsN fo gs f n) (if fo = true then 62 else 124) a := by
  have hq : QB (styF fo) (if fo = true then 62 else 124) := by
    cases fo with
    | false => exact .inl ⟨rfl, rfl⟩
    | true => exact .inr ⟨rfl, rfl⟩
  have hqg : goodC (if fo = true then 62 else 124) = true := by cases fo <;> rfl
  have hh : 10 ∉ hdN gs f n dp ∧ (hdN gs f n dp).all goodC = true ∧ (hdN gs f n dp).length ≤ 2 := by
    cases gs with
    | nil =>
      show 10 ∉ (if f = 0 then [45] else [43]) ∧ (if f = 0 then [45] else [43]).all goodC = true ∧ (if f = 0 then [45] else [43]).length ≤ 2
      by_cases c : f = 0
      · rw [if_pos c]; decide
      · rw [if_neg c]; decide
    | cons g r =>
      obtain ⟨d1, _⟩ := dep_is h (fo := fo) (f := f) (N := 0) h1 h2 h3
      obtain ⟨_, _, _, k4, k5, k6⟩ := hd_facts _ d1 _ (kp_mem f).1
      exact ⟨k4, k5, k6⟩
  have hls : (tlL (lsN fo gs f n)).length ≤ 1000 ∧ (tlL (lsN fo gs f n)).all goodC = true ∧ ∀ l ∈ lsN fo gs f n, 10 ∉ l := by
    cases gs with
    | nil =>
      show (tlL (List.replicate f [])).length ≤ 1000 ∧ (tlL (List.replicate f [])).all goodC = true ∧ ∀ l ∈ List.replicate f ([] : List Nat), 10 ∉ l
      rw [tl_nils, fds_len]
      exact ⟨by omega, fds_good f, fun l z => by rw [List.eq_of_mem_replicate z]; exact fun z => nomatch z⟩
    | cons g r =>
      have hd : dpN (g :: r) n ≤ 100 := by unfold dpN; split <;> omega
      obtain ⟨k1, k2, k3⟩ := ln_facts (fo := fo) (d := dpN (g :: r) n) (g :: r) [] h.row
      show (tlL (lnG fo (dpN (g :: r) n) [] (g :: r) ++ List.replicate (f - 1) [])).length ≤ 1000 ∧ (tlL (lnG fo (dpN (g :: r) n) [] (g :: r) ++ List.replicate (f - 1) [])).all goodC = true ∧ _
      rw [tl_app, tl_nils, List.length_append, fds_len, List.all_append, k2, fds_good]
      refine ⟨?_, rfl, fun l z => ?_⟩
      · have : (g :: r).length * (dpN (g :: r) n + 9) ≤ 5 * 109 := Nat.mul_le_mul hl (by omega)
        omega
      · rcases List.mem_append.mp (show l ∈ lnG fo (dpN (g :: r) n) [] (g :: r) ++ List.replicate (f - 1) [] from z) with z | z
        · exact k3 l z
        · rw [List.eq_of_mem_replicate z]; exact fun z => nomatch z
  refine ⟨rfl, ?_, ?_, hq, hh.1, hls.2.2⟩
  · unfold txN txL
    rw [List.length_cons, List.length_append]
    omega
  · unfold txN txL
    rw [List.all_cons, hqg, List.all_append, hh.2.1, hls.2.1] <;> rfl
end T
namespace T
open PySem PySem.Spec PyProof.Rows L2 DJ LJ LamX
/-! ### the law's draws of rows, and its own text -/
abbrev s__law_rows : Stmt := topS 77
abbrev N__law_rows : List Str := ["_law_state", "_law_some", "_law_rows_here", "_law_turn", "_law_many"]
theorem sc__law_rows : FnScope N__law_rows ["_law_state"] (defScope s__law_rows) := ⟨rfl, rfl, rfl, by decide +kernel, rfl, by decide +kernel, by decide +kernel⟩
abbrev s__law_text : Stmt := topS 78
abbrev N__law_text : List Str := ["_law_rows_here", "_law_feeds", "_law_indent", "_law_deep", "_law_more", "_law_found", "_law_last", "_law_k", "_law_is_bare", "_law_empty", "_law_many", "_law_row"]
theorem sc__law_text : FnScope N__law_text ["_law_rows_here", "_law_feeds", "_law_indent", "_law_deep"] (defScope s__law_text) := ⟨rfl, rfl, rfl, by decide +kernel, rfl, by decide +kernel, by decide +kernel⟩
theorem at0 {α : Type} (x : α) (xs : List α) : atI (x :: xs) 0 = some x := by
  rw [show (0 : Int) = ((0 : Nat) : Int) from rfl, atI_nat (Nat.zero_lt_succ _)] <;> rfl
def GAsc (g : Nat × List Nat) : Prop := ∀ c ∈ g.2, c < 128
theorem pl_grs : ∀ {gs : Gs}, (∀ g ∈ gs, GAsc g) → plDs (gs.map grD) = true ∧ dpDs (gs.map grD) ≤ 1
  | [], _ => ⟨rfl, Nat.zero_le _⟩
  | g :: gs, h => by
    obtain ⟨h1, h2⟩ := pl_grs fun x hx => h x (List.mem_cons_of_mem _ hx)
    have hg := h g (List.mem_cons_self ..)
    refine ⟨?_, ?_⟩
    · show (plD (grD g) && plDs (gs.map grD)) = true
      rw [h1, Bool.and_true]
      show (true && (g.2.all (fun c => decide (c < 128)) && true)) = true
      rw [Bool.true_and, Bool.and_true]
      exact List.all_eq_true.mpr fun c hc => decide_eq_true (hg c hc)
    · show max (dpD (grD g)) (dpDs (gs.map grD)) ≤ 1
      exact Nat.max_le.mpr ⟨show 1 ≤ 1 by decide, h2⟩
theorem pl_lst {gs : Gs} (h : ∀ g ∈ gs, GAsc g) : plD (.lst (gs.map grD)) = true ∧ dpD (.lst (gs.map grD)) ≤ 64 := by
  obtain ⟨h1, h2⟩ := pl_grs h
  exact ⟨h1, by show dpDs (gs.map grD) + 1 ≤ 64; omega⟩
theorem eqD_nilX {α : Type} (f : α → Dt) (xs : List α) : eqD (.lst (xs.map f)) (.lst []) = decide (xs = []) := by
  cases xs with
  | nil => simp [eqD, toP, toPs, PyData.eqv, PyData.eqvAll]
  | cons x xs => simp [eqD, toP, toPs, PyData.eqv, PyData.eqvAll]
theorem plDs_strs : ∀ {xs : List (List Nat)}, (∀ x ∈ xs, ∀ c ∈ x, c < 128) → plDs (xs.map Dt.str) = true ∧ dpDs (xs.map Dt.str) = 0
  | [], _ => ⟨rfl, rfl⟩
  | x :: xs, h => by
    obtain ⟨h1, h2⟩ := plDs_strs fun y hy => h y (List.mem_cons_of_mem _ hy)
    refine ⟨?_, ?_⟩
    · show (plD (.str x) && plDs (xs.map Dt.str)) = true
      rw [h1, Bool.and_true]
      exact List.all_eq_true.mpr fun c hc => decide_eq_true (h x List.mem_cons_self c hc)
    · show max 0 (dpDs (xs.map Dt.str)) = 0
      rw [h2] <;> rfl
theorem some_asc : ∀ l ∈ SOMEK, ∀ c ∈ l, c < 128 := fun l hl => good_asc (row_facts l hl).2.2.2.1
theorem gs_asc {gs : Gs} (h : GsOk gs) : ∀ g ∈ gs, GAsc g := fun g hg => some_asc g.2 (h.row g hg).1
def mnL (gs : Gs) : List Int := if gs = [] then [0, 0, 1, 2] else [1, 1, 2, 3]
def rwTurn (a : Gs × Sd) : Gs × Sd := (a.1 ++ [((oneI a.2 (mnL a.1)).1.toNat, (oneT (oneI a.2 (mnL a.1)).2 SOMEK).1)], (oneT (oneI a.2 (mnL a.1)).2 SOMEK).2)
def rwRun (x : Sd) : Nat → Gs × Sd
  | 0 => ([], x)
  | n + 1 => rwTurn (rwRun x n)
def rwW (x : Sd) : Gs × Sd := rwRun (digitW x 6).2 (digitW x 6).1.toNat
theorem mn_ne (gs : Gs) : mnL gs ≠ [] ∧ (mnL gs).length ≤ 100000 := by
  unfold mnL
  split
  · exact ⟨by simp, by decide⟩
  · exact ⟨by simp, by decide⟩
theorem mn_ok (gs : Gs) : ∀ m ∈ mnL gs, 0 ≤ m ∧ m ≤ 3 ∧ (gs ≠ [] → 1 ≤ m) := by
  intro m hm
  unfold mnL at hm
  by_cases c : gs = []
  · rw [if_pos c] at hm
    simp only [List.mem_cons, List.not_mem_nil, or_false] at hm
    refine ⟨by omega, by omega, fun z => absurd c z⟩
  · rw [if_neg c] at hm
    simp only [List.mem_cons, List.not_mem_nil, or_false] at hm
    exact ⟨by omega, by omega, fun _ => by omega⟩
theorem ok_snoc {gs : Gs} {g : Nat × List Nat} (h : GsOk gs) (h1 : g.2 ∈ SOMEK) (h2 : g.1 ≤ 3) (h3 : gs ≠ [] → 1 ≤ g.1) : GsOk (gs ++ [g]) := by
  refine ⟨fun x hx => ?_, fun x hx => ?_⟩
  · rcases List.mem_append.mp hx with z | z
    · exact h.row x z
    · rw [List.mem_singleton.mp z]; exact ⟨h1, h2⟩
  · cases gs with
    | nil => cases hx
    | cons a r =>
      rcases List.mem_append.mp (show x ∈ r ++ [g] from hx) with z | z
      · exact h.later x z
      · rw [List.mem_singleton.mp z]; exact h3 (List.cons_ne_nil _ _)
theorem rwRun_ok (x : Sd) : ∀ n, GsOk (rwRun x n).1 ∧ (rwRun x n).1.length = n
  | 0 => ⟨⟨(fun _ h => nomatch h), (fun _ h => nomatch h)⟩, rfl⟩
  | n + 1 => by
    obtain ⟨h1, h2⟩ := rwRun_ok x n
    have h3 := mn_ok (rwRun x n).1 _ (oneI_mem (rwRun x n).2 (mn_ne (rwRun x n).1).1)
    refine ⟨ok_snoc h1 (oneT_mem (oneI (rwRun x n).2 (mnL (rwRun x n).1)).2 (ys := SOMEK) (by decide)) ?_ fun z => ?_, ?_⟩
    · show (oneI (rwRun x n).2 (mnL (rwRun x n).1)).1.toNat ≤ 3
      omega
    · have := h3.2.2 z
      show 1 ≤ (oneI (rwRun x n).2 (mnL (rwRun x n).1)).1.toNat
      omega
    · show ((rwRun x n).1 ++ [_]).length = n + 1
      rw [List.length_append, h2] <;> rfl
theorem rwW_ok (x : Sd) : GsOk (rwW x).1 ∧ (rwW x).1.length ≤ 5 := by
  obtain ⟨h1, h2⟩ := rwRun_ok (digitW x 6).2 (digitW x 6).1.toNat
  have h3 := digit_lt x (n := 6) (by decide)
  exact ⟨h1, by show (rwRun _ _).1.length ≤ 5; omega⟩
/-! the law's text is the written one -/
def laG (la : List Nat) : Gs → List Nat
  | [] => la
  | g :: r => laG g.2 r
theorem ln_snoc {fo : Bool} {d : Nat} (g : Nat × List Nat) : ∀ (xs : Gs) (la : List Nat), lnG fo d la (xs ++ [g]) = lnG fo d la xs ++ (List.replicate (empN fo (laG la xs) g) [] ++ [List.replicate d 32 ++ g.2])
  | [], la => rfl
  | x :: xs, la => by
    show List.replicate (empN fo la x) [] ++ ((List.replicate d 32 ++ x.2) :: lnG fo d x.2 (xs ++ [g])) = (List.replicate (empN fo la x) [] ++ ((List.replicate d 32 ++ x.2) :: lnG fo d x.2 xs)) ++ (List.replicate (empN fo (laG x.2 xs) g) [] ++ [List.replicate d 32 ++ g.2])
    rw [ln_snoc g xs x.2, List.append_assoc, List.cons_append]
theorem la_snoc (g : Nat × List Nat) : ∀ (xs : Gs) (la : List Nat), laG la (xs ++ [g]) = g.2
  | [], la => rfl
  | x :: xs, la => la_snoc g xs x.2
theorem la_mem : ∀ (xs : Gs) (la : List Nat), xs ≠ [] → ∃ x ∈ xs, laG la xs = x.2
  | [], _, h => absurd rfl h
  | [x], la, _ => ⟨x, List.mem_cons_self, rfl⟩
  | x :: y :: r, la, _ => by
    obtain ⟨z, hz, e⟩ := la_mem (y :: r) x.2 (List.cons_ne_nil _ _)
    exact ⟨z, List.mem_cons_of_mem x hz, e⟩
def fdT (gs : Gs) (f n dp j : Nat) : List Nat := 62 :: (hdN gs f n dp ++ tlL (lnG true (dpN gs n) [] (gs.take j)))
def lsT (gs : Gs) (j : Nat) : List Nat := if j = 0 then [32] else laG [] (gs.take j)
def sg0 (d : Int) : List Nat := if d = 0 then [45] else [43]
theorem filter_more (n : Nat) (gs : Gs) : (decide (((n : Nat) : Int) = 0) && !decide ((gs.filter fun g => mkL g.2) = [])) = moreB gs n := by
  unfold moreB
  have e : decide (((n : Nat) : Int) = 0) = decide (n = 0) := decide_eq_decide.mpr (by omega)
  rw [e]
  congr 1
  induction gs with
  | nil => rfl
  | cons g r ih =>
    rw [List.any_cons]
    cases h : mkL g.2 with
    | true => rw [List.filter_cons_of_pos (p := fun g : Nat × List Nat => mkL g.2) h, decide_eq_false (List.cons_ne_nil _ _)] <;> rfl
    | false => rw [List.filter_cons_of_neg (p := fun g : Nat × List Nat => mkL g.2) (by rw [h]; exact Bool.false_ne_true), ih] <;> rfl
theorem fdT_step {gs : Gs} {f n dp j : Nat} {g : Nat × List Nat} (hg : gs[j]? = some g) : fdT gs f n dp (j + 1) = fdT gs f n dp j ++ (fds (empN true (laG [] (gs.take j)) g + 1) ++ (List.replicate (dpN gs n) 32 ++ g.2)) ∧ lsT gs (j + 1) = g.2 := by
  have hj : j < gs.length := (List.getElem?_eq_some_iff.mp hg).1
  have et : gs.take (j + 1) = gs.take j ++ [g] := by rw [← List.take_append_getElem hj, (List.getElem?_eq_some_iff.mp hg).2]
  constructor
  · unfold fdT
    rw [et, ln_snoc, tl_app, tl_app, tl_nils, ← fds_app]
    show 62 :: (hdN gs f n dp ++ (tlL (lnG true (dpN gs n) [] (gs.take j)) ++ (fds (empN true (laG [] (gs.take j)) g) ++ (10 :: ((List.replicate (dpN gs n) 32 ++ g.2) ++ []))))) = _
    rw [List.append_nil]
    simp only [List.append_assoc, List.cons_append, List.nil_append]
  · unfold lsT
    rw [if_neg (by omega), et, la_snoc]
section
variable {P : Program} {w : World} {K : PySem.W.Frag} {mg : Str → Option Value} {base : Heap}
def R_rows : List Sl → List MO → Sl → List MO → Prop := fun ss M r M' => ∃ x : Sd, ss = [.o 0] ∧ M = [sd x] ∧ r = .d (.lst ((rwW x).1.map grD)) ∧ M' = [sd (rwW x).2]
theorem cal_rows (D : Df K mg "_law_rows" s__law_rows ["_law_state"]) (f__law_digit : Cal P w K mg base 1 "_law_digit" (SpR K 2 R_digit) []) (f__law_one : Cal P w K mg base 2 "_law_one" (SpR K 2 R_one) []) (m_range : mg "range" = none) : Cal P w K mg base 3 "_law_rows" (SpR K 1 R_rows) [] := by
  refine cal_mk (k := 2) D sc__law_rows rfl fun f cdv A outer s H E hr ss M r M' h => ?_
  obtain ⟨x, rfl, rfl, rfl, rfl⟩ := h
  refine ⟨_, [.gone], (pss_cons (ps_asg (pe_lst (pa_cons pe_str (pa_cons pe_str (pa_cons pe_str (pa_cons pe_str (pa_cons pe_str (pa_cons pe_str (pa_cons pe_str (pa_cons pe_str (pa_cons pe_str (pa_cons pe_str (pa_cons pe_str pa_nil)))))))))))) (pg_name (i := 1) sc__law_rows.nd rfl (by first | exact .inl rfl | exact .inr rfl))) (pss_cons (ps_asg (pe_lst pa_nil) (pg_name (i := 2) sc__law_rows.nd rfl (by first | exact .inl rfl | exact .inr rfl))) (pss_cons (ps_for PassesOwn.never rfl (pi_range1 (by rfl) m_range (pa_cons (pe_c f__law_digit hr (by omega) (by rfl) (pa_cons (pv 0) (pa_cons pe_int pa_nil))) pa_nil)) (pg_name (i := 3) sc__law_rows.nd rfl (by first | exact .inl rfl | exact .inr rfl)) (pss_cons (ps_asg (pe_ifExp (pt_cmpR (op_neD (room64 hr)) (pv 2) (pe_lst pa_nil) (nomark _)) (pe_c f__law_one hr (by omega) (by rfl) (pa_cons (pv 0) (pa_cons (pe_lst (pa_cons pe_int (pa_cons pe_int (pa_cons pe_int (pa_cons pe_int pa_nil))))) pa_nil))) (pe_c f__law_one hr (by omega) (by rfl) (pa_cons (pv 0) (pa_cons (pe_lst (pa_cons pe_int (pa_cons pe_int (pa_cons pe_int (pa_cons pe_int pa_nil))))) pa_nil)))) (pg_name (i := 4) sc__law_rows.nd rfl (by first | exact .inl rfl | exact .inr rfl))) (pss_one (ps_expr (pe_bm PySem.F.plainAttrs_list PySem.F.slot_list_append PySem.F.type_list_append mt_append (pv 2) (pa_cons (pe_tup (pa_cons (pv 4) (pa_cons (pe_c f__law_one hr (by omega) (by rfl) (pa_cons (pv 0) (pa_cons (pv 1) pa_nil))) pa_nil))) pa_nil)))))) (pss_one (ps_ret (pv 2)))))), ?_, Nat.le_refl _, fun _ h => nomatch h⟩
  refine es_seq (es_asg (ev_lst (xs := SOMEK.map Dt.str) (ea_cons (ev_str _) (ea_cons (ev_str _) (ea_cons (ev_str _) (ea_cons (ev_str _) (ea_cons (ev_str _) (ea_cons (ev_str _) (ea_cons (ev_str _) (ea_cons (ev_str _) (ea_cons (ev_str _) (ea_cons (ev_str _) (ea_cons (ev_str _) ea_nil))))))))))) (show 11 ≤ 1000 by decide))) ?_
  refine es_nG (G' := [_, _, _, _, _]) rfl ?_
  refine es_seq (es_asg (ev_lstO (xs := []) ea_nil (Nat.zero_le _))) ?_
  refine es_nG (G' := [some (.o 0), some (.d (.lst (SOMEK.map Dt.str))), some (.o 1), none, none]) rfl ?_
  have hdx := digit_lt x (n := 6) (by decide)
  unfold rwW
  refine es_seq (es_forNn (List.range (digitW x 6).1.toNat) (digitW x 6).1.toNat List.length_range (fun j => .int (0 + (j : Nat))) (fun _ => [some (.o 0), some (.d (.lst (SOMEK.map Dt.str))), some (.o 1), none, none]) (fun j => [sd (rwRun (digitW x 6).2 j).2, .lst ((rwRun (digitW x 6).2 j).1.map grD)]) (ei_rng1 (n := (digitW x 6).1) (ea_cons (ev_wG (k := 0) (M1 := [sd x, .lst []]) (ds := [.int 6]) (ea_cons (ev_var rfl) (ea_cons ev_int ea_nil)) rfl (sdg x) (R_digI x 6 (by decide) (by decide)) (sdg _) rfl) ea_nil) (by omega)) (Lg.refl _) fun j y hj _ => ⟨_, eg_name, ?_⟩) (es_ret (ev_freeze (k := 1) (ev_var rfl) rfl))
  obtain ⟨hok, hp⟩ := rwRun_ok (digitW x 6).2 j
  show EvS K _ _ _ (.nx _ [sd (rwTurn (rwRun (digitW x 6).2 j)).2, .lst ((rwTurn (rwRun (digitW x 6).2 j)).1.map grD)])
  generalize rwRun (digitW x 6).2 j = a at *
  obtain ⟨gs, y2⟩ := a
  unfold rwTurn
  simp only at hok hp ⊢
  obtain ⟨p1, p2⟩ := pl_lst (gs_asc hok)
  have hm0 := mn_ok gs _ (oneI_mem y2 (mn_ne gs).1)
  have c4 : ∀ {G : List (Option Sl)} {M : List MO} (a b c d : Int), EvA K (tCons (tC (.int a)) (tCons (tC (.int b)) (tCons (tC (.int c)) (tCons (tC (.int d)) tNil)))) G M ([Dt.int a, .int b, .int c, .int d].map Sl.d) M := fun a b c d => ea_cons ev_int (ea_cons ev_int (ea_cons ev_int (ea_cons ev_int ea_nil)))
  refine es_seq (es_asg (s := .d (.int (oneI y2 (mnL gs)).1)) (M1 := [sd (oneI y2 (mnL gs)).2, .lst (gs.map grD)]) (ev_if (b := !decide (gs = [])) (et_is (et_test (ev_neO (k := 1) (xs := gs.map grD) (ev_var rfl) (ev_lst (xs := []) ea_nil (Nat.zero_le _)) rfl p1 rfl p2 (show 1 ≤ 64 by decide))) (by rw [eqD_nilX])) (fun h => ?_) (fun h => ?_))) ?_
  · have e : mnL gs = [1, 1, 2, 3] := if_neg (by simpa using h)
    rw [e]
    exact ev_wG (k := 0) (M1 := [sd y2, .lst (gs.map grD)]) (ds := [.lst ([1, 1, 2, 3].map .int)]) (ea_cons (ev_var rfl) (ea_cons (ev_lst (xs := [.int 1, .int 1, .int 2, .int 3]) (c4 1 1 2 3) (show 4 ≤ 1000 by decide)) ea_nil)) rfl (sdg y2) (R_oneN y2 [1, 1, 2, 3] (by decide) (by decide)) (sdg _) rfl
  · have e : mnL gs = [0, 0, 1, 2] := if_pos (by simpa using h)
    rw [e]
    exact ev_wG (k := 0) (M1 := [sd y2, .lst (gs.map grD)]) (ds := [.lst ([0, 0, 1, 2].map .int)]) (ea_cons (ev_var rfl) (ea_cons (ev_lst (xs := [.int 0, .int 0, .int 1, .int 2]) (c4 0 0 1 2) (show 4 ≤ 1000 by decide)) ea_nil)) rfl (sdg y2) (R_oneN y2 [0, 0, 1, 2] (by decide) (by decide)) (sdg _) rfl
  refine es_nG (G' := [_, _, _, _, _]) rfl ?_
  generalize oneI y2 (mnL gs) = m at *
  obtain ⟨m, y3⟩ := m
  simp only at hm0 ⊢
  obtain ⟨mn, rfl⟩ := Int.eq_ofNat_of_zero_le hm0.1
  rw [Int.toNat_natCast]
  refine es_nxw (G1 := [some (.o 0), some (.d (.lst (SOMEK.map Dt.str))), some (.o 1), some (.d (.int (0 + (y : Nat)))), some (.d (.int (mn : Nat)))]) (es_nxM (es_appO (k := 1) (xs := gs.map grD) (x := grD (mn, (oneT y3 SOMEK).1)) (M2 := [sd (oneT y3 SOMEK).2, .lst (gs.map grD)]) (ev_var rfl) (ev_tup (xs := [.int (mn : Nat), .str (oneT y3 SOMEK).1]) (ea_cons (ev_var rfl) (ea_cons (ev_wG (k := 0) (M1 := [sd y3, .lst (gs.map grD)]) (ds := [.lst (SOMEK.map .str)]) (ea_cons (ev_var rfl) (ea_cons (ev_var rfl) ea_nil)) rfl (sdg _) (R_oneS _ SOMEK (by decide) (by decide)) (sdg _) rfl) ea_nil)) (show 2 ≤ 1000 by decide)) ⟨_, rfl⟩ rfl (by rw [List.length_map]; omega)) (by rw [List.map_append] <;> rfl)) ?_
  exact lg_cons (lg_cons (lg_cons (lg_cons (lg_cons lg_nil (.inr rfl)) (.inr rfl)) (.inl rfl)) (.inl rfl)) (.inl rfl)
def R_txt : List Sl → List MO → Sl → List MO → Prop := fun ss M r M' => ∃ (gs : Gs) (f n dp : Nat), GsOk gs ∧ gs.length ≤ 5 ∧ f ≤ 3 ∧ n ≤ 100 ∧ 1 ≤ dp ∧ dp ≤ 9 ∧ dp ≤ n + 1 ∧ ss = [.d (.lst (gs.map grD)), .d (.int (f : Nat)), .d (.int (n : Nat)), .d (.int (dp : Nat))] ∧ M = [] ∧ r = .d (.str (txN true gs f n dp)) ∧ M' = []
theorem cal_txt (D : Df K mg "_law_text" s__law_text ["_law_rows_here", "_law_feeds", "_law_indent", "_law_deep"]) (m_int : mg "int" = none) (m_str : mg "str" = none) (m_min : mg "min" = none) (m_max : mg "max" = none) (m_enumerate : mg "enumerate" = none) : Cal P w K mg base 1 "_law_text" (SpR K 4 R_txt) [] := by
  refine cal_mk (k := 0) D sc__law_text rfl fun f cdv A outer s H E hr ss M r M' h => ?_
  obtain ⟨gs, f, n, dp, hok, hl, hf, hn, h1, h2, h3, rfl, rfl, rfl, rfl⟩ := h
  refine ⟨_, [], (pss_cons (ps_if (pt_cmpR (op_eqD (room64 hr)) (pv 0) (pe_lst pa_nil) (nomark _)) (pss_one (ps_ret (pe_op op_add_str (pe_op op_add_str pe_str (pe_ix ix_list (pe_lst (pa_cons pe_str (pa_cons pe_str pa_nil))) (pe_callTy call_int1 (by rfl) m_int (by decide +kernel) (pa_cons (pe_cmpR op_gt (pv 1) pe_int (nomark _)) pa_nil)) (fun _ _ => rfl))) (pe_op op_repN pe_str (pv 1))))) pss_nil) (pss_cons (ps_asg (pe_callTy call_int1 (by rfl) m_int (by decide +kernel) (pa_cons (pe_and (pe_cmpR op_eq (pv 2) pe_int (nomark _)) (pe_one (pe_cmpR (op_neD (room64 hr)) (pe_lc (own := [("_law_many", 10), ("_law_row", 11)]) (g := (gTup _ 2 (gCons (gName 10) (gCons (gName 11) gNil)))) (by rfl) sc__law_text.nd (pi_list (pv 0)) (blkOk_by (own := [("_law_many", 10), ("_law_row", 11)]) (N := N__law_text) (sc := defScope s__law_text) (by decide +kernel)) (fun _ _ _ _ _ => (pg_tup rfl (pgs_cons (pg_name (i := 10) sc__law_text.nd rfl (by first | exact .inl rfl | exact .inr rfl)) (pgs_cons (pg_name (i := 11) sc__law_text.nd rfl (by first | exact .inl rfl | exact .inr rfl)) pgs_nil)))) (fun _ _ _ _ _ => pts_one (pt_cmpR (show OpR _ (compareOp .In) (rIn K false) from op_in_seq) (pe_slice sl_str (pe_op op_add_str (pv 11) pe_str) po_none (po_some pe_int)) (pe_tup (pa_cons pe_str (pa_cons pe_str pa_nil))) (by rfl))) (fun _ _ _ _ _ => (pv 11))) (pe_lst pa_nil) (nomark _)))) pa_nil)) (pg_name (i := 4) sc__law_text.nd rfl (by first | exact .inl rfl | exact .inr rfl))) (pss_cons (ps_asg (pe_op op_add_str (pe_op op_add_str pe_str (pe_op op_repN (pe_callTy call_str_int (by rfl) m_str (by decide +kernel) (pa_cons (pe_op op_add (pv 3) (pv 4)) pa_nil)) (pe_callTy call_int1 (by rfl) m_int (by decide +kernel) (pa_cons (pe_cmpR op_eq (pe_ix ix_str (pe_ix ix_seq (pe_ix ix_list (pv 0) pe_int (fun _ _ => rfl)) pe_int (fun _ _ => rfl)) pe_int (fun _ _ => rfl)) pe_str (nomark _)) pa_nil)))) (pe_ix ix_list (pe_lst (pa_cons pe_str (pa_cons pe_str (pa_cons pe_str pa_nil)))) (pe_callB (call_min2 rfl) (by rfl) m_min (by decide +kernel) (pa_cons (pv 1) (pa_cons pe_int pa_nil))) (fun _ _ => rfl))) (pg_name (i := 5) sc__law_text.nd rfl (by first | exact .inl rfl | exact .inr rfl))) (pss_cons (ps_asg pe_str (pg_name (i := 6) sc__law_text.nd rfl (by first | exact .inl rfl | exact .inr rfl))) (pss_cons (ps_for PassesOwn.never rfl (pi_enum (by rfl) m_enumerate (pa_cons (pv 0) pa_nil)) (pg_tup rfl (pgs_cons (pg_name (i := 7) sc__law_text.nd rfl (by first | exact .inl rfl | exact .inr rfl)) (pgs_cons (pg_tup rfl (pgs_cons (pg_name (i := 10) sc__law_text.nd rfl (by first | exact .inl rfl | exact .inr rfl)) (pgs_cons (pg_name (i := 11) sc__law_text.nd rfl (by first | exact .inl rfl | exact .inr rfl)) pgs_nil))) pgs_nil))) (pss_cons (ps_asg (pe_and (pe_cmpR op_notIn_str (pe_ix ix_str (pv 11) pe_int (fun _ _ => rfl)) pe_str (by rfl)) (pe_one (pe_cmpR op_notIn_str (pe_ix ix_str (pv 6) pe_int (fun _ _ => rfl)) pe_str (by rfl)))) (pg_name (i := 8) sc__law_text.nd rfl (by first | exact .inl rfl | exact .inr rfl))) (pss_cons (ps_asg (pe_ifExp (PW.pt (pw_or (pt_cmpR op_eq (pv 7) pe_int (nomark _)) (pw_or1 (pt_val (pv 8))))) (pv 10) (pe_op op_sub (pv 10) pe_int)) (pg_name (i := 9) sc__law_text.nd rfl (by first | exact .inl rfl | exact .inr rfl))) (pss_cons (ps_asg (pe_op op_add_str (pe_op op_add_str (pe_op op_add_str (pv 5) (pe_op op_repN pe_str (pe_op op_add (pv 9) pe_int))) (pe_op op_repN pe_str (pe_op op_add (pv 2) (pv 4)))) (pv 11)) (pg_name (i := 5) sc__law_text.nd rfl (by first | exact .inl rfl | exact .inr rfl))) (pss_one (ps_asg (pv 11) (pg_name (i := 6) sc__law_text.nd rfl (by first | exact .inl rfl | exact .inr rfl)))))))) (pss_one (ps_ret (pe_op op_add_str (pv 5) (pe_op op_repN pe_str (pe_callB (call_max2 rfl) (by rfl) m_max (by decide +kernel) (pa_cons pe_int (pa_cons (pe_op op_sub (pv 1) pe_int) pa_nil)))))))))))), ?_, Nat.le_refl _, fun _ h => nomatch h⟩
  obtain ⟨p1, p2⟩ := pl_lst (gs_asc hok)
  have t0 : EvT K _ [some (.d (.lst (gs.map grD))), some (.d (.int (f : Nat))), some (.d (.int (n : Nat))), some (.d (.int (dp : Nat))), none, none, none, none, none, none, none, none] [] (decide (gs = [])) [] := et_is (et_test (ev_op (ev_var (i := 0) rfl) (ev_lst (xs := []) ea_nil (Nat.zero_le _)) (ro_eqDt p1 rfl p2 (show 1 ≤ 64 by decide)))) (eqD_nilX grD gs)
  have hT := tx_ok hok hl true (f := f) (n := n) (dp := dp) (a := 0) hf hn h1 h2 h3
  cases gs with
  | nil =>
    refine es_seqR (es_yes t0 rfl (es_retD (ev_op (ev_op (ev_str [62]) (ev_op (ev_lst (xs := [.str [45], .str [43]]) (ea_cons (ev_str _) (ea_cons (ev_str _) ea_nil)) (show 2 ≤ 1000 by decide)) (ev_cb (xs := [.bl (decide ((0 : Int) < (f : Nat)))]) (ea_cons (ev_op (ev_var rfl) ev_int ro_gt) ea_nil) rc_intB) (ro_ixL (x := .str (if f = 0 then [45] else [43])) ?_)) (ro_addS (by split <;> decide))) (ev_op (ev_str [10]) (ev_var rfl) (ro_repN (l := [10]) (by omega) (by omega) (by show 1 * ((f : Nat) : Int).toNat ≤ _; omega))) (ro_addS ?_)) ?_))
    · by_cases c : f = 0
      · rw [decide_eq_false (by omega), if_neg Bool.false_ne_true, if_pos c] <;> rfl
      · rw [decide_eq_true (by omega), if_pos rfl, if_neg c] <;> rfl
    · rw [fds_is, fds_len, List.length_append]
      have : (if f = 0 then ([45] : List Nat) else [43]).length = 1 := by split <;> rfl
      rw [this, List.length_singleton]
      omega
    · rw [fds_is]
      show Dt.str (([62] ++ (if f = 0 then [45] else [43])) ++ fds f) = Dt.str (62 :: ((if f = 0 then [45] else [43]) ++ tlL (List.replicate f [])))
      rw [tl_nils] <;> rfl
  | cons g r =>
    refine es_pass t0 ?_
    have hx0 : atI ((g :: r).map grD) 0 = some (grD g) := at0 _ _
    obtain ⟨q1, _, q3, _⟩ := row_facts g.2 (hok.row g List.mem_cons_self).1
    have hc0 : atI g.2 0 = some (g.2.getD 0 0) := by
      cases e : g.2 with
      | nil => exact absurd e q1
      | cons c l => exact at0 _ _
    have edg : dgN (g :: r) n dp = if g.2.getD 0 0 = 32 then dp + (if moreB (g :: r) n = true then 1 else 0) else 0 := rfl
    have ehd : hdN (g :: r) f n dp = toldN (dgN (g :: r) n dp) ++ kpN f := rfl
    have edp : dpN (g :: r) n = n + (if moreB (g :: r) n = true then 1 else 0) := by
      unfold dpN
      split
      · have := more_n ‹_›; omega
      · rfl
    obtain ⟨d1, _⟩ := dep_is hok (fo := true) (f := f) (N := 0) h1 h2 h3
    obtain ⟨_, _, _, _, _, hhl⟩ := hd_facts _ d1 _ (kp_mem f).1
    rw [← ehd] at hhl
    have etx : txN true (g :: r) f n dp = fdT (g :: r) f n dp (g :: r).length ++ fds (f - 1) := by
      unfold txN fdT
      rw [List.take_length]
      show 62 :: (hdN (g :: r) f n dp ++ tlL (lnG true (dpN (g :: r) n) [] (g :: r) ++ List.replicate (f - 1) [])) = _
      rw [tl_app, tl_nils]
      simp only [List.cons_append, List.append_assoc]
    have hmore : (if moreB (g :: r) n = true then 1 else 0) ≤ 1 ∧ (moreB (g :: r) n = true → dp = 1) := ⟨by split <;> decide, fun z => by have := more_n z; omega⟩
    have hdl : ∀ j, (fdT (g :: r) f n dp j).length ≤ 1000 := by
      intro j
      have hd : dpN (g :: r) n ≤ 101 := by rw [edp]; omega
      obtain ⟨k1, _⟩ := ln_facts (fo := true) (d := dpN (g :: r) n) ((g :: r).take j) [] fun x hx => hok.row x (List.mem_of_mem_take hx)
      have : ((g :: r).take j).length * (dpN (g :: r) n + 9) ≤ 5 * 110 := Nat.mul_le_mul (by rw [List.length_take]; omega) (by omega)
      unfold fdT
      rw [List.length_cons, List.length_append]
      omega
    generalize hms : g :: r = gs at *
    have hne : gs ≠ [] := by rw [← hms]; exact List.cons_ne_nil _ _
    generalize hmo : (if moreB gs n = true then 1 else 0) = mo at *
    have hfl : ∀ x ∈ (gs.filter fun g => mkL g.2).map (·.2), ∀ c ∈ x, c < 128 := fun x hx => by
      obtain ⟨y, hy, rfl⟩ := List.mem_map.mp hx
      exact gs_asc hok y (List.mem_filter.mp hy).1
    obtain ⟨p3, p4⟩ := plDs_strs hfl
    rw [List.map_map] at p3 p4
    replace p3 : plDs ((gs.filter fun g => mkL g.2).map fun g => Dt.str g.2) = true := p3
    replace p4 : dpDs ((gs.filter fun g => mkL g.2).map fun g => Dt.str g.2) = 0 := p4
    refine es_seq (es_asg (s := .d (.int (mo : Nat))) (M1 := []) (ev_isD (ev_cb (xs := [.bl (moreB gs n)]) (ea_cons (ev_isD (ev_andV (a := decide (((n : Nat) : Int) = 0)) (c := !decide ((gs.filter fun g => mkL g.2) = [])) (ev_op (ev_var rfl) ev_int ro_eqI) (fun _ => ev_isD (ev_op (ev_lcF gs grD (fun g => .str g.2) (fun g => mkL g.2) (ei_list (ev_var rfl)) (by omega) (hw_tup2 (by decide) (by decide)) fun x hx => ⟨_, eg_tup (egs_cons eg_name (egs_cons eg_name egs_nil)) rfl, et_is (et_test (ev_op (ev_isD (ev_slS (ev_op (ev_var rfl) (ev_str [32]) (ro_addS (by have := (row_facts x.2 (hok.row x hx).1).2.2.1; show _ + 1 ≤ _; omega))) eo_none (eo_some ev_int) (by rw [List.length_append]; have := (row_facts x.2 (hok.row x hx).1).2.2.1; show _ + 1 ≤ _; omega)) (show _ = Dt.str ((x.2 ++ [32]).take 4) by rw [show cutL (x.2 ++ [32]) none (some 4) = (x.2 ++ [32]).take 4 from cut_pre _ 4])) (ev_tup (xs := [[45, 45, 45, 32], [46, 46, 46, 32]].map Dt.str) (ea_cons (ev_str _) (ea_cons (ev_str _) ea_nil)) (show 2 ≤ 1000 by decide)) ro_inT)) rfl, fun _ => ev_var rfl⟩) (ev_lst (xs := []) ea_nil (Nat.zero_le _)) (ro_neDt p3 rfl (by show dpDs _ + 1 ≤ 64; rw [p4]; decide) (show 1 ≤ 64 by decide))) (by rw [eqD_nilX])) (fun _ => rfl)) (by rw [filter_more])) ea_nil) rc_intB) (by rw [← hmo]; split <;> rfl))) ?_
    refine es_nG (G' := [_, _, _, _, _, _, _, _, _, _, _, _]) rfl ?_
    have hb1 : dp + mo ≤ 9 := by
      have := hmore.1
      by_cases c : moreB gs n = true
      · have := hmore.2 c; omega
      · rw [if_neg c] at hmo; omega
    have hnum : (TL.numL (dp + mo)).length = 1 := by rw [TL.numL_lt (by omega)] <;> rfl
    refine es_seq (es_asg (s := .d (.str (62 :: hdN gs f n dp))) (M1 := []) (ev_isD (ev_op (ev_op (ev_str [62]) (ev_op (ev_cb (xs := [.int ((dp : Nat) + (mo : Nat) : Int)]) (ea_cons (ev_op (ev_var rfl) (ev_var rfl) ro_add) ea_nil) (rc_str (by
      have e : ((dp : Nat) + (mo : Nat) : Int).natAbs = dp + mo := by omega
      rw [e]
      exact Nat.lt_of_le_of_lt (Nat.log2_le_self _) (by omega)) (by omega))) (ev_cb (xs := [.bl (decide ([g.2.getD 0 0] = [32]))]) (ea_cons (ev_op (ev_op (ev_op (ev_op (ev_var rfl) ev_int (ro_ixL hx0)) ev_int (ro_ixT' (i := 1) (x := .str g.2) rfl)) ev_int (ro_ixS (by omega) hc0)) (ev_str [32]) ro_eqS) ea_nil) rc_intB) (ro_repN (l := TL.numL (dp + mo)) (by split <;> omega) (by split <;> omega) (by rw [hnum]; split <;> decide))) (ro_addS ?_)) (ev_op (ev_lst (xs := [.str [45], .str [], .str [43]]) (ea_cons (ev_str _) (ea_cons (ev_str _) (ea_cons (ev_str _) ea_nil))) (show 3 ≤ 1000 by decide)) (ev_cb (xs := [.int (f : Nat), .int 2]) (ea_cons (ev_var rfl) (ea_cons ev_int ea_nil)) rc_min2) (ro_ixL (x := .str (kpN f)) ?_)) (ro_addS ?_)) ?_)) ?_
    · rw [rep_len, hnum]
      split <;> decide
    · by_cases c0 : f = 0
      · subst c0; rfl
      · by_cases c1 : f = 1
        · subst c1; rfl
        · have : f = 2 ∨ f = 3 := by omega
          rcases this with e | e <;> subst e <;> rfl
    · have hk : (kpN f).length ≤ 1 := by
        unfold kpN
        split
        · decide
        · split <;> decide
      rw [List.length_append, rep_len, hnum]
      have : (if decide ([g.2.getD 0 0] = [32]) = true then (1 : Int) else 0).toNat ≤ 1 := by split <;> decide
      rw [List.length_singleton]
      omega
    · rw [ehd, edg]
      show Dt.str (([62] ++ (List.replicate (if decide ([g.2.getD 0 0] = [32]) = true then (1 : Int) else 0).toNat (TL.numL (dp + mo))).flatten) ++ kpN f) = _
      by_cases c : g.2.getD 0 0 = 32
      · rw [if_pos c, if_pos (decide_eq_true (by rw [c])), ← told_num (dp + mo) (List.mem_range.mpr (by omega)) (by omega)]
        show Dt.str (([62] ++ (TL.numL (dp + mo) ++ [])) ++ kpN f) = _
        rw [List.append_nil] <;> rfl
      · rw [if_neg c, if_neg (by
          rw [decide_eq_false (by
            intro z
            injection z with z _
            exact c z)]
          exact Bool.false_ne_true)] <;> rfl
    refine es_nG (G' := [_, _, _, _, _, _, _, _, _, _, _, _]) rfl ?_
    refine es_seq (es_asg (ev_str [32])) ?_
    have e0 : fdT gs f n dp 0 = 62 :: hdN gs f n dp := by
      show 62 :: (hdN gs f n dp ++ []) = _
      rw [List.append_nil]
    rw [← e0]
    refine es_nG (G' := [some (.d (.lst (gs.map grD))), some (.d (.int (f : Nat))), some (.d (.int (n : Nat))), some (.d (.int (dp : Nat))), some (.d (.int (mo : Nat))), some (.d (.str (fdT gs f n dp 0))), some (.d (.str (lsT gs 0))), none, none, none, none, none]) rfl ?_
    have hlen : (enumD 0 (gs.map grD)).length = gs.length := by
      have : ∀ (xs : List Dt) (k : Nat), (enumD k xs).length = xs.length := fun xs => by
        induction xs with
        | nil => exact fun _ => rfl
        | cons x xs ih => intro k; show (enumD (k + 1) xs).length + 1 = _; rw [ih] <;> rfl
      rw [this, List.length_map]
    refine es_seq (es_forNn (enumD 0 (gs.map grD)) gs.length hlen id (fun j => [some (.d (.lst (gs.map grD))), some (.d (.int (f : Nat))), some (.d (.int (n : Nat))), some (.d (.int (dp : Nat))), some (.d (.int (mo : Nat))), some (.d (.str (fdT gs f n dp j))), some (.d (.str (lsT gs j))), none, none, none, none, none]) (fun _ => []) (ei_is (ei_enum (ea_cons (ev_var rfl) ea_nil)) (by rw [List.map_id])) (Lg.refl _) fun j x hj hx => ?_) ?_
    · obtain ⟨g2, hg2⟩ : ∃ g2, gs[j]? = some g2 := ⟨_, List.getElem?_eq_getElem hj⟩
      rw [enumD_get, List.getElem?_map, hg2] at hx
      have hx := Option.some.inj hx
      subst hx
      refine ⟨_, eg_tup (egs_cons eg_name (egs_cons (eg_tup (egs_cons eg_name (egs_cons eg_name egs_nil)) rfl) egs_nil)) rfl, ?_⟩
      obtain ⟨s1, s2⟩ := fdT_step (f := f) (n := n) (dp := dp) hg2
      rw [s1, s2]
      have hmem : g2 ∈ gs := List.mem_of_getElem? hg2
      obtain ⟨w1, w2, w3, _⟩ := row_facts g2.2 (hok.row g2 hmem).1
      have hfl2 := hdl j
      have hls : lsT gs j ≠ [] ∧ (lsT gs j).length ≤ 5 ∧ (¬ j = 0 → lsT gs j = laG [] (gs.take j)) := by
        unfold lsT
        by_cases c : j = 0
        · rw [if_pos c]; exact ⟨by decide, by decide, fun z => absurd c z⟩
        · rw [if_neg c]
          obtain ⟨y, hy, e⟩ := la_mem (gs.take j) [] (fun z => by
            have := congrArg List.length z
            rw [List.length_take] at this
            have : min j gs.length = 0 := this
            omega)
          obtain ⟨y1, _, y3, _⟩ := row_facts y.2 (hok.row y (List.mem_of_mem_take hy)).1
          rw [e]
          exact ⟨y1, y3, fun _ => rfl⟩
      have hemp : (if (decide (((0 + j : Nat) : Int) = 0) || (bareL g2.2 && bareL (lsT gs j))) = true then ((g2.1 : Nat) : Int) else ((g2.1 : Nat) : Int) - 1) = ((empN true (laG [] (gs.take j)) g2 : Nat) : Int) := by
        by_cases c : j = 0
        · subst c
          rfl
        · have hne2 : laG [] (gs.take j) ≠ [] := by rw [← hls.2.2 c]; exact hls.1
          have h1g : 1 ≤ g2.1 := by
            cases gs with
            | nil => exact absurd rfl hne
            | cons a b =>
              cases j with
              | zero => exact absurd rfl c
              | succ j => exact hok.later g2 (List.mem_of_getElem? (show b[j]? = some g2 from hg2))
          rw [decide_eq_false (by omega), Bool.false_or, hls.2.2 c]
          unfold empN
          rw [if_neg hne2, Bool.true_and, Bool.and_comm (bareL g2.2)]
          by_cases c2 : (bareL (laG [] (gs.take j)) && bareL g2.2) = true
          · rw [if_pos c2, if_pos c2]
          · rw [if_neg c2, if_neg c2]
            omega
      have he5 : empN true (laG [] (gs.take j)) g2 ≤ 3 := Nat.le_trans emp_le (hok.row g2 hmem).2
      generalize empN true (laG [] (gs.take j)) g2 = em at *
      generalize fdT gs f n dp j = ft at *
      obtain ⟨l1, l2, _⟩ := hls
      generalize lsT gs j = la at *
      have hc1 : atI g2.2 0 = some (g2.2.getD 0 0) := by
        cases e : g2.2 with
        | nil => exact absurd e w1
        | cons c l => exact at0 _ _
      have hc2 : atI la 0 = some (la.getD 0 0) := by
        cases la with
        | nil => exact absurd rfl l1
        | cons c l => exact at0 _ _
      refine es_seq (es_asg (s := .d (.bl (bareL g2.2 && bareL la))) (M1 := []) (ev_andV (ev_isD (ev_op (ev_op (ev_var rfl) ev_int (ro_ixS (c := g2.2.getD 0 0) (by omega) hc1)) (ev_str [32, 9]) ro_ninS) (show _ = Dt.bl (bareL g2.2) by unfold bareL; rw [sub_one])) (fun _ => ev_isD (ev_op (ev_op (ev_var rfl) ev_int (ro_ixS (c := la.getD 0 0) (by omega) hc2)) (ev_str [32, 9]) ro_ninS) (show _ = Dt.bl (bareL la) by unfold bareL; rw [sub_one])) (fun _ => rfl))) ?_
      refine es_nG (G' := [_, _, _, _, _, _, _, _, _, _, _, _]) rfl ?_
      refine es_seq (es_asg (s := .d (.int (em : Nat))) (M1 := []) (ev_isD (ev_iteI (et_or (et_test (ev_op (ev_var rfl) ev_int ro_eqI)) (fun _ => et_B (ev_var rfl)) (fun _ => rfl)) (fun _ => ev_var rfl) (fun _ => ev_op (ev_var rfl) ev_int ro_sub)) (by rw [hemp]))) ?_
      refine es_nG (G' := [_, _, _, _, _, _, _, _, _, _, _, _]) rfl ?_
      refine es_seq (es_asg (s := .d (.str (ft ++ (fds (em + 1) ++ (List.replicate (dpN gs n) 32 ++ g2.2))))) (M1 := []) (ev_isD (ev_op (ev_op (ev_op (ev_var rfl) (ev_isD (ev_op (ev_str [10]) (ev_op (ev_var rfl) ev_int ro_add) (ro_repN (l := [10]) (by omega) (by omega) (by show 1 * ((em : Nat) + 1 : Int).toNat ≤ _; omega))) (show _ = Dt.str (fds (em + 1)) by rw [show ((em : Nat) + 1 : Int) = ((em + 1 : Nat) : Int) by omega, fds_is])) (ro_addS (by rw [fds_len]; omega))) (ev_isD (ev_op (ev_str [32]) (ev_op (ev_var rfl) (ev_var rfl) ro_add) (ro_repN (l := [32]) (by omega) (by omega) (by show 1 * ((n : Nat) + (mo : Nat) : Int).toNat ≤ _; omega))) (show _ = Dt.str (List.replicate (dpN gs n) 32) by rw [show ((n : Nat) + (mo : Nat) : Int) = ((dpN gs n : Nat) : Int) by rw [edp]; omega]; exact congrArg Dt.str (spcs_nat _))) (ro_addS (by rw [List.length_append, fds_len, List.length_replicate, edp]; omega))) (ev_var rfl) (ro_addS (by rw [List.length_append, List.length_append, fds_len, List.length_replicate, edp]; omega))) (by simp only [List.append_assoc]))) ?_
      refine es_nG (G' := [_, _, _, _, _, _, _, _, _, _, _, _]) rfl ?_
      exact es_nxw (es_asg (ev_var rfl)) (lg_cons (lg_cons (lg_cons (lg_cons (lg_cons (lg_cons (lg_cons (lg_cons (lg_cons (lg_cons (lg_cons (lg_cons lg_nil (.inr rfl)) (.inr rfl)) (.inr rfl)) (.inr rfl)) (.inr rfl)) (.inl rfl)) (.inl rfl)) (.inl rfl)) (.inl rfl)) (.inl rfl)) (.inl rfl)) (.inl rfl))
    · have hfl2 := hdl gs.length
      rw [etx]
      exact es_ret (ev_op (ev_var rfl) (ev_isD (ev_op (ev_str [10]) (ev_isD (ev_cb (xs := [.int 0, .int (((f : Nat) : Int) - 1)]) (ea_cons ev_int (ea_cons (ev_op (ev_var rfl) ev_int ro_sub) ea_nil)) rc_max2) (show _ = Dt.int ((f - 1 : Nat) : Int) by congr 1; split <;> omega)) (ro_repN (l := [10]) (by omega) (by omega) (by show 1 * ((f - 1 : Nat) : Int).toNat ≤ _; omega))) (show _ = Dt.str (fds (f - 1)) by rw [fds_is])) (ro_addS (by rw [fds_len]; omega)))
end
end T
namespace T
open PySem PySem.Spec PyProof.Rows L2 DJ LJ LamX
/-! ### the law -/
abbrev s_law : Stmt := topS 79
abbrev N_law : List Str := ["_law_script", "_law_cell", "_law_state", "_law_turn", "_law_deep", "_law_value", "_law_text_here", "_law_other", "_law_told", "_law_rows_here", "_law_feeds", "_law_indent", "_law_many", "_law_row"]
theorem sc_law : FnScope N_law ["_law_script"] (defScope s_law) := ⟨rfl, rfl, rfl, by decide +kernel, rfl, by decide +kernel, by decide +kernel⟩
theorem cells_is (ns : List Int) : cutL (ns.map Dt.int) none (some 6) ++ [Dt.int 0] = (ns.take 6 ++ [0]).map Dt.int := by
  rw [show cutL (ns.map Dt.int) none (some 6) = (ns.map Dt.int).take 6 from cutL_to _ 6, map_take, List.map_append] <;> rfl
def mn9 (z : Int) : Int := if z < 9 then z else 9
def i0W (x : Sd) : Int × Sd := digitW (digitW (rwW x).2 4).2 10
def drI (late : Bool) (x : Sd) : Int × Sd := if late = true then oneI (digitW (i0W x).2 50).2 [100, 99, 50 + (digitW (i0W x).2 50).1] else i0W x
theorem drI_ok (late : Bool) (x : Sd) : 0 ≤ (drI late x).1 ∧ (drI late x).1 ≤ 100 := by
  have h1 := digit_lt (digitW (rwW x).2 4).2 (n := 10) (by decide)
  unfold drI
  cases late with
  | false => exact ⟨h1.1, by show (digitW _ 10).1 ≤ 100; omega⟩
  | true =>
    rw [if_pos rfl]
    have h4 := digit_lt (i0W x).2 (n := 50) (by decide)
    generalize digitW (i0W x).2 50 = b at *
    have h5 := oneI_mem b.2 (ys := [100, 99, 50 + b.1]) (by simp)
    simp only [List.mem_cons, List.not_mem_nil, or_false] at h5
    omega
def stT (j : Nat) (x : Sd) : Sd := (digitW (drI (decide (j = 9)) x).2 (mn9 ((drI (decide (j = 9)) x).1 + 1))).2
theorem fl_is : ∀ gs : Gs, (gs.map fun g => fds g.1 ++ g.2).flatten = flV gs
  | [] => rfl
  | g :: r => by
    rw [List.map_cons, List.flatten_cons, fl_is r, List.append_assoc] <;> rfl
theorem fl_ok : ∀ {gs : Gs}, (∀ g ∈ gs, g.2 ∈ SOMEK ∧ g.1 ≤ 3) → (flV gs).length ≤ 8 * gs.length ∧ (flV gs).all goodC = true
  | [], _ => ⟨Nat.le_refl _, rfl⟩
  | g :: r, h => by
    obtain ⟨q1, q2⟩ := fl_ok fun x hx => h x (List.mem_cons_of_mem g hx)
    obtain ⟨h1, h2⟩ := h g List.mem_cons_self
    obtain ⟨_, _, n3, n4, _⟩ := row_facts g.2 h1
    refine ⟨?_, ?_⟩
    · show (fds g.1 ++ (g.2 ++ flV r)).length ≤ 8 * (r.length + 1)
      rw [List.length_append, List.length_append, fds_len]
      omega
    · show (fds g.1 ++ (g.2 ++ flV r)).all goodC = true
      rw [List.all_append, List.all_append, fds_good, n4, q2] <;> rfl
theorem sum_lens : ∀ gs : Gs, ((gs.map fun g => fds g.1 ++ g.2).map (·.length)).sum = (flV gs).length
  | [] => rfl
  | g :: r => by
    rw [List.map_cons, List.map_cons, List.sum_cons, sum_lens r]
    show _ = (fds g.1 ++ (g.2 ++ flV r)).length
    rw [List.length_append, List.length_append, List.length_append]
    omega
section
variable {P : Program} {w : World} {K : PySem.W.Frag} {mg : Str → Option Value} {base : Heap}
def R_law : List Sl → List MO → Sl → List MO → Prop := fun ss M r M' => ∃ ns : List Int, ns.length ≤ 63 ∧ ss = [.d (.lst (ns.map .int))] ∧ M = [] ∧ r = .d (.bl true) ∧ M' = []
theorem cal_law (D : Df K mg "law" s_law ["_law_script"]) (f_written : Cal P w K mg base 7 "written" (SpR K 6 R_wr) []) (f_read_scalar : Cal P w K mg base 10 "read_scalar" (SpR K 5 R_rsN) []) (f__law_digit : Cal P w K mg base 1 "_law_digit" (SpR K 2 R_digit) []) (f__law_one : Cal P w K mg base 2 "_law_one" (SpR K 2 R_one) []) (f__law_rows : Cal P w K mg base 3 "_law_rows" (SpR K 1 R_rows) []) (f__law_text : Cal P w K mg base 1 "_law_text" (SpR K 4 R_txt) []) (m_range : mg "range" = none) (m_min : mg "min" = none) : CalF P w K mg base 11 "law" s_law ["_law_script"] (SpR K 1 R_law) := by
  refine cal_mkF (k := 10) D sc_law rfl fun f cdv A outer s H E hr ss M r M' h => ?_
  obtain ⟨ns, hn, rfl, rfl, rfl, rfl⟩ := h
  refine ⟨_, [], (pss_cons (ps_for PassesOwn.never rfl (pi_list (pe_op op_cat (pe_slice sl_list (pv 0) po_none (po_some pe_int)) (pe_lst (pa_cons pe_int pa_nil)))) (pg_name (i := 1) sc_law.nd rfl (by first | exact .inl rfl | exact .inr rfl)) (pss_cons (ps_asg (pe_lst (pa_cons (pv 1) pa_nil)) (pg_name (i := 2) sc_law.nd rfl (by first | exact .inl rfl | exact .inr rfl))) (pss_one (ps_for PassesOwn.never rfl (pi_range1 (by rfl) m_range (pa_cons pe_int pa_nil)) (pg_name (i := 3) sc_law.nd rfl (by first | exact .inl rfl | exact .inr rfl)) (pss_cons (ps_par3 (i := 9) (j := 10) (l := 11) (by rfl) sc_law.nd rfl rfl rfl (by decide) (by decide) (by decide) rfl rfl rfl (pa_cons (pe_c f__law_rows hr (by omega) (by rfl) (pa_cons (pv 2) pa_nil)) (pa_cons (pe_c f__law_digit hr (by omega) (by rfl) (pa_cons (pv 2) (pa_cons pe_int pa_nil))) (pa_cons (pe_c f__law_digit hr (by omega) (by rfl) (pa_cons (pv 2) (pa_cons pe_int pa_nil))) pa_nil))) (by rfl)) (pss_cons (ps_if (pt_cmpR op_eq (pv 3) pe_int (nomark _)) (pss_one (ps_asg (pe_c f__law_one hr (by omega) (by rfl) (pa_cons (pv 2) (pa_cons (pe_lst (pa_cons pe_int (pa_cons pe_int (pa_cons (pe_op op_add pe_int (pe_c f__law_digit hr (by omega) (by rfl) (pa_cons (pv 2) (pa_cons pe_int pa_nil)))) pa_nil)))) pa_nil))) (pg_name (i := 11) sc_law.nd rfl (by first | exact .inl rfl | exact .inr rfl)))) pss_nil) (pss_cons (ps_asg (pe_op op_add pe_int (pe_c f__law_digit hr (by omega) (by rfl) (pa_cons (pv 2) (pa_cons (pe_callB (call_min2 rfl) (by rfl) m_min (by decide +kernel) (pa_cons pe_int (pa_cons (pe_op op_add (pv 11) pe_int) pa_nil))) pa_nil)))) (pg_name (i := 4) sc_law.nd rfl (by first | exact .inl rfl | exact .inr rfl))) (pss_cons (ps_asg (pe_op op_add_str (pe_m1 PySem.F.slot_str_join PySem.F.type_str_join mt_join pe_str (pe_lc (own := [("_law_many", 12), ("_law_row", 13)]) (g := (gTup _ 2 (gCons (gName 12) (gCons (gName 13) gNil)))) (by rfl) sc_law.nd (pi_list (pv 9)) (blkOk_by (own := [("_law_many", 12), ("_law_row", 13)]) (N := N_law) (sc := defScope s_law) (by decide +kernel)) (fun _ _ _ _ _ => (pg_tup rfl (pgs_cons (pg_name (i := 12) sc_law.nd rfl (by first | exact .inl rfl | exact .inr rfl)) (pgs_cons (pg_name (i := 13) sc_law.nd rfl (by first | exact .inl rfl | exact .inr rfl)) pgs_nil)))) (fun _ _ _ _ _ => pts_nil) (fun _ _ _ _ _ => (pe_op op_add_str (pe_op op_repN pe_str (pv 12)) (pv 13))))) (pe_op op_repN pe_str (pv 10))) (pg_name (i := 5) sc_law.nd rfl (by first | exact .inl rfl | exact .inr rfl))) (pss_cons (ps_asg (pe_c f_written hr (by omega) (by rfl) (pa_cons (pv 5) (pa_cons pe_str (pa_cons pe_str (pa_cons (pv 11) (pa_cons pe_int (pa_cons (pv 4) pa_nil))))))) (pg_name (i := 6) sc_law.nd rfl (by first | exact .inl rfl | exact .inr rfl))) (pss_cons (ps_if (pt_cmpR op_ne (pv 6) (pe_c f__law_text hr (by omega) (by rfl) (pa_cons (pv 9) (pa_cons (pv 10) (pa_cons (pv 11) (pa_cons (pv 4) pa_nil))))) (nomark _)) (pss_one (ps_ret pe_bl)) pss_nil) (pss_cons (ps_asg (pe_c f_written hr (by omega) (by rfl) (pa_cons (pv 5) (pa_cons pe_str (pa_cons pe_str (pa_cons (pv 11) (pa_cons pe_int (pa_cons (pv 4) pa_nil))))))) (pg_name (i := 7) sc_law.nd rfl (by first | exact .inl rfl | exact .inr rfl))) (pss_cons (ps_asg (pe_lst (pa_cons (pe_c f_read_scalar hr (by omega) (by rfl) (pa_cons (pv 6) (pa_cons pe_str (pa_cons pe_str (pa_cons (pv 11) (pa_cons (pv 4) pa_nil)))))) pa_nil)) (pg_name (i := 8) sc_law.nd rfl (by first | exact .inl rfl | exact .inr rfl))) (pss_cons (ps_expr (pe_bm PySem.F.plainAttrs_list PySem.F.slot_list_append PySem.F.type_list_append mt_append (pv 8) (pa_cons (pe_c f_read_scalar hr (by omega) (by rfl) (pa_cons (pv 7) (pa_cons pe_str (pa_cons pe_str (pa_cons (pv 11) (pa_cons (pv 4) pa_nil)))))) pa_nil))) (pss_one (ps_if (PW.pt (pw_or (pt_cmpR (op_neD (room64 hr)) (pv 8) (pe_op op_rep (pe_lst (pa_cons (pv 5) pa_nil)) pe_int) (nomark _)) (pw_or1 (pt_cmpR op_notN (pe_c f_read_scalar hr (by omega) (by rfl) (pa_cons (pv 6) (pa_cons pe_str (pa_cons pe_str (pa_cons (pv 11) (pa_cons (pv 4) pa_nil)))))) pe_non (nomark _))))) (pss_one (ps_ret pe_bl)) pss_nil))))))))))))))) (pss_one (ps_ret pe_bl))), ?_, Nat.le_refl _, fun _ h => nomatch h⟩
  refine es_seq (M1 := []) (G1 := [some (.d (.lst (ns.map .int))), none, none, none, none, none, none, none, none, none, none, none, none, none]) ?_ (es_ret ev_bl)
  refine es_forN (ns.take 6 ++ [0]) Dt.int (fun _ => [some (.d (.lst (ns.map .int))), none, none, none, none, none, none, none, none, none, none, none, none, none]) (fun _ => []) (ei_is (ei_list (ev_wk (ev_op (ev_slL (ev_var rfl) eo_none (eo_some ev_int)) (ev_lstX (xs := [.int 0]) (ea_cons ev_int ea_nil) (show 1 ≤ 1000 by decide)) (ro_cat ?_)) lstX_lst)) (cells_is ns)) (Lg.refl _) fun i c hc => ⟨_, eg_name, .inl ?_⟩
  · have := cutL_len (ns.map Dt.int) none (some 6)
    rw [List.length_map] at this
    rw [List.length_singleton]
    omega
  refine es_nxT (X := [sd ((List.range 10).foldl (fun x j => stT j x) (.inl c))]) ?_ (by simp)
  refine es_seq (es_asg (ev_lstO (xs := [.int c]) (ea_cons (ev_var rfl) ea_nil) (show 1 ≤ 1000 by decide))) ?_
  refine es_nG (G' := [_, _, _, _, _, _, _, _, _, _, _, _, _, _]) rfl ?_
  refine es_nM (M' := [sd (.inl c)]) rfl ?_
  refine es_nxw (es_forA (List.range 10) (fun i => .int (0 + (i : Nat))) (fun _ => [some (.d (.lst (ns.map .int))), none, some (.o 0), none, none, none, none, none, none, none, none, none, none, none]) (fun x => [sd x]) (fun x j => stT j x) (.inl c) (ei_rng1 (n := 10) (ea_cons ev_int ea_nil) (by decide)) (lg_cons (lg_cons (lg_cons (lg_cons (lg_cons (lg_cons (lg_cons (lg_cons (lg_cons (lg_cons (lg_cons (lg_cons (lg_cons (lg_cons lg_nil (.inl rfl)) (.inl rfl)) (.inl rfl)) (.inl rfl)) (.inl rfl)) (.inl rfl)) (.inl rfl)) (.inl rfl)) (.inl rfl)) (.inl rfl)) (.inl rfl)) (.inl rfl)) (.inr rfl)) (.inl rfl)) fun x j _ => ⟨_, eg_name, ?_⟩) (lg_cons (lg_cons (lg_cons (lg_cons (lg_cons (lg_cons (lg_cons (lg_cons (lg_cons (lg_cons (lg_cons (lg_cons (lg_cons (lg_cons lg_nil (.inl rfl)) (.inl rfl)) (.inl rfl)) (.inl rfl)) (.inl rfl)) (.inl rfl)) (.inl rfl)) (.inl rfl)) (.inl rfl)) (.inl rfl)) (.inl rfl)) (.inr rfl)) (.inl rfl)) (.inl rfl))
  refine es_seq (es_par3 (x := .d (.lst ((rwW x).1.map grD))) (y := .d (.int (digitW (rwW x).2 4).1)) (z := .d (.int (i0W x).1)) (M1 := [sd (i0W x).2]) (ea_cons (ev_w (ds := []) (ea_cons (ev_var rfl) ea_nil) (sdg x) (⟨x, rfl, rfl, rfl, rfl⟩ : R_rows _ _ _ _) (sdg _) rfl) (ea_cons (ev_w (ds := [.int 4]) (ea_cons (ev_var rfl) (ea_cons ev_int ea_nil)) (sdg _) (R_digI _ 4 (by decide) (by decide)) (sdg _) rfl) (ea_cons (ev_w (ds := [.int 10]) (ea_cons (ev_var rfl) (ea_cons ev_int ea_nil)) (sdg _) (R_digI _ 10 (by decide) (by decide)) (sdg _) rfl) ea_nil)))) ?_
  refine es_nG (G' := [_, _, _, _, _, _, _, _, _, _, _, _, _, _]) rfl ?_
  have hf := digit_lt (rwW x).2 (n := 4) (by decide)
  obtain ⟨hok, hgl⟩ := rwW_ok x
  refine es_seq (G1 := [some (.d (.lst (ns.map .int))), none, some (.o 0), some (.d (.int (0 + (j : Nat)))), none, none, none, none, none, some (.d (.lst ((rwW x).1.map grD))), some (.d (.int (digitW (rwW x).2 4).1)), some (.d (.int (drI (decide (j = 9)) x).1)), none, none]) (M1 := [sd (drI (decide (j = 9)) x).2]) ?_ ?_
  · have tst : EvT K _ [some (.d (.lst (ns.map .int))), none, some (.o 0), some (.d (.int (0 + (j : Nat)))), none, none, none, none, none, some (.d (.lst ((rwW x).1.map grD))), some (.d (.int (digitW (rwW x).2 4).1)), some (.d (.int (i0W x).1)), none, none] [sd (i0W x).2] (decide (j = 9)) [sd (i0W x).2] := et_is (et_test (ev_op (ev_var (i := 3) rfl) ev_int ro_eqI)) (show decide ((0 + ((j : Nat) : Int)) = 9) = decide (j = 9) from decide_eq_decide.mpr (by omega))
    unfold drI
    by_cases hj : j = 9
    · rw [decide_eq_true hj, if_pos rfl]
      refine es_yes tst (decide_eq_true hj) ?_
      have hb := digit_lt (i0W x).2 (n := 50) (by decide)
      generalize (i0W x).2 = y0 at *
      exact es_nxw (es_asg (s := .d (.int (oneI (digitW y0 50).2 [100, 99, 50 + (digitW y0 50).1]).1)) (M1 := [sd (oneI (digitW y0 50).2 [100, 99, 50 + (digitW y0 50).1]).2]) (ev_w (m := sd (digitW y0 50).2) (ds := [.lst ([100, 99, 50 + (digitW y0 50).1].map .int)]) (ea_cons (ev_var rfl) (ea_cons (ev_lst (xs := [100, 99, 50 + (digitW y0 50).1].map Dt.int) (ea_cons ev_int (ea_cons ev_int (ea_cons (ev_op ev_int (ev_w (ds := [.int 50]) (ea_cons (ev_var rfl) (ea_cons ev_int ea_nil)) (sdg _) (R_digI y0 50 (by decide) (by decide)) (sdg _) rfl) ro_add) ea_nil))) (show 3 ≤ 1000 by decide)) ea_nil)) (sdg _) (R_oneN _ [100, 99, 50 + (digitW y0 50).1] (by simp) (show 3 ≤ 100000 by decide)) (sdg _) rfl)) (Lg.refl _)
    · rw [decide_eq_false hj, if_neg Bool.false_ne_true]
      exact es_nxw (es_no tst (decide_eq_false hj) es_next) (Lg.refl _)
  have hy := drI_ok (decide (j = 9)) x
  unfold stT
  generalize drI (decide (j = 9)) x = y at *
  generalize (digitW (rwW x).2 4).1 = fz at *
  generalize (rwW x).1 = gs at *
  obtain ⟨i, y2⟩ := y
  simp only at hy ⊢
  obtain ⟨hi0, hi1⟩ := hy
  obtain ⟨n, rfl⟩ := Int.eq_ofNat_of_zero_le hi0
  obtain ⟨f, rfl⟩ := Int.eq_ofNat_of_zero_le hf.1
  have hm9 : 0 < mn9 ((n : Int) + 1) ∧ mn9 ((n : Int) + 1) ≤ 9 ∧ mn9 ((n : Int) + 1) ≤ (n : Int) + 1 := by unfold mn9; split <;> omega
  have hp := digit_lt y2 (n := mn9 ((n : Int) + 1)) hm9.1
  refine es_seq (es_asg (s := .d (.int (1 + (digitW y2 (mn9 ((n : Int) + 1))).1))) (M1 := [sd (digitW y2 (mn9 ((n : Int) + 1))).2]) (ev_op ev_int (ev_w (ds := [.int (mn9 ((n : Int) + 1))]) (ea_cons (ev_var rfl) (ea_cons (ev_cb (xs := [.int 9, .int ((n : Int) + 1)]) (ea_cons ev_int (ea_cons (ev_op (ev_var rfl) ev_int ro_add) ea_nil)) rc_min2) ea_nil)) (sdg _) (R_digI y2 _ hm9.1 (by omega)) (sdg _) rfl) ro_add)) ?_
  refine es_nG (G' := [_, _, _, _, _, _, _, _, _, _, _, _, _, _]) rfl ?_
  generalize digitW y2 (mn9 ((n : Int) + 1)) = pp at *
  obtain ⟨p, y3⟩ := pp
  simp only at hp ⊢
  obtain ⟨pn, rfl⟩ := Int.eq_ofNat_of_zero_le hp.1
  obtain ⟨dp, hdp⟩ : ∃ dp : Nat, (1 + ((pn : Nat) : Int)) = ((dp : Nat) : Int) := ⟨1 + pn, by omega⟩
  rw [hdp]
  have h1 : 1 ≤ dp := by omega
  have h2 : dp ≤ 9 := by omega
  have h3 : dp ≤ n + 1 := by omega
  have hf3 : f ≤ 3 := by omega
  have hn100 : n ≤ 100 := by omega
  obtain ⟨v1, v2⟩ := fl_ok hok.row
  have hvl : (vlV gs f).length ≤ 100 := by unfold vlV; rw [List.length_append, fds_len]; omega
  have hvg : (vlV gs f).all goodC = true := by unfold vlV; rw [List.all_append, v2, fds_good] <;> rfl
  have hva := good_asc hvg
  refine es_seq (es_asg (s := .d (.str (vlV gs f))) (M1 := [sd y3]) (ev_op (ev_isD (ev_m1 (ev_str []) (ev_isD (ev_lcM gs grD (fun g => .str (fds g.1 ++ g.2)) (ei_list (ev_var rfl)) (by omega) (hw_tup2 (by decide) (by decide)) fun g hg => ⟨_, eg_tup (egs_cons eg_name (egs_cons eg_name egs_nil)) rfl, ev_op (ev_isD (ev_op (ev_str [10]) (ev_var rfl) (ro_repN (l := [10]) (by omega) (by have := (hok.row g hg).2; omega) (by have := (hok.row g hg).2; show 1 * ((g.1 : Nat) : Int).toNat ≤ _; omega))) (show _ = Dt.str (fds g.1) by rw [fds_is])) (ev_var rfl) (ro_addS (by have := (hok.row g hg).2; have := (row_facts g.2 (hok.row g hg).1).2.2.1; rw [fds_len]; omega))⟩) (show _ = Dt.lst ((gs.map fun g => fds g.1 ++ g.2).map Dt.str) by rw [List.map_map] <;> rfl)) (rm_join (xs := gs.map fun g => fds g.1 ++ g.2) (by rw [sum_lens]; show _ + _ * 0 ≤ _; omega))) (show _ = Dt.str (flV gs) by rw [joinL_nil, fl_is])) (ev_isD (ev_op (ev_str [10]) (ev_var rfl) (ro_repN (l := [10]) (by omega) (by omega) (by show 1 * ((f : Nat) : Int).toNat ≤ _; omega))) (show _ = Dt.str (fds f) by rw [fds_is])) (ro_addS (by rw [fds_len]; omega)))) ?_
  refine es_nG (G' := [_, _, _, _, _, _, _, _, _, _, _, _, _, _]) rfl ?_
  have wr : ∀ fo : Bool, R_wr ([.str (vlV gs f), .str (styF fo), .str BLK, .int (n : Nat), .int 0, .int (dp : Nat)].map Sl.d) [] (.d (.str (txN fo gs f n dp))) [] := fun fo => ⟨vlV gs f, fo, n, dp, hvl, hvg, by omega, by omega, by omega, by omega, by omega, rfl, rfl, by rw [block_is hok fo h1 h2 h3], rfl⟩
  refine es_seq (es_asg (ev_call0 (ds := [.str (vlV gs f), .str (styF true), .str BLK, .int (n : Nat), .int 0, .int (dp : Nat)]) (es := []) (z := .str (txN true gs f n dp)) (ea_cons (ev_var rfl) (ea_cons (ev_str FLD) (ea_cons (ev_str _) (ea_cons (ev_var rfl) (ea_cons ev_int (ea_cons (ev_var rfl) ea_nil)))))) (wr true) rfl (fun _ => rfl))) ?_
  refine es_nG (G' := [_, _, _, _, _, _, _, _, _, _, _, _, _, _]) rfl ?_
  refine es_pass (et_is (et_test (ev_op (ev_var rfl) (ev_call0 (ds := [.lst (gs.map grD), .int (f : Nat), .int (n : Nat), .int (dp : Nat)]) (es := []) (z := .str (txN true gs f n dp)) (ea_cons (ev_var rfl) (ea_cons (ev_var rfl) (ea_cons (ev_var rfl) (ea_cons (ev_var rfl) ea_nil)))) (⟨gs, f, n, dp, hok, hgl, hf3, hn100, h1, h2, h3, rfl, rfl, rfl, rfl⟩ : R_txt _ _ _ _) rfl (fun _ => rfl)) ro_neS)) (by simp)) ?_
  refine es_seq (es_asg (ev_call0 (ds := [.str (vlV gs f), .str (styF false), .str BLK, .int (n : Nat), .int 0, .int (dp : Nat)]) (es := []) (z := .str (txN false gs f n dp)) (ea_cons (ev_var rfl) (ea_cons (ev_str LIT) (ea_cons (ev_str _) (ea_cons (ev_var rfl) (ea_cons ev_int (ea_cons (ev_var rfl) ea_nil)))))) (wr false) rfl (fun _ => rfl))) ?_
  refine es_nG (G' := [_, _, _, _, _, _, _, _, _, _, _, _, _, _]) rfl ?_
  have rs : ∀ fo : Bool, R_rsN ([.str (txN fo gs f n dp), .str (styF fo), .str BLK, .int (n : Nat), .int (dp : Nat)].map Sl.d) [] (.d (.str (vlV gs f))) [] := fun fo => .inl ⟨txN fo gs f n dp, BLK, hdN gs f n dp, styF fo, lsN fo gs f n, _, n, dp, ⟨tx_ok hok hgl fo hf3 hn100 h1 h2 h3, by decide, by omega, by omega, by omega, by omega, rfl⟩, rfl, by rw [rs_is hok fo _ h1 h2 h3] <;> rfl, rfl⟩
  have tok := tx_ok hok hgl true (a := 0) hf3 hn100 h1 h2 h3
  have rn : R_rsN ([.str (txN true gs f n dp), .str LIT, .str BLK, .int (n : Nat), .int (dp : Nat)].map Sl.d) [] (.d .non) [] := .inr ⟨txN true gs f n dp, BLK, LIT, 124, n, dp, ⟨tok.len, tok.good, by decide, by decide, by
    show ¬ [62] = [124]
    decide, by decide, by omega, by omega, by omega, by omega, rfl⟩, rfl, rfl, rfl⟩
  refine es_nxU (M' := [sd y3]) (X := [.lst [.str (vlV gs f), .str (vlV gs f)]]) ?_ rfl (fun k hk => by simp at hk; rw [hk]; exact Nat.zero_lt_one)
  refine es_seq (es_asg (ev_lstO (M1 := [sd y3]) (xs := [.str (vlV gs f)]) (ea_cons (ev_call0 (ds := [.str (txN true gs f n dp), .str (styF true), .str BLK, .int (n : Nat), .int (dp : Nat)]) (es := []) (z := .str (vlV gs f)) (ea_cons (ev_var rfl) (ea_cons (ev_str FLD) (ea_cons (ev_str _) (ea_cons (ev_var rfl) (ea_cons (ev_var rfl) ea_nil))))) (rs true) rfl (fun _ => rfl)) ea_nil) (show 1 ≤ 1000 by decide))) ?_
  refine es_nG (G' := [_, _, _, _, _, _, _, _, _, _, _, _, _, _]) rfl ?_
  refine es_nM (M' := [sd y3, .lst [.str (vlV gs f)]]) rfl ?_
  refine es_seq (es_appO (k := 1) (xs := [.str (vlV gs f)]) (x := .str (vlV gs f)) (M2 := [sd y3, .lst [.str (vlV gs f)]]) (ev_var rfl) (ev_call0 (ds := [.str (txN false gs f n dp), .str (styF false), .str BLK, .int (n : Nat), .int (dp : Nat)]) (es := []) (z := .str (vlV gs f)) (ea_cons (ev_var rfl) (ea_cons (ev_str LIT) (ea_cons (ev_str _) (ea_cons (ev_var rfl) (ea_cons (ev_var rfl) ea_nil))))) (rs false) rfl (fun _ => rfl)) ⟨_, rfl⟩ rfl (show 1 < 1000000 by decide)) ?_
  refine es_nM (M' := [sd y3, .lst [.str (vlV gs f), .str (vlV gs f)]]) rfl ?_
  have hpl : plD (.lst [.str (vlV gs f), .str (vlV gs f)]) = true := by
    obtain ⟨q, _⟩ := plDs_strs (xs := [vlV gs f, vlV gs f]) (fun x hx c hc => by
      have : x = vlV gs f := by simpa using hx
      rw [this] at hc
      exact hva c hc)
    exact q
  exact es_nxw (es_no (b := false) (et_or (b := false) (c := false) (et_is (et_test (ev_neO (k := 1) (xs := [.str (vlV gs f), .str (vlV gs f)]) (ev_var rfl) (ev_wk (ev_op (ev_lstX (xs := [.str (vlV gs f)]) (ea_cons (ev_var rfl) ea_nil) (show 1 ≤ 1000 by decide)) ev_int (ro_rep (k := 2) (show 1 * 2 ≤ 100000 by decide) (by decide))) lstX_lst) rfl hpl hpl (show 1 ≤ 64 by decide) (show 1 ≤ 64 by decide))) (by rw [show (List.replicate 2 [Dt.str (vlV gs f)]).flatten = [.str (vlV gs f), .str (vlV gs f)] from rfl, eqD_self _ hpl] <;> rfl)) (fun _ => et_is (et_test (ev_op (ev_call0 (ds := [.str (txN true gs f n dp), .str LIT, .str BLK, .int (n : Nat), .int (dp : Nat)]) (es := []) (z := oS none) (ea_cons (ev_var rfl) (ea_cons (ev_str LIT) (ea_cons (ev_str _) (ea_cons (ev_var rfl) (ea_cons (ev_var rfl) ea_nil))))) rn rfl (fun _ => rfl)) ev_non ro_notN)) rfl) (fun h => nomatch h)) rfl es_next) (lg_cons (lg_cons (lg_cons (lg_cons (lg_cons (lg_cons (lg_cons (lg_cons (lg_cons (lg_cons (lg_cons (lg_cons (lg_cons (lg_cons lg_nil (.inl rfl)) (.inl rfl)) (.inr rfl)) (.inr rfl)) (.inr rfl)) (.inr rfl)) (.inr rfl)) (.inr rfl)) (.inr rfl)) (.inr rfl)) (.inr rfl)) (.inl rfl)) (.inl rfl)) (.inl rfl))
end
end T
namespace T
open PySem PySem.Spec PyProof.Rows L2 DJ LJ LamX
/-! ### the end: what the top has left -/
theorem all_mk {l : PySem.W.OpenLaw} {w : World} {K : PySem.W.Frag} {h : Heap} {mg : Str → Option Value} {fa : Addr} (X : K.In h) (G : h.Ns mainGlobals mg) (hfa : mg "law" = some (.ref fa))
    {ClX0 NX0 IX0 HX0 : Addr} {nX0 qX0 : Str} {bsX0 bmX0 suX0 : List Value} {snX0 : List Str} {abX0 : Bool} {coX0 : Option Bool} {ddX0 ioX0 iaX0 dqX0 : Option Addr} {m0X0 m1X0 m2X0 m3X0 m5X0 : Option Value}
    {icX0 ikX0 idX0 ipX0 ieX0 itX0 dcX0 : Value} {isX0 dsX0 : Array (Option Value)} {diX0 : Array Value} {dnX0 : Nat}
    {dB : Addr} {esB : Array DictEntry} {nB : Nat}
    {dS : Addr} {esS : Array DictEntry} {nS : Nat}
    {ClN faI faT : Addr}
    {ocXI kVXI dcXI pmXI cdXI ctXI : Value} {odXI anXI : Option Addr} {slXI : Array (Option Value)}
    {ocXT kVXT dcXT pmXT cdXT ctXT : Value} {odXT anXT : Option Addr} {slXT : Array (Option Value)}
    {f0 f1 f2 f3 f4 f5 f6 f7 f8 f9 f10 f11 f12 f13 f14 f15 f16 f17 f18 f19 f20 f21 f22 f23 f24 f25 f26 f27 f28 f29 f30 f31 f32 f33 f34 f35 f36 f37 f38 f39 f40 f41 g0 g1 g2 g3 g4 h21 h36 : Addr}
    {od0 od1 od2 od3 od4 od5 od6 od7 od8 od9 od10 od11 od12 od13 od14 od15 od16 od17 od18 od19 od20 od21 od22 od23 od24 od25 od26 od27 od28 od29 od30 od31 od32 od33 od34 od35 od36 od37 od38 od39 od40 od41 od42 od43 od44 od45 od46 an0 an1 an2 an3 an4 an5 an6 an7 an8 an9 an10 an11 an12 an13 an14 an15 an16 an17 an18 an19 an20 an21 an22 an23 an24 an25 an26 an27 an28 an29 an30 an31 an32 an33 an34 an35 an36 an37 an38 an39 an40 an41 : Option Addr}
    {sl0 sl1 sl2 sl3 sl4 sl5 sl6 sl7 sl8 sl9 sl10 sl11 sl12 sl13 sl14 sl15 sl16 sl17 sl18 sl19 sl20 sl21 sl22 sl23 sl24 sl25 sl26 sl27 sl28 sl29 sl30 sl31 sl32 sl33 sl34 sl35 sl36 sl37 sl38 sl39 sl40 sl41 sl42 sl43 sl44 sl45 sl46 : Array (Option Value)}
    {oc0 oc1 oc2 oc3 oc4 oc5 oc6 oc7 oc8 oc9 oc10 oc11 oc12 oc13 oc14 oc15 oc16 oc17 oc18 oc19 oc20 oc21 oc22 oc23 oc24 oc25 oc26 oc27 oc28 oc29 oc30 oc31 oc32 oc33 oc34 oc35 oc36 oc37 oc38 oc39 oc40 oc41 kV0 kV1 kV2 kV3 kV4 kV5 kV6 kV7 kV8 kV9 kV10 kV11 kV12 kV13 kV14 kV15 kV16 kV17 kV18 kV19 kV20 kV21 kV22 kV23 kV24 kV25 kV26 kV27 kV28 kV29 kV30 kV31 kV32 kV33 kV34 kV35 kV36 kV37 kV38 kV39 kV40 kV41 dc0 dc1 dc2 dc3 dc4 dc5 dc6 dc7 dc8 dc9 dc10 dc11 dc12 dc13 dc14 dc15 dc16 dc17 dc18 dc19 dc20 dc21 dc22 dc23 dc24 dc25 dc26 dc27 dc28 dc29 dc30 dc31 dc32 dc33 dc34 dc35 dc36 dc37 dc38 dc39 dc40 dc41 pm0 pm1 pm2 pm3 pm4 pm5 pm6 pm7 pm8 pm9 pm10 pm11 pm12 pm13 pm14 pm15 pm16 pm17 pm18 pm19 pm20 pm21 pm22 pm23 pm24 pm25 pm26 pm27 pm28 pm29 pm30 pm31 pm32 pm33 pm34 pm35 pm36 pm37 pm38 pm39 pm40 pm41 cd0 cd1 cd2 cd3 cd4 cd5 cd6 cd7 cd8 cd9 cd10 cd11 cd12 cd13 cd14 cd15 cd16 cd17 cd18 cd19 cd20 cd21 cd22 cd23 cd24 cd25 cd26 cd27 cd28 cd29 cd30 cd31 cd32 cd33 cd34 cd35 cd36 cd37 cd38 cd39 cd40 cd41 ct0 ct1 ct2 ct3 ct4 ct5 ct6 ct7 ct8 ct9 ct10 ct11 ct12 ct13 ct14 ct15 ct16 ct17 ct18 ct19 ct20 ct21 ct22 ct23 ct24 ct25 ct26 ct27 ct28 ct29 ct30 ct31 ct32 ct33 ct34 ct35 ct36 ct37 ct38 ct39 ct40 ct41 : Value}
    {tc0 tc1 tc2 tc3 tc4 : Value}
    {ti0 ti1 ti2 ti3 ti4 : Array Value}
    {tn0 tn1 tn2 tn3 tn4 : Nat}
    {tS0 tS1 tS2 : Tok}
    {tI0 : Tok}
    {qc21 : Value} {qo21 : Option Addr} {qi21 : Array Value} {qn21 : Nat} {qs21 : Array (Option Value)}
    {qc36 : Value} {qo36 : Option Addr} {qi36 : Array Value} {qn36 : Nat} {qs36 : Array (Option Value)}
    (a0 : PySem.W.nsIn K mainGlobals "is_foreign" = some (some (.ref f0)))
    (l0 : K.lookup f0 = some ⟨oc0, od0, .func (PySem.W.fnOf "is_foreign" "is_foreign" (defArgs s_is_foreign) (defBody s_is_foreign) (defScope s_is_foreign) .none kV0 dc0 pm0 an0 cd0 ct0), sl0⟩)
    (c0 : PySem.W.codeIn K cd0 "is_foreign" = true)
    (k0 : PySem.W.keepIn K (.ref f0) = true)
    (a1 : PySem.W.nsIn K mainGlobals "is_sign" = some (some (.ref f1)))
    (l1 : K.lookup f1 = some ⟨oc1, od1, .func (PySem.W.fnOf "is_sign" "is_sign" (defArgs s_is_sign) (defBody s_is_sign) (defScope s_is_sign) .none kV1 dc1 pm1 an1 cd1 ct1), sl1⟩)
    (c1 : PySem.W.codeIn K cd1 "is_sign" = true)
    (k1 : PySem.W.keepIn K (.ref f1) = true)
    (a2 : PySem.W.nsIn K mainGlobals "is_safe" = some (some (.ref f2)))
    (l2 : K.lookup f2 = some ⟨oc2, od2, .func (PySem.W.fnOf "is_safe" "is_safe" (defArgs s_is_safe) (defBody s_is_safe) (defScope s_is_safe) .none kV2 dc2 pm2 an2 cd2 ct2), sl2⟩)
    (c2 : PySem.W.codeIn K cd2 "is_safe" = true)
    (k2 : PySem.W.keepIn K (.ref f2) = true)
    (a3 : PySem.W.nsIn K mainGlobals "begins_plain" = some (some (.ref f3)))
    (l3 : K.lookup f3 = some ⟨oc3, od3, .func (PySem.W.fnOf "begins_plain" "begins_plain" (defArgs s_begins_plain) (defBody s_begins_plain) (defScope s_begins_plain) .none kV3 dc3 pm3 an3 cd3 ct3), sl3⟩)
    (c3 : PySem.W.codeIn K cd3 "begins_plain" = true)
    (k3 : PySem.W.keepIn K (.ref f3) = true)
    (a4 : PySem.W.nsIn K mainGlobals "check" = some (some (.ref f4)))
    (l4 : K.lookup f4 = some ⟨oc4, od4, .func (PySem.W.fnOf "check" "check" (defArgs s_check) (defBody s_check) (defScope s_check) .none kV4 dc4 pm4 an4 cd4 ct4), sl4⟩)
    (c4 : PySem.W.codeIn K cd4 "check" = true)
    (k4 : PySem.W.keepIn K (.ref f4) = true)
    (a5 : PySem.W.nsIn K mainGlobals "check_style" = some (some (.ref f5)))
    (l5 : K.lookup f5 = some ⟨oc5, od5, .func (PySem.W.fnOf "check_style" "check_style" (defArgs s_check_style) (defBody s_check_style) (defScope s_check_style) .none kV5 dc5 pm5 an5 cd5 ct5), sl5⟩)
    (c5 : PySem.W.codeIn K cd5 "check_style" = true)
    (k5 : PySem.W.keepIn K (.ref f5) = true)
    (a6 : PySem.W.nsIn K mainGlobals "is_text" = some (some (.ref f6)))
    (l6 : K.lookup f6 = some ⟨oc6, od6, .func (PySem.W.fnOf "is_text" "is_text" (defArgs s_is_text) (defBody s_is_text) (defScope s_is_text) .none kV6 dc6 pm6 an6 cd6 ct6), sl6⟩)
    (c6 : PySem.W.codeIn K cd6 "is_text" = true)
    (k6 : PySem.W.keepIn K (.ref f6) = true)
    (a7 : PySem.W.nsIn K mainGlobals "is_value" = some (some (.ref f7)))
    (l7 : K.lookup f7 = some ⟨oc7, od7, .func (PySem.W.fnOf "is_value" "is_value" (defArgs s_is_value) (defBody s_is_value) (defScope s_is_value) .none kV7 dc7 pm7 an7 cd7 ct7), sl7⟩)
    (c7 : PySem.W.codeIn K cd7 "is_value" = true)
    (k7 : PySem.W.keepIn K (.ref f7) = true)
    (a8 : PySem.W.nsIn K mainGlobals "is_word" = some (some (.ref f8)))
    (l8 : K.lookup f8 = some ⟨oc8, od8, .func (PySem.W.fnOf "is_word" "is_word" (defArgs s_is_word) (defBody s_is_word) (defScope s_is_word) .none kV8 dc8 pm8 an8 cd8 ct8), sl8⟩)
    (c8 : PySem.W.codeIn K cd8 "is_word" = true)
    (k8 : PySem.W.keepIn K (.ref f8) = true)
    (a9 : PySem.W.nsIn K mainGlobals "has_text" = some (some (.ref f9)))
    (l9 : K.lookup f9 = some ⟨oc9, od9, .func (PySem.W.fnOf "has_text" "has_text" (defArgs s_has_text) (defBody s_has_text) (defScope s_has_text) .none kV9 dc9 pm9 an9 cd9 ct9), sl9⟩)
    (c9 : PySem.W.codeIn K cd9 "has_text" = true)
    (k9 : PySem.W.keepIn K (.ref f9) = true)
    (a10 : PySem.W.nsIn K mainGlobals "has_white_beside_feed" = some (some (.ref f10)))
    (l10 : K.lookup f10 = some ⟨oc10, od10, .func (PySem.W.fnOf "has_white_beside_feed" "has_white_beside_feed" (defArgs s_has_white_beside_feed) (defBody s_has_white_beside_feed) (defScope s_has_white_beside_feed) .none kV10 dc10 pm10 an10 cd10 ct10), sl10⟩)
    (c10 : PySem.W.codeIn K cd10 "has_white_beside_feed" = true)
    (k10 : PySem.W.keepIn K (.ref f10) = true)
    (a11 : PySem.W.nsIn K mainGlobals "fits_plain" = some (some (.ref f11)))
    (l11 : K.lookup f11 = some ⟨oc11, od11, .func (PySem.W.fnOf "fits_plain" "fits_plain" (defArgs s_fits_plain) (defBody s_fits_plain) (defScope s_fits_plain) .none kV11 dc11 pm11 an11 cd11 ct11), sl11⟩)
    (c11 : PySem.W.codeIn K cd11 "fits_plain" = true)
    (k11 : PySem.W.keepIn K (.ref f11) = true)
    (a12 : PySem.W.nsIn K mainGlobals "is_like_mark" = some (some (.ref f12)))
    (l12 : K.lookup f12 = some ⟨oc12, od12, .func (PySem.W.fnOf "is_like_mark" "is_like_mark" (defArgs s_is_like_mark) (defBody s_is_like_mark) (defScope s_is_like_mark) .none kV12 dc12 pm12 an12 cd12 ct12), sl12⟩)
    (c12 : PySem.W.codeIn K cd12 "is_like_mark" = true)
    (k12 : PySem.W.keepIn K (.ref f12) = true)
    (a13 : PySem.W.nsIn K mainGlobals "ahead_of" = some (some (.ref f13)))
    (l13 : K.lookup f13 = some ⟨oc13, od13, .func (PySem.W.fnOf "ahead_of" "ahead_of" (defArgs s_ahead_of) (defBody s_ahead_of) (defScope s_ahead_of) .none kV13 dc13 pm13 an13 cd13 ct13), sl13⟩)
    (c13 : PySem.W.codeIn K cd13 "ahead_of" = true)
    (k13 : PySem.W.keepIn K (.ref f13) = true)
    (a14 : PySem.W.nsIn K mainGlobals "filled" = some (some (.ref f14)))
    (l14 : K.lookup f14 = some ⟨oc14, od14, .func (PySem.W.fnOf "filled" "filled" (defArgs s_filled) (defBody s_filled) (defScope s_filled) .none kV14 dc14 pm14 an14 cd14 ct14), sl14⟩)
    (c14 : PySem.W.codeIn K cd14 "filled" = true)
    (k14 : PySem.W.keepIn K (.ref f14) = true)
    (a15 : PySem.W.nsIn K mainGlobals "words_of" = some (some (.ref f15)))
    (l15 : K.lookup f15 = some ⟨oc15, od15, .func (PySem.W.fnOf "words_of" "words_of" (defArgs s_words_of) (defBody s_words_of) (defScope s_words_of) .none kV15 dc15 pm15 an15 cd15 ct15), sl15⟩)
    (c15 : PySem.W.codeIn K cd15 "words_of" = true)
    (k15 : PySem.W.keepIn K (.ref f15) = true)
    (a16 : PySem.W.nsIn K mainGlobals "block_lines" = some (some (.ref f16)))
    (l16 : K.lookup f16 = some ⟨oc16, od16, .func (PySem.W.fnOf "block_lines" "block_lines" (defArgs s_block_lines) (defBody s_block_lines) (defScope s_block_lines) .none kV16 dc16 pm16 an16 cd16 ct16), sl16⟩)
    (c16 : PySem.W.codeIn K cd16 "block_lines" = true)
    (k16 : PySem.W.keepIn K (.ref f16) = true)
    (a17 : PySem.W.nsIn K mainGlobals "block_text" = some (some (.ref f17)))
    (l17 : K.lookup f17 = some ⟨oc17, od17, .func (PySem.W.fnOf "block_text" "block_text" (defArgs s_block_text) (defBody s_block_text) (defScope s_block_text) .none kV17 dc17 pm17 an17 cd17 ct17), sl17⟩)
    (c17 : PySem.W.codeIn K cd17 "block_text" = true)
    (k17 : PySem.W.keepIn K (.ref f17) = true)
    (a18 : PySem.W.nsIn K mainGlobals "text_of_scalar" = some (some (.ref f18)))
    (l18 : K.lookup f18 = some ⟨oc18, od18, .func (PySem.W.fnOf "text_of_scalar" "text_of_scalar" (defArgs s_text_of_scalar) (defBody s_text_of_scalar) (defScope s_text_of_scalar) .none kV18 dc18 pm18 an18 cd18 ct18), sl18⟩)
    (c18 : PySem.W.codeIn K cd18 "text_of_scalar" = true)
    (k18 : PySem.W.keepIn K (.ref f18) = true)
    (a19 : PySem.W.nsIn K mainGlobals "is_whole" = some (some (.ref f19)))
    (l19 : K.lookup f19 = some ⟨oc19, od19, .func (PySem.W.fnOf "is_whole" "is_whole" (defArgs s_is_whole) (defBody s_is_whole) (defScope s_is_whole) .none kV19 dc19 pm19 an19 cd19 ct19), sl19⟩)
    (c19 : PySem.W.codeIn K cd19 "is_whole" = true)
    (k19 : PySem.W.keepIn K (.ref f19) = true)
    (a20 : PySem.W.nsIn K mainGlobals "check_deep" = some (some (.ref f20)))
    (l20 : K.lookup f20 = some ⟨oc20, od20, .func (PySem.W.fnOf "check_deep" "check_deep" (defArgs s_check_deep) (defBody s_check_deep) (defScope s_check_deep) .none kV20 dc20 pm20 an20 cd20 ct20), sl20⟩)
    (c20 : PySem.W.codeIn K cd20 "check_deep" = true)
    (k20 : PySem.W.keepIn K (.ref f20) = true)
    (a21 : PySem.W.nsIn K mainGlobals "written" = some (some (.ref f21)))
    (l21 : K.lookup f21 = some ⟨oc21, od21, .func (PySem.W.fnOf "written" "written" (defArgs s_written) (defBody s_written) (defScope s_written) (.ref h21) kV21 dc21 pm21 an21 cd21 ct21), sl21⟩)
    (r21 : K.lookup h21 = some ⟨qc21, qo21, .seq qi21 qn21, qs21⟩)
    (s21 : intsOf [0, 1] qi21.toList = true)
    (c21 : PySem.W.codeIn K cd21 "written" = true)
    (k21 : PySem.W.keepIn K (.ref f21) = true)
    (a22 : PySem.W.nsIn K mainGlobals "past_blanks" = some (some (.ref f22)))
    (l22 : K.lookup f22 = some ⟨oc22, od22, .func (PySem.W.fnOf "past_blanks" "past_blanks" (defArgs s_past_blanks) (defBody s_past_blanks) (defScope s_past_blanks) .none kV22 dc22 pm22 an22 cd22 ct22), sl22⟩)
    (c22 : PySem.W.codeIn K cd22 "past_blanks" = true)
    (k22 : PySem.W.keepIn K (.ref f22) = true)
    (a23 : PySem.W.nsIn K mainGlobals "line_end" = some (some (.ref f23)))
    (l23 : K.lookup f23 = some ⟨oc23, od23, .func (PySem.W.fnOf "line_end" "line_end" (defArgs s_line_end) (defBody s_line_end) (defScope s_line_end) .none kV23 dc23 pm23 an23 cd23 ct23), sl23⟩)
    (c23 : PySem.W.codeIn K cd23 "line_end" = true)
    (k23 : PySem.W.keepIn K (.ref f23) = true)
    (a24 : PySem.W.nsIn K mainGlobals "past_line" = some (some (.ref f24)))
    (l24 : K.lookup f24 = some ⟨oc24, od24, .func (PySem.W.fnOf "past_line" "past_line" (defArgs s_past_line) (defBody s_past_line) (defScope s_past_line) .none kV24 dc24 pm24 an24 cd24 ct24), sl24⟩)
    (c24 : PySem.W.codeIn K cd24 "past_line" = true)
    (k24 : PySem.W.keepIn K (.ref f24) = true)
    (a25 : PySem.W.nsIn K mainGlobals "is_mark" = some (some (.ref f25)))
    (l25 : K.lookup f25 = some ⟨oc25, od25, .func (PySem.W.fnOf "is_mark" "is_mark" (defArgs s_is_mark) (defBody s_is_mark) (defScope s_is_mark) .none kV25 dc25 pm25 an25 cd25 ct25), sl25⟩)
    (c25 : PySem.W.codeIn K cd25 "is_mark" = true)
    (k25 : PySem.W.keepIn K (.ref f25) = true)
    (a26 : PySem.W.nsIn K mainGlobals "mark_reach" = some (some (.ref f26)))
    (l26 : K.lookup f26 = some ⟨oc26, od26, .func (PySem.W.fnOf "mark_reach" "mark_reach" (defArgs s_mark_reach) (defBody s_mark_reach) (defScope s_mark_reach) .none kV26 dc26 pm26 an26 cd26 ct26), sl26⟩)
    (c26 : PySem.W.codeIn K cd26 "mark_reach" = true)
    (k26 : PySem.W.keepIn K (.ref f26) = true)
    (a27 : PySem.W.nsIn K mainGlobals "is_rest" = some (some (.ref f27)))
    (l27 : K.lookup f27 = some ⟨oc27, od27, .func (PySem.W.fnOf "is_rest" "is_rest" (defArgs s_is_rest) (defBody s_is_rest) (defScope s_is_rest) .none kV27 dc27 pm27 an27 cd27 ct27), sl27⟩)
    (c27 : PySem.W.codeIn K cd27 "is_rest" = true)
    (k27 : PySem.W.keepIn K (.ref f27) = true)
    (a28 : PySem.W.nsIn K mainGlobals "found_indentation" = some (some (.ref f28)))
    (l28 : K.lookup f28 = some ⟨oc28, od28, .func (PySem.W.fnOf "found_indentation" "found_indentation" (defArgs s_found_indentation) (defBody s_found_indentation) (defScope s_found_indentation) .none kV28 dc28 pm28 an28 cd28 ct28), sl28⟩)
    (c28 : PySem.W.codeIn K cd28 "found_indentation" = true)
    (k28 : PySem.W.keepIn K (.ref f28) = true)
    (a29 : PySem.W.nsIn K mainGlobals "content_lines" = some (some (.ref f29)))
    (l29 : K.lookup f29 = some ⟨oc29, od29, .func (PySem.W.fnOf "content_lines" "content_lines" (defArgs s_content_lines) (defBody s_content_lines) (defScope s_content_lines) .none kV29 dc29 pm29 an29 cd29 ct29), sl29⟩)
    (c29 : PySem.W.codeIn K cd29 "content_lines" = true)
    (k29 : PySem.W.keepIn K (.ref f29) = true)
    (a30 : PySem.W.nsIn K mainGlobals "last_content" = some (some (.ref f30)))
    (l30 : K.lookup f30 = some ⟨oc30, od30, .func (PySem.W.fnOf "last_content" "last_content" (defArgs s_last_content) (defBody s_last_content) (defScope s_last_content) .none kV30 dc30 pm30 an30 cd30 ct30), sl30⟩)
    (c30 : PySem.W.codeIn K cd30 "last_content" = true)
    (k30 : PySem.W.keepIn K (.ref f30) = true)
    (a31 : PySem.W.nsIn K mainGlobals "body_of" = some (some (.ref f31)))
    (l31 : K.lookup f31 = some ⟨oc31, od31, .func (PySem.W.fnOf "body_of" "body_of" (defArgs s_body_of) (defBody s_body_of) (defScope s_body_of) .none kV31 dc31 pm31 an31 cd31 ct31), sl31⟩)
    (c31 : PySem.W.codeIn K cd31 "body_of" = true)
    (k31 : PySem.W.keepIn K (.ref f31) = true)
    (a32 : PySem.W.nsIn K mainGlobals "value_of" = some (some (.ref f32)))
    (l32 : K.lookup f32 = some ⟨oc32, od32, .func (PySem.W.fnOf "value_of" "value_of" (defArgs s_value_of) (defBody s_value_of) (defScope s_value_of) .none kV32 dc32 pm32 an32 cd32 ct32), sl32⟩)
    (c32 : PySem.W.codeIn K cd32 "value_of" = true)
    (k32 : PySem.W.keepIn K (.ref f32) = true)
    (a33 : PySem.W.nsIn K mainGlobals "read_block_scalar" = some (some (.ref f33)))
    (l33 : K.lookup f33 = some ⟨oc33, od33, .func (PySem.W.fnOf "read_block_scalar" "read_block_scalar" (defArgs s_read_block_scalar) (defBody s_read_block_scalar) (defScope s_read_block_scalar) .none kV33 dc33 pm33 an33 cd33 ct33), sl33⟩)
    (c33 : PySem.W.codeIn K cd33 "read_block_scalar" = true)
    (k33 : PySem.W.keepIn K (.ref f33) = true)
    (a34 : PySem.W.nsIn K mainGlobals "block_value" = some (some (.ref f34)))
    (l34 : K.lookup f34 = some ⟨oc34, od34, .func (PySem.W.fnOf "block_value" "block_value" (defArgs s_block_value) (defBody s_block_value) (defScope s_block_value) .none kV34 dc34 pm34 an34 cd34 ct34), sl34⟩)
    (c34 : PySem.W.codeIn K cd34 "block_value" = true)
    (k34 : PySem.W.keepIn K (.ref f34) = true)
    (a35 : PySem.W.nsIn K mainGlobals "value_read" = some (some (.ref f35)))
    (l35 : K.lookup f35 = some ⟨oc35, od35, .func (PySem.W.fnOf "value_read" "value_read" (defArgs s_value_read) (defBody s_value_read) (defScope s_value_read) .none kV35 dc35 pm35 an35 cd35 ct35), sl35⟩)
    (c35 : PySem.W.codeIn K cd35 "value_read" = true)
    (k35 : PySem.W.keepIn K (.ref f35) = true)
    (a36 : PySem.W.nsIn K mainGlobals "read_scalar" = some (some (.ref f36)))
    (l36 : K.lookup f36 = some ⟨oc36, od36, .func (PySem.W.fnOf "read_scalar" "read_scalar" (defArgs s_read_scalar) (defBody s_read_scalar) (defScope s_read_scalar) (.ref h36) kV36 dc36 pm36 an36 cd36 ct36), sl36⟩)
    (r36 : K.lookup h36 = some ⟨qc36, qo36, .seq qi36 qn36, qs36⟩)
    (s36 : intsOf [1] qi36.toList = true)
    (c36 : PySem.W.codeIn K cd36 "read_scalar" = true)
    (k36 : PySem.W.keepIn K (.ref f36) = true)
    (a37 : PySem.W.nsIn K mainGlobals "_law_digit" = some (some (.ref f37)))
    (l37 : K.lookup f37 = some ⟨oc37, od37, .func (PySem.W.fnOf "_law_digit" "_law_digit" (defArgs s__law_digit) (defBody s__law_digit) (defScope s__law_digit) .none kV37 dc37 pm37 an37 cd37 ct37), sl37⟩)
    (c37 : PySem.W.codeIn K cd37 "_law_digit" = true)
    (k37 : PySem.W.keepIn K (.ref f37) = true)
    (a38 : PySem.W.nsIn K mainGlobals "_law_one" = some (some (.ref f38)))
    (l38 : K.lookup f38 = some ⟨oc38, od38, .func (PySem.W.fnOf "_law_one" "_law_one" (defArgs s__law_one) (defBody s__law_one) (defScope s__law_one) .none kV38 dc38 pm38 an38 cd38 ct38), sl38⟩)
    (c38 : PySem.W.codeIn K cd38 "_law_one" = true)
    (k38 : PySem.W.keepIn K (.ref f38) = true)
    (a39 : PySem.W.nsIn K mainGlobals "_law_rows" = some (some (.ref f39)))
    (l39 : K.lookup f39 = some ⟨oc39, od39, .func (PySem.W.fnOf "_law_rows" "_law_rows" (defArgs s__law_rows) (defBody s__law_rows) (defScope s__law_rows) .none kV39 dc39 pm39 an39 cd39 ct39), sl39⟩)
    (c39 : PySem.W.codeIn K cd39 "_law_rows" = true)
    (k39 : PySem.W.keepIn K (.ref f39) = true)
    (a40 : PySem.W.nsIn K mainGlobals "_law_text" = some (some (.ref f40)))
    (l40 : K.lookup f40 = some ⟨oc40, od40, .func (PySem.W.fnOf "_law_text" "_law_text" (defArgs s__law_text) (defBody s__law_text) (defScope s__law_text) .none kV40 dc40 pm40 an40 cd40 ct40), sl40⟩)
    (c40 : PySem.W.codeIn K cd40 "_law_text" = true)
    (k40 : PySem.W.keepIn K (.ref f40) = true)
    (a41 : PySem.W.nsIn K mainGlobals "law" = some (some (.ref f41)))
    (l41 : K.lookup f41 = some ⟨oc41, od41, .func (PySem.W.fnOf "law" "law" (defArgs s_law) (defBody s_law) (defScope s_law) .none kV41 dc41 pm41 an41 cd41 ct41), sl41⟩)
    (c41 : PySem.W.codeIn K cd41 "law" = true)
    (k41 : PySem.W.keepIn K (.ref f41) = true)
    (b0 : PySem.W.nsIn K mainGlobals "FEED" = some (some (.str (tx [10]) tS0)))
    (b1 : PySem.W.nsIn K mainGlobals "BRACKETS" = some (some (.str (tx BRK) tS1)))
    (b2 : PySem.W.nsIn K mainGlobals "NOT_FIRST" = some (some (.str (tx NF) tS2)))
    (p0 : PySem.W.nsIn K mainGlobals "MOST_SIGNS" = some (some (.int (3000 : Nat) tI0)))
    (u0 : PySem.W.nsIn K mainGlobals "STYLES_scalars" = some (some (.ref g0)))
    (v0 : K.lookup g0 = some ⟨tc0, od42, .seq ti0 tn0, sl42⟩)
    (w0 : tc0 = .type "tuple")
    (x0 : ti0.size ≤ 1000)
    (y0 : strsOf STYS ti0.toList = true)
    (u1 : PySem.W.nsIn K mainGlobals "CONTEXTS" = some (some (.ref g1)))
    (v1 : K.lookup g1 = some ⟨tc1, od43, .seq ti1 tn1, sl43⟩)
    (w1 : tc1 = .type "tuple")
    (x1 : ti1.size ≤ 1000)
    (y1 : strsOf CTXS ti1.toList = true)
    (u2 : PySem.W.nsIn K mainGlobals "INSIDE" = some (some (.ref g2)))
    (v2 : K.lookup g2 = some ⟨tc2, od44, .seq ti2 tn2, sl44⟩)
    (w2 : tc2 = .type "tuple")
    (x2 : ti2.size ≤ 1000)
    (y2 : strsOf INS ti2.toList = true)
    (u3 : PySem.W.nsIn K mainGlobals "FLAT" = some (some (.ref g3)))
    (v3 : K.lookup g3 = some ⟨tc3, od45, .seq ti3 tn3, sl45⟩)
    (w3 : tc3 = .type "tuple")
    (x3 : ti3.size ≤ 1000)
    (y3 : strsOf FLT ti3.toList = true)
    (u4 : PySem.W.nsIn K mainGlobals "MARKS" = some (some (.ref g4)))
    (v4 : K.lookup g4 = some ⟨tc4, od46, .seq ti4 tn4, sl46⟩)
    (w4 : tc4 = .type "tuple")
    (x4 : ti4.size ≤ 1000)
    (y4 : strsOf MRK ti4.toList = true)
    (z0 : PySem.W.nsIn K mainGlobals "any" = some none)
    (z1 : PySem.W.nsIn K mainGlobals "str" = some none)
    (z2 : PySem.W.nsIn K mainGlobals "len" = some none)
    (z3 : PySem.W.nsIn K mainGlobals "int" = some none)
    (z4 : PySem.W.nsIn K mainGlobals "range" = some none)
    (z5 : PySem.W.nsIn K mainGlobals "isinstance" = some none)
    (z6 : PySem.W.nsIn K mainGlobals "enumerate" = some none)
    (z7 : PySem.W.nsIn K mainGlobals "bool" = some none)
    (z8 : PySem.W.nsIn K mainGlobals "min" = some none)
    (z9 : PySem.W.nsIn K mainGlobals "max" = some none)
    (xa0 : PySem.W.nsIn K mainGlobals "Refused" = some (some (.ref ClX0)))
    (xl0 : K.lookup ClX0 = some (excClassObj nX0 qX0 ClX0 NX0 bsX0 bmX0 true snX0 suX0 abX0 coX0 ddX0 m0X0 m1X0 m2X0 m3X0 m5X0 "ValueError.__new__"))
    (xv0 : PySem.HandSPX.refsVE bmX0 = true)
    (xs0 : PySem.W.findIn K (.ref ClX0) "__setattr__" = some (some (.builtin "object.__setattr__")))
    (xb0 : PySem.W.subIn K (.ref ClX0) (.type "BaseException") = some true)
    (xt0 : PySem.W.typeIn K (.ref ClX0) = some (.type "type"))
    (xk0 : PySem.W.keepIn K (.ref ClX0) = true)
    (xn0 : PySem.W.findIn K (.ref ClX0) "place" = some none)
    (xi0 : PySem.W.isClsIn K ClX0 = true)
    (xu0 : PySem.W.subIn K (.ref ClX0) (.ref ClX0) = some true)
    (xg0 : PySem.W.findIn K (.ref ClX0) "__getattribute__" = some (some (.builtin "BaseException.__getattribute__")))
    (xh0 : PySem.W.findIn K (.ref ClX0) "__getattr__" = some none)
    (xd0 : PySem.W.hasDictIn K ClX0 = true)
    (xj0 : PySem.W.findIn K (.ref ClX0) "__init__" = some (some (.ref IX0)))
    (xy0 : PySem.W.typeIn K (.ref IX0) = some (.type "function"))
    (xf0 : K.lookup IX0 = some ⟨icX0, ioX0, .func (PySem.W.fnOf "__init__" "Refused.__init__" (defArgs (initS (topS 3))) (defBody (initS (topS 3))) (defScope (initS (topS 3))) (.ref HX0) ikX0 idX0 ipX0 iaX0 ieX0 itX0), isX0⟩)
    (xc0 : PySem.W.codeIn K ieX0 "Refused.__init__" = true)
    (xo0 : PySem.W.keepIn K (.ref IX0) = true)
    (xr0 : K.lookup HX0 = some ⟨dcX0, dqX0, .seq diX0 dnX0, dsX0⟩)
    (xe0 : diX0 = #[.none])
    (kb1 : PySem.W.nsIn K mainGlobals "BEGINS" = some (some (.ref dB)))
    (kb2 : K.lookup dB = some ⟨.type "dict", none, .dict esB nB, #[]⟩)
    (kb3 : PySem.W.KeysLit w.params esB.toList)
    (kb4 : (dB == sysModules) = false)
    (kb5 : entsOf BEG esB.toList = true)
    (ks1 : PySem.W.nsIn K mainGlobals "STYLES_blockscalars" = some (some (.ref dS)))
    (ks2 : K.lookup dS = some ⟨.type "dict", none, .dict esS nS, #[]⟩)
    (ks3 : PySem.W.KeysLit w.params esS.toList)
    (ks4 : (dS == sysModules) = false)
    (ks5 : entsOf BST esS.toList = true)
    (qa : PySem.W.nsIn K mainGlobals "Header" = some (some (.ref ClN)))
    (q1 : PySem.W.plainGet K ClN Str.empty = true)
    (q2 : PySem.W.hasDictIn K ClN = true)
    (q3 : PySem.W.plainOver K ClN = true)
    (q4 : PySem.W.findIn K (.ref ClN) "__setattr__" = some (some (.builtin "object.__setattr__")))
    (qn0 : PySem.W.findIn K (.ref ClN) "style" = some none)
    (qn1 : PySem.W.findIn K (.ref ClN) "digit" = some none)
    (qn2 : PySem.W.findIn K (.ref ClN) "keeping" = some none)
    (qn3 : PySem.W.findIn K (.ref ClN) "end" = some none)
    (qn4 : PySem.W.findIn K (.ref ClN) "lines" = some none)
    (qg : PySem.W.makesIn K ClN = true)
    (qi : PySem.W.findIn K (.ref ClN) "__init__" = some (some (.ref faI)))
    (qj : PySem.W.isFn K (.ref faI) = true)
    (qo : PySem.W.keepIn K (.ref ClN) = true)
    (ea : PySem.W.findIn K (.ref ClN) "takes" = some (some (.ref faT)))
    (ei : PySem.W.isFn K (.ref faT) = true)
    (dlI : K.lookup faI = some ⟨ocXI, odXI, .func (PySem.W.fnOf "__init__" "Header.__init__" (defArgs s_Header_init) (defBody s_Header_init) (defScope s_Header_init) .none kVXI dcXI pmXI anXI cdXI ctXI), slXI⟩)
    (dcI : PySem.W.codeIn K cdXI "Header.__init__" = true)
    (dkI : PySem.W.keepIn K (.ref faI) = true)
    (dlT : K.lookup faT = some ⟨ocXT, odXT, .func (PySem.W.fnOf "takes" "Header.takes" (defArgs s_Header_takes) (defBody s_Header_takes) (defScope s_Header_takes) .none kVXT dcXT pmXT anXT cdXT ctXT), slXT⟩)
    (dcT : PySem.W.codeIn K cdXT "Header.takes" = true)
    (dkT : PySem.W.keepIn K (.ref faT) = true) :
    ∃ fd : FuncData, (∀ (s : Shared) (v : Value), BindsTo s fd ⟨[v], []⟩ [("_law_script", v)]) ∧ ∀ base : Heap, K.In base → base.Ns mainGlobals mg → FnOk l.prog w K mg base CX0 11 fa fd ["_law_script"] (SpR K 1 R_law) := by
  have e := hfa.symm.trans (PySem.W.mg_of X G a41)
  cases e
  have D_is_foreign := df_mk (st := s_is_foreign) (ps := ["sign"]) X G a0 l0 c0 k0 fun _ _ _ _ _ _ us hl => match us, hl with | [_], _ => rfl
  have D_is_sign := df_mk (st := s_is_sign) (ps := ["sign"]) X G a1 l1 c1 k1 fun _ _ _ _ _ _ us hl => match us, hl with | [_], _ => rfl
  have D_is_safe := df_mk (st := s_is_safe) (ps := ["sign", "inside"]) X G a2 l2 c2 k2 fun _ _ _ _ _ _ us hl => match us, hl with | [_, _], _ => rfl
  have D_begins_plain := df_mk (st := s_begins_plain) (ps := ["text", "place", "inside"]) X G a3 l3 c3 k3 fun _ _ _ _ _ _ us hl => match us, hl with | [_, _, _], _ => rfl
  have D_check := df_mk (st := s_check) (ps := ["holds", "part"]) X G a4 l4 c4 k4 fun _ _ _ _ _ _ us hl => match us, hl with | [_, _], _ => rfl
  have D_check_style := df_mk (st := s_check_style) (ps := ["style", "context"]) X G a5 l5 c5 k5 fun _ _ _ _ _ _ us hl => match us, hl with | [_, _], _ => rfl
  have D_is_text := df_mk (st := s_is_text) (ps := ["thing"]) X G a6 l6 c6 k6 fun _ _ _ _ _ _ us hl => match us, hl with | [_], _ => rfl
  have D_is_value := df_mk (st := s_is_value) (ps := ["thing"]) X G a7 l7 c7 k7 fun _ _ _ _ _ _ us hl => match us, hl with | [_], _ => rfl
  have D_is_word := df_mk (st := s_is_word) (ps := ["thing", "words"]) X G a8 l8 c8 k8 fun _ _ _ _ _ _ us hl => match us, hl with | [_, _], _ => rfl
  have D_has_text := df_mk (st := s_has_text) (ps := ["value", "style", "context"]) X G a9 l9 c9 k9 fun _ _ _ _ _ _ us hl => match us, hl with | [_, _, _], _ => rfl
  have D_has_white_beside_feed := df_mk (st := s_has_white_beside_feed) (ps := ["value"]) X G a10 l10 c10 k10 fun _ _ _ _ _ _ us hl => match us, hl with | [_], _ => rfl
  have D_fits_plain := df_mk (st := s_fits_plain) (ps := ["value", "inside", "flat"]) X G a11 l11 c11 k11 fun _ _ _ _ _ _ us hl => match us, hl with | [_, _, _], _ => rfl
  have D_is_like_mark := df_mk (st := s_is_like_mark) (ps := ["word"]) X G a12 l12 c12 k12 fun _ _ _ _ _ _ us hl => match us, hl with | [_], _ => rfl
  have D_ahead_of := df_mk (st := s_ahead_of) (ps := ["word", "indent"]) X G a13 l13 c13 k13 fun _ _ _ _ _ _ us hl => match us, hl with | [_, _], _ => rfl
  have D_filled := df_mk (st := s_filled) (ps := ["words", "indent", "width", "first"]) X G a14 l14 c14 k14 fun _ _ _ _ _ _ us hl => match us, hl with | [_, _, _, _], _ => rfl
  have D_words_of := df_mk (st := s_words_of) (ps := ["row", "width"]) X G a15 l15 c15 k15 fun _ _ _ _ _ _ us hl => match us, hl with | [_, _], _ => rfl
  have D_block_lines := df_mk (st := s_block_lines) (ps := ["rows", "folded", "indent", "width"]) X G a16 l16 c16 k16 fun _ _ _ _ _ _ us hl => match us, hl with | [_, _, _, _], _ => rfl
  have D_block_text := df_mk (st := s_block_text) (ps := ["value", "folded", "indent", "width", "deep"]) X G a17 l17 c17 k17 fun _ _ _ _ _ _ us hl => match us, hl with | [_, _, _, _, _], _ => rfl
  have D_text_of_scalar := df_mk (st := s_text_of_scalar) (ps := ["value", "style", "context", "indent", "width", "deep"]) X G a18 l18 c18 k18 fun _ _ _ _ _ _ us hl => match us, hl with | [_, _, _, _, _, _], _ => rfl
  have D_is_whole := df_mk (st := s_is_whole) (ps := ["thing", "low", "high"]) X G a19 l19 c19 k19 fun _ _ _ _ _ _ us hl => match us, hl with | [_, _, _], _ => rfl
  have D_check_deep := df_mk (st := s_check_deep) (ps := ["deep", "indent"]) X G a20 l20 c20 k20 fun _ _ _ _ _ _ us hl => match us, hl with | [_, _], _ => rfl
  have D_written : DfD K mg "written" s_written [.int 0, .int 1] := dfd_mk (st := s_written) (ls := [0, 1]) X G a21 l21 c21 k21 r21 s21 (List.cons_ne_nil _ _)
  have D_past_blanks := df_mk (st := s_past_blanks) (ps := ["text", "place"]) X G a22 l22 c22 k22 fun _ _ _ _ _ _ us hl => match us, hl with | [_, _], _ => rfl
  have D_line_end := df_mk (st := s_line_end) (ps := ["text", "place"]) X G a23 l23 c23 k23 fun _ _ _ _ _ _ us hl => match us, hl with | [_, _], _ => rfl
  have D_past_line := df_mk (st := s_past_line) (ps := ["text", "place"]) X G a24 l24 c24 k24 fun _ _ _ _ _ _ us hl => match us, hl with | [_, _], _ => rfl
  have D_is_mark := df_mk (st := s_is_mark) (ps := ["text", "line"]) X G a25 l25 c25 k25 fun _ _ _ _ _ _ us hl => match us, hl with | [_, _], _ => rfl
  have D_mark_reach := df_mk (st := s_mark_reach) (ps := ["text", "line"]) X G a26 l26 c26 k26 fun _ _ _ _ _ _ us hl => match us, hl with | [_, _], _ => rfl
  have D_is_rest := df_mk (st := s_is_rest) (ps := ["text", "place", "end"]) X G a27 l27 c27 k27 fun _ _ _ _ _ _ us hl => match us, hl with | [_, _, _], _ => rfl
  have D_found_indentation := df_mk (st := s_found_indentation) (ps := ["text", "line", "above"]) X G a28 l28 c28 k28 fun _ _ _ _ _ _ us hl => match us, hl with | [_, _, _], _ => rfl
  have D_content_lines := df_mk (st := s_content_lines) (ps := ["text", "line", "deep"]) X G a29 l29 c29 k29 fun _ _ _ _ _ _ us hl => match us, hl with | [_, _, _], _ => rfl
  have D_last_content := df_mk (st := s_last_content) (ps := ["rows"]) X G a30 l30 c30 k30 fun _ _ _ _ _ _ us hl => match us, hl with | [_], _ => rfl
  have D_body_of := df_mk (st := s_body_of) (ps := ["rows", "folded"]) X G a31 l31 c31 k31 fun _ _ _ _ _ _ us hl => match us, hl with | [_, _], _ => rfl
  have D_value_of := df_mk (st := s_value_of) (ps := ["rows", "folded", "keeping"]) X G a32 l32 c32 k32 fun _ _ _ _ _ _ us hl => match us, hl with | [_, _, _], _ => rfl
  have D_read_block_scalar := df_mk (st := s_read_block_scalar) (ps := ["text", "place", "above"]) X G a33 l33 c33 k33 fun _ _ _ _ _ _ us hl => match us, hl with | [_, _, _], _ => rfl
  have D_block_value := df_mk (st := s_block_value) (ps := ["whole", "above"]) X G a34 l34 c34 k34 fun _ _ _ _ _ _ us hl => match us, hl with | [_, _], _ => rfl
  have D_value_read := df_mk (st := s_value_read) (ps := ["text", "style", "context", "indent", "deep"]) X G a35 l35 c35 k35 fun _ _ _ _ _ _ us hl => match us, hl with | [_, _, _, _, _], _ => rfl
  have D_read_scalar : DfD K mg "read_scalar" s_read_scalar [.int 1] := dfd_mk (st := s_read_scalar) (ls := [1]) X G a36 l36 c36 k36 r36 s36 (List.cons_ne_nil _ _)
  have D__law_digit := df_mk (st := s__law_digit) (ps := ["_law_state", "_law_base"]) X G a37 l37 c37 k37 fun _ _ _ _ _ _ us hl => match us, hl with | [_, _], _ => rfl
  have D__law_one := df_mk (st := s__law_one) (ps := ["_law_state", "_law_some"]) X G a38 l38 c38 k38 fun _ _ _ _ _ _ us hl => match us, hl with | [_, _], _ => rfl
  have D__law_rows := df_mk (st := s__law_rows) (ps := ["_law_state"]) X G a39 l39 c39 k39 fun _ _ _ _ _ _ us hl => match us, hl with | [_], _ => rfl
  have D__law_text := df_mk (st := s__law_text) (ps := ["_law_rows_here", "_law_feeds", "_law_indent", "_law_deep"]) X G a40 l40 c40 k40 fun _ _ _ _ _ _ us hl => match us, hl with | [_, _, _, _], _ => rfl
  have D_law := df_mk (st := s_law) (ps := ["_law_script"]) X G a41 l41 c41 k41 fun _ _ _ _ _ _ us hl => match us, hl with | [_], _ => rfl
  have U_FEED := gc_str X G b0
  have U_BRACKETS := gc_str X G b1
  have U_NOT_FIRST := gc_str X G b2
  have U_MOST_SIGNS := gc_int X G p0
  have U_STYLES_scalars := gc_tup X G u0 v0 w0 x0 y0
  have U_CONTEXTS := gc_tup X G u1 v1 w1 x1 y1
  have U_INSIDE := gc_tup X G u2 v2 w2 x2 y2
  have U_FLAT := gc_tup X G u3 v3 w3 x3 y3
  have U_MARKS := gc_tup X G u4 v4 w4 x4 y4
  have m_any := PySem.W.mg_none_of X G z0
  have m_str := PySem.W.mg_none_of X G z1
  have m_len := PySem.W.mg_none_of X G z2
  have m_int := PySem.W.mg_none_of X G z3
  have m_range := PySem.W.mg_none_of X G z4
  have m_isinstance := PySem.W.mg_none_of X G z5
  have m_enumerate := PySem.W.mg_none_of X G z6
  have m_bool := PySem.W.mg_none_of X G z7
  have m_min := PySem.W.mg_none_of X G z8
  have m_max := PySem.W.mg_none_of X G z9
  refine ⟨PySem.W.fnOf "law" "law" (defArgs s_law) (defBody s_law) (defScope s_law) .none kV41 dc41 pm41 an41 cd41 ct41, fun s v => .of_eq rfl, fun base KI GI => ?_⟩
  have X_Refused : Xi l.prog w K mg base "Refused" "place" ClX0 := xi_mk (st := initS (topS 3)) (qn := "Refused.__init__") X G xa0 xl0 xv0 xs0 xb0 xt0 xk0 xn0 xi0 xu0 xg0 xh0 xd0 xj0 xy0 (init_none xf0 xc0 xo0 xr0 xe0) ⟨rfl, rfl, rfl, by decide +kernel, rfl, by decide +kernel, by decide +kernel⟩ (fun cdv A outer s H E => pss_one (ps_ost (pv 0) (pv 1))) (fun T kV doc pm an cdv ct us its h1 h2 => match us, h1 with | [_, _], _ => match its, h2 with | [_], _ => ⟨_, rfl, rfl⟩)
  have U_BEGINS := gc_ref X G kb1
  have tB : TDict K w dB BEG esB nB := ⟨⟨kb2, kb3, kb4⟩, kb5⟩
  have U_STYLES_blockscalars := gc_ref X G ks1
  have tS : TDict K w dS BST esS nS := ⟨⟨ks2, ks3, ks4⟩, ks5⟩
  have c_ : Cls K ClN := ⟨q1, q2, q3, q4⟩
  have hc_ : HCls K ClN := ⟨c_, qn0, qn1, qn2, qn3, qn4⟩
  have mk_ : Mk K ClN faI := ⟨qg, qi, qj, qo⟩
  have fuI : L2.Fun K "__init__" "Header.__init__" s_Header_init faI _ := ⟨⟨ocXI, odXI, kVXI, dcXI, pmXI, anXI, cdXI, ctXI, slXI, rfl, dlI, dcI⟩, dkI⟩
  have D_I : ∃ fd, L2.Fun K "__init__" "Header.__init__" s_Header_init faI fd ∧ Binds K fd ["self", "text", "place"] [] := ⟨_, fuI, fuI.binds fun _ _ _ _ _ _ us hl => match us, hl with | [_, _, _], _ => rfl⟩
  have fuT : L2.Fun K "takes" "Header.takes" s_Header_takes faT _ := ⟨⟨ocXT, odXT, kVXT, dcXT, pmXT, anXT, cdXT, ctXT, slXT, rfl, dlT, dcT⟩, dkT⟩
  have D_T : ∃ fd, L2.Fun K "takes" "Header.takes" s_Header_takes faT fd ∧ Binds K fd ["self", "sign"] [] := ⟨_, fuT, fuT.binds fun _ _ _ _ _ _ us hl => match us, hl with | [_, _], _ => rfl⟩
  have F1 := cal_foreign (P := l.prog) (w := w) (base := base) (k := 0) D_is_foreign U_FEED
  have F2 := cal_sign (P := l.prog) (w := w) (base := base) (k := 0) D_is_sign
  have F3 := cal_safe (k := 0) D_is_safe U_BRACKETS F2
  have F4 := cal_begins (k := 0) D_begins_plain U_NOT_FIRST F2 F3
  have F5 := cal_check (P := l.prog) (w := w) (base := base) (k := 0) D_check
  have F6 := cal_word (P := l.prog) (w := w) (base := base) (k := 0) D_is_word m_isinstance m_str
  have F7 := cal_style (k := 0) D_check_style U_STYLES_scalars U_CONTEXTS F5 F6
  have F8 := cal_text (k := 0) D_is_text F1 m_isinstance m_str m_any
  have F9 := cal_value (k := 0) D_is_value U_MOST_SIGNS F8 m_len
  have F10 := cal_white (P := l.prog) (w := w) (base := base) (k := 0) D_has_white_beside_feed m_any
  have F11 := cal_plain D_fits_plain U_FEED U_BRACKETS F10 F4 F3 m_enumerate
  have F12 := cal_has D_has_text U_FEED U_INSIDE U_FLAT F11 F10
  have Q1 := cal_pb (P := l.prog) (w := w) (base := base) (k := 0) D_past_blanks
  have Q2 := cal_le (P := l.prog) (w := w) (base := base) (k := 0) D_line_end U_FEED m_len
  have Q3 := cal_pl (k := 0) D_past_line Q2 m_len m_min
  have Q4 := cal_mkA (P := l.prog) (w := w) (base := base) (k := 0) D_is_mark U_MARKS
  have Q5 := cal_mr (P := l.prog) (w := w) (base := base) (k := 0) D_mark_reach
  have Q6 := cal_rest (P := l.prog) (w := w) (base := base) (k := 0) D_is_rest U_FEED
  have MT := mtd_takes (P := l.prog) (w := w) (base := base) D_T hc_ m_int
  have HT : C8.Met l.prog w K mg base 1 ClN "takes" (SpR K 2 (R_takes ClN)) [] := LJ.Mth.met ⟨faT, c_, ⟨ea, ei, dkT⟩, MT⟩
  have MI := mtd_hinit D_I hc_ U_STYLES_blockscalars tS HT Q1 Q6 Q3 X_Refused
  have MH : LJ.MkrX l.prog w K mg base 4 "Header" ClN _ := ⟨faI, mk_, PySem.W.mg_of X G qa, MI⟩
  have Q7 := cal_fi (k := 0) D_found_indentation U_FEED Q1 Q4 Q5 X_Refused m_len m_max
  have Q8 := cal_cl (k := 0) D_content_lines Q1 Q2 Q3 Q4 m_len
  have Q9 := cal_lc (P := l.prog) (w := w) (base := base) (k := 0) D_last_content m_len
  have QA := cal_body (P := l.prog) (w := w) (base := base) (k := 0) D_body_of U_FEED
  have QB := cal_val (k := 0) D_value_of U_FEED Q9 QA m_len
  have QC := cal_rb D_read_block_scalar hc_ MH Q7 Q8 Q9 Q2 QB
  have QD := cal_bv D_block_value QC
  have QE := cal_vr D_value_read U_FEED U_INSIDE U_FLAT QD m_len
  have P8 := cal_whole (P := l.prog) (w := w) (base := base) (k := 0) D_is_whole m_isinstance m_int m_bool
  have P9 := cal_cdeep (k := 0) D_check_deep F5 P8 m_min
  have RS := cal_rs D_read_scalar U_BEGINS tB F5 F7 P8 P9 F8 QE X_Refused 1 rfl (fun T kV doc pm an cdv ct us its => bindS5 T kV doc pm an cdv ct us its)
  have B1 := cal_mark (P := l.prog) (w := w) (base := base) (k := 0) D_is_like_mark U_MARKS
  have B2 := cal_ahead (k := 0) D_ahead_of B1
  have B3 := cal_filled (k := 0) D_filled B2 m_len
  have B4 := cal_words (P := l.prog) (w := w) (base := base) (k := 0) D_words_of m_len m_range
  have B5 := cal_blines (k := 0) D_block_lines B3
  have B6 := cal_block D_block_text U_FEED B1 B4 B5 m_len m_any m_max m_str
  have B7 := cal_tos D_text_of_scalar B6
  have W6 := cal_wr D_written F5 F9 F7 P8 P9 F12 B7 2 rfl (fun T kV doc pm an cdv ct us its => bind6 T kV doc pm an cdv ct us its)
  have L1 := cal_digit (P := l.prog) (w := w) (base := base) (k := 0) D__law_digit m_int m_len
  have L2_ := cal_one (k := 0) D__law_one L1 m_len
  have L3 := cal_rows D__law_rows L1 L2_ m_range
  have L4 := cal_txt (P := l.prog) (w := w) (base := base) D__law_text m_int m_str m_min m_max m_enumerate
  obtain ⟨f, fd, F, U, hm, b⟩ := (cal_law D_law W6 RS L1 L2_ L3 L4 m_range m_min).ex
  cases hfa.symm.trans hm
  obtain ⟨oc, od, kV, doc, pm, an, cdv, ct, osl, rfl, lk, hcd⟩ := U.ex
  have e2 := lk.symm.trans l41
  cases e2
  exact F
end T
open PySem PySem.W PyProof.Rows
set_option maxHeartbeats 0 in
theorem PySem.Challenge.cw_anchorpages_k26_whole_texts_of_folded_sc_holds : PySem.Challenge.rw_anchorpages_k26_whole_texts_of_folded_sc.Holds := by
  w_on; o_law; k_head; (case hw => w_witness2)
  k_fill
  refine L2.walk_of (l := PySem.Challenge.rw_anchorpages_k26_whole_texts_of_folded_sc) (n := 63) (k := 11) (x := "_law_script") (CX := fun _ => L2.CX0) (sp := fun w => DJ.SpR _ 1 T.R_law) rfl (by decide) rfl ⟨rfl, by decide, by decide⟩ (fun w h Y => PySem.W.kIn_of Y) ?F (fun _ _ a ns hl _ hS => DJ.sp_of hS ⟨ns, hl, rfl, rfl, rfl, rfl⟩) (fun _ _ _ _ _ h => h)
  case F =>
    intro w mg fa h KX G hmg
    refine' T.all_mk KX G hmg ?a0 ?l0 ?c0 ?k0 ?a1 ?l1 ?c1 ?k1 ?a2 ?l2 ?c2 ?k2 ?a3 ?l3 ?c3 ?k3 ?a4 ?l4 ?c4 ?k4 ?a5 ?l5 ?c5 ?k5 ?a6 ?l6 ?c6 ?k6 ?a7 ?l7 ?c7 ?k7 ?a8 ?l8 ?c8 ?k8 ?a9 ?l9 ?c9 ?k9 ?a10 ?l10 ?c10 ?k10 ?a11 ?l11 ?c11 ?k11 ?a12 ?l12 ?c12 ?k12 ?a13 ?l13 ?c13 ?k13 ?a14 ?l14 ?c14 ?k14 ?a15 ?l15 ?c15 ?k15 ?a16 ?l16 ?c16 ?k16 ?a17 ?l17 ?c17 ?k17 ?a18 ?l18 ?c18 ?k18 ?a19 ?l19 ?c19 ?k19 ?a20 ?l20 ?c20 ?k20 ?a21 ?l21 ?r21 ?s21 ?c21 ?k21 ?a22 ?l22 ?c22 ?k22 ?a23 ?l23 ?c23 ?k23 ?a24 ?l24 ?c24 ?k24 ?a25 ?l25 ?c25 ?k25 ?a26 ?l26 ?c26 ?k26 ?a27 ?l27 ?c27 ?k27 ?a28 ?l28 ?c28 ?k28 ?a29 ?l29 ?c29 ?k29 ?a30 ?l30 ?c30 ?k30 ?a31 ?l31 ?c31 ?k31 ?a32 ?l32 ?c32 ?k32 ?a33 ?l33 ?c33 ?k33 ?a34 ?l34 ?c34 ?k34 ?a35 ?l35 ?c35 ?k35 ?a36 ?l36 ?r36 ?s36 ?c36 ?k36 ?a37 ?l37 ?c37 ?k37 ?a38 ?l38 ?c38 ?k38 ?a39 ?l39 ?c39 ?k39 ?a40 ?l40 ?c40 ?k40 ?a41 ?l41 ?c41 ?k41 ?b0 ?b1 ?b2 ?p0 ?u0 ?v0 ?w0 ?x0 ?y0 ?u1 ?v1 ?w1 ?x1 ?y1 ?u2 ?v2 ?w2 ?x2 ?y2 ?u3 ?v3 ?w3 ?x3 ?y3 ?u4 ?v4 ?w4 ?x4 ?y4 ?z0 ?z1 ?z2 ?z3 ?z4 ?z5 ?z6 ?z7 ?z8 ?z9 ?xa0 ?xl0 ?xv0 ?xs0 ?xb0 ?xt0 ?xk0 ?xn0 ?xi0 ?xu0 ?xg0 ?xh0 ?xd0 ?xj0 ?xy0 ?xf0 ?xc0 ?xo0 ?xr0 ?xe0 ?kb1 ?kb2 ?kb3 ?kb4 ?kb5 ?ks1 ?ks2 ?ks3 ?ks4 ?ks5 ?qa ?q1 ?q2 ?q3 ?q4 ?qn0 ?qn1 ?qn2 ?qn3 ?qn4 ?qg ?qi ?qj ?qo ?ea ?ei ?dlI ?dcI ?dkI ?dlT ?dcT ?dkT
    (case a0 => k_is); (case l0 => k_is); (case c0 => k_is); (case k0 => k_is); (case a1 => k_is); (case l1 => k_is); (case c1 => k_is); (case k1 => k_is); (case a2 => k_is); (case l2 => k_is); (case c2 => k_is); (case k2 => k_is); (case a3 => k_is); (case l3 => k_is); (case c3 => k_is); (case k3 => k_is); (case a4 => k_is); (case l4 => k_is); (case c4 => k_is); (case k4 => k_is); (case a5 => k_is); (case l5 => k_is); (case c5 => k_is); (case k5 => k_is); (case a6 => k_is); (case l6 => k_is); (case c6 => k_is); (case k6 => k_is); (case a7 => k_is); (case l7 => k_is); (case c7 => k_is); (case k7 => k_is); (case a8 => k_is); (case l8 => k_is); (case c8 => k_is); (case k8 => k_is); (case a9 => k_is); (case l9 => k_is); (case c9 => k_is); (case k9 => k_is); (case a10 => k_is); (case l10 => k_is); (case c10 => k_is); (case k10 => k_is); (case a11 => k_is); (case l11 => k_is); (case c11 => k_is); (case k11 => k_is); (case a12 => k_is); (case l12 => k_is); (case c12 => k_is); (case k12 => k_is); (case a13 => k_is); (case l13 => k_is); (case c13 => k_is); (case k13 => k_is); (case a14 => k_is); (case l14 => k_is); (case c14 => k_is); (case k14 => k_is); (case a15 => k_is); (case l15 => k_is); (case c15 => k_is); (case k15 => k_is); (case a16 => k_is); (case l16 => k_is); (case c16 => k_is); (case k16 => k_is); (case a17 => k_is); (case l17 => k_is); (case c17 => k_is); (case k17 => k_is); (case a18 => k_is); (case l18 => k_is); (case c18 => k_is); (case k18 => k_is); (case a19 => k_is); (case l19 => k_is); (case c19 => k_is); (case k19 => k_is); (case a20 => k_is); (case l20 => k_is); (case c20 => k_is); (case k20 => k_is); (case a21 => k_is); (case l21 => k_is); (case r21 => k_is); (case s21 => decide +kernel); (case c21 => k_is); (case k21 => k_is); (case a22 => k_is); (case l22 => k_is); (case c22 => k_is); (case k22 => k_is); (case a23 => k_is); (case l23 => k_is); (case c23 => k_is); (case k23 => k_is); (case a24 => k_is); (case l24 => k_is); (case c24 => k_is); (case k24 => k_is); (case a25 => k_is); (case l25 => k_is); (case c25 => k_is); (case k25 => k_is); (case a26 => k_is); (case l26 => k_is); (case c26 => k_is); (case k26 => k_is); (case a27 => k_is); (case l27 => k_is); (case c27 => k_is); (case k27 => k_is); (case a28 => k_is); (case l28 => k_is); (case c28 => k_is); (case k28 => k_is); (case a29 => k_is); (case l29 => k_is); (case c29 => k_is); (case k29 => k_is); (case a30 => k_is); (case l30 => k_is); (case c30 => k_is); (case k30 => k_is); (case a31 => k_is); (case l31 => k_is); (case c31 => k_is); (case k31 => k_is); (case a32 => k_is); (case l32 => k_is); (case c32 => k_is); (case k32 => k_is); (case a33 => k_is); (case l33 => k_is); (case c33 => k_is); (case k33 => k_is); (case a34 => k_is); (case l34 => k_is); (case c34 => k_is); (case k34 => k_is); (case a35 => k_is); (case l35 => k_is); (case c35 => k_is); (case k35 => k_is); (case a36 => k_is); (case l36 => k_is); (case r36 => k_is); (case s36 => decide +kernel); (case c36 => k_is); (case k36 => k_is); (case a37 => k_is); (case l37 => k_is); (case c37 => k_is); (case k37 => k_is); (case a38 => k_is); (case l38 => k_is); (case c38 => k_is); (case k38 => k_is); (case a39 => k_is); (case l39 => k_is); (case c39 => k_is); (case k39 => k_is); (case a40 => k_is); (case l40 => k_is); (case c40 => k_is); (case k40 => k_is); (case a41 => k_is); (case l41 => k_is); (case c41 => k_is); (case k41 => k_is); (case b0 => k_is); (case b1 => k_is); (case b2 => k_is); (case p0 => k_is); (case u0 => k_is); (case v0 => k_is); (case w0 => exact rfl); (case x0 => decide +kernel); (case y0 => decide +kernel); (case u1 => k_is); (case v1 => k_is); (case w1 => exact rfl); (case x1 => decide +kernel); (case y1 => decide +kernel); (case u2 => k_is); (case v2 => k_is); (case w2 => exact rfl); (case x2 => decide +kernel); (case y2 => decide +kernel); (case u3 => k_is); (case v3 => k_is); (case w3 => exact rfl); (case x3 => decide +kernel); (case y3 => decide +kernel); (case u4 => k_is); (case v4 => k_is); (case w4 => exact rfl); (case x4 => decide +kernel); (case y4 => decide +kernel); (case z0 => k_is); (case z1 => k_is); (case z2 => k_is); (case z3 => k_is); (case z4 => k_is); (case z5 => k_is); (case z6 => k_is); (case z7 => k_is); (case z8 => k_is); (case z9 => k_is); (case xa0 => k_is); (case xl0 => k_is); (case xv0 => exact rfl); (case xs0 => k_is); (case xb0 => k_is); (case xt0 => k_is); (case xk0 => k_is); (case xn0 => k_is); (case xi0 => k_is); (case xu0 => k_is); (case xg0 => k_is); (case xh0 => k_is); (case xd0 => k_is); (case xj0 => k_is); (case xy0 => k_is); (case xf0 => k_is); (case xc0 => k_is); (case xo0 => k_is); (case xr0 => k_is); (case xe0 => exact rfl); (case kb1 => k_is); (case kb2 => k_is); (case kb3 => exact ⟨⟨_, _, rfl, rfl⟩, ⟨_, _, rfl, rfl⟩, ⟨_, _, rfl, rfl⟩, ⟨_, _, rfl, rfl⟩, ⟨_, _, rfl, rfl⟩, trivial⟩); (case kb4 => decide +kernel); (case kb5 => exact rfl); (case ks1 => k_is); (case ks2 => k_is); (case ks3 => exact ⟨⟨_, _, rfl, rfl⟩, ⟨_, _, rfl, rfl⟩, trivial⟩); (case ks4 => decide +kernel); (case ks5 => exact rfl); (case qa => k_is); (case q1 => first | k_is | exact rfl | decide +kernel | kernel_rfl); (case q2 => first | k_is | exact rfl | decide +kernel | kernel_rfl); (case q3 => first | k_is | exact rfl | decide +kernel | kernel_rfl); (case q4 => first | k_is | exact rfl | decide +kernel | kernel_rfl); (case qn0 => first | k_is | exact rfl | decide +kernel | kernel_rfl); (case qn1 => first | k_is | exact rfl | decide +kernel | kernel_rfl); (case qn2 => first | k_is | exact rfl | decide +kernel | kernel_rfl); (case qn3 => first | k_is | exact rfl | decide +kernel | kernel_rfl); (case qn4 => first | k_is | exact rfl | decide +kernel | kernel_rfl); (case qg => first | k_is | exact rfl | decide +kernel | kernel_rfl); (case qi => k_is); (case qj => first | k_is | exact rfl | decide +kernel | kernel_rfl); (case qo => first | k_is | exact rfl | decide +kernel | kernel_rfl); (case ea => k_is); (case ei => first | k_is | exact rfl | decide +kernel | kernel_rfl); (case dlI => k_is); (case dcI => k_is); (case dkI => first | k_is | exact rfl | decide +kernel | kernel_rfl); (case dlT => k_is); (case dcT => k_is); (case dkT => first | k_is | exact rfl | decide +kernel | kernel_rfl)
