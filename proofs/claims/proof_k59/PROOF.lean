import PyProof.Rows.All
import HandS.ForMost
import HandS.StrMore
import HandS.Style
import HandS.Codes
import HandS.ReplaceList
import HandS.ReplaceLit
import HandS.WideBits
import HandS.ReplaceDef
import HandS.IntHex
import HandS.Dict
import KE.KDictDisplayH
import HandS.DictTup
import HandS.Conv
import HandS.IsInst
import PyProof.StrOps2
import KE.GoesMore
import PyProof.ReprRoads
import HandS.Defaults
import PyProof.Rows.StrOr
import HandS.Wide
import HandS.ForExc
import HandS.ExcInit
import HandS.ExcField
import HandS.CallSlots
import HandS.Lambda
import HandS.EndTab
import KE.KDflt
import HandS.EndOwn
import KE.KNestM
import HandS.ExcIs
import HandS.TupSets
import HandS.Property
import HandS.SlotsOwn
import HandS.OwnEq
import HandS.TupLe
import HandS.Iter
import HandS.MakeKwOnly
import HandS.Flow
import HandS.More
import HandS.TryOnly
import HandS.FStr
import KE.KxField
import KE.DataMinMax
import HandS.SortOrd
import PyProof.FactsAll.NoneType_1
import PyProof.FString2
import PyProof.P3Eq
import PySem.Challenge.RW_anchorpages_k59_whole_least_short_words
set_option Elab.async false
set_option linter.all false
set_option maxRecDepth 100000
set_option maxHeartbeats 4000000
namespace DJ
open PySem PySem.Spec PyProof.Rows L2
/-! ### data, what stands for them -/
abbrev tx (l : List Nat) : Str := ⟨l.toArray⟩
inductive Dt where
  | non | bl (b : Bool) | int (i : Int) | str (x : List Nat) | lst (xs : List Dt) | tup (xs : List Dt) | raw (v : V) | ext (φ : Hp → V → Prop)
mutual
def Rp (K : PySem.W.Frag) (H : Hp) : Dt → V → Prop
  | .non, v => v = .non
  | .bl b, v => v = .bl b
  | .int i, v => v = .int i
  | .str x, v => v = .str (tx x)
  | .lst xs, v => ∃ a vs, v = .ref a ∧ SqL K H a vs ∧ RpL K H xs vs
  | .tup xs, v => ∃ a vs, v = .ref a ∧ SqT K H a vs ∧ RpL K H xs vs
  | .raw u, v => v = u
  | .ext φ, v => ∀ H', Same H H' → φ H' v
def RpL (K : PySem.W.Frag) (H : Hp) : List Dt → List V → Prop
  | [], vs => vs = []
  | d :: ds, vs => ∃ v r, vs = v :: r ∧ Rp K H d v ∧ RpL K H ds r
end
theorem same_t {K : PySem.W.Frag} {H H' : Hp} {a : Addr} {xs : List V} (e : Same H H') (h : SqT K H a xs) : SqT K H' a xs := by
  rcases h with (h | ⟨o, h⟩) | h
  · exact .inl (.inl (e _ _ h))
  · exact .inl (.inr ⟨o, e _ _ h⟩)
  · exact .inr h
mutual
theorem Rp.mono {K : PySem.W.Frag} {H H' : Hp} (e : Same H H') : ∀ (d : Dt) (v : V), Rp K H d v → Rp K H' d v
  | .non, _, h => h
  | .bl _, _, h => h
  | .int _, _, h => h
  | .str _, _, h => h
  | .raw _, _, h => h
  | .ext _, _, h => fun H' e' => h H' (e.trans e')
  | .lst xs, v, h => by
    obtain ⟨a, vs, e1, h1, h2⟩ := h
    exact ⟨a, vs, e1, e.seq h1, RpL.mono e xs vs h2⟩
  | .tup xs, v, h => by
    obtain ⟨a, vs, e1, h1, h2⟩ := h
    exact ⟨a, vs, e1, same_t e h1, RpL.mono e xs vs h2⟩
theorem RpL.mono {K : PySem.W.Frag} {H H' : Hp} (e : Same H H') : ∀ (ds : List Dt) (vs : List V), RpL K H ds vs → RpL K H' ds vs
  | [], _, h => h
  | d :: ds, vs, h => by
    obtain ⟨v, r, e1, h1, h2⟩ := h
    exact ⟨v, r, e1, Rp.mono e d v h1, RpL.mono e ds r h2⟩
end
theorem RpL.len {K : PySem.W.Frag} {H : Hp} : ∀ {ds : List Dt} {vs : List V}, RpL K H ds vs → vs.length = ds.length
  | [], _, h => by rw [show _ = [] from h]; rfl
  | d :: ds, _, ⟨v, r, e, _, h⟩ => by rw [e, List.length_cons, List.length_cons, RpL.len h]
theorem RpL.get {K : PySem.W.Frag} {H : Hp} : ∀ {ds : List Dt} {vs : List V} {i : Nat} {d : Dt}, RpL K H ds vs → ds[i]? = some d → ∃ v, vs[i]? = some v ∧ Rp K H d v
  | [], _, _, _, _, h => by simp at h
  | d :: ds, _, 0, x, ⟨v, r, e, h1, _⟩, h => by
    subst e
    simp at h
    subst h
    exact ⟨v, rfl, h1⟩
  | d :: ds, _, i + 1, x, ⟨v, r, e, _, h2⟩, h => by
    subst e
    obtain ⟨v', e', q⟩ := RpL.get (i := i) h2 (by simpa using h)
    exact ⟨v', by simpa using e', q⟩
theorem RpL.append {K : PySem.W.Frag} {H : Hp} : ∀ {ds es : List Dt} {vs us : List V}, RpL K H ds vs → RpL K H es us → RpL K H (ds ++ es) (vs ++ us)
  | [], _, _, _, h, q => by rw [show _ = [] from h]; exact q
  | d :: ds, _, _, _, ⟨v, r, e, h1, h2⟩, q => by
    subst e
    exact ⟨v, _, rfl, h1, RpL.append h2 q⟩
theorem RpL.one {K : PySem.W.Frag} {H : Hp} {d : Dt} {v : V} (h : Rp K H d v) : RpL K H [d] [v] := ⟨v, [], rfl, h, rfl⟩
theorem RpL.take {K : PySem.W.Frag} {H : Hp} : ∀ {ds : List Dt} {vs : List V} (n : Nat), RpL K H ds vs → RpL K H (ds.take n) (vs.take n)
  | _, _, 0, _ => rfl
  | [], _, n + 1, h => by rw [show _ = [] from h]; rfl
  | d :: ds, _, n + 1, ⟨v, r, e, h1, h2⟩ => by
    subst e
    exact ⟨v, _, rfl, h1, RpL.take n h2⟩
theorem RpL.drop {K : PySem.W.Frag} {H : Hp} : ∀ {ds : List Dt} {vs : List V} (n : Nat), RpL K H ds vs → RpL K H (ds.drop n) (vs.drop n)
  | _, _, 0, h => h
  | [], _, n + 1, h => by rw [show _ = [] from h]; rfl
  | d :: ds, _, n + 1, ⟨v, r, e, h1, h2⟩ => by
    subst e
    exact RpL.drop n h2
theorem RpL.set {K : PySem.W.Frag} {H : Hp} {x : Dt} {u : V} (hx : Rp K H x u) : ∀ {ds : List Dt} {vs : List V} (n : Nat), RpL K H ds vs → RpL K H (ds.set n x) (vs.set n u)
  | [], _, _, h => by rw [show _ = [] from h]; rfl
  | d :: ds, _, 0, ⟨v, r, e, h1, h2⟩ => by
    subst e
    exact ⟨u, _, rfl, hx, h2⟩
  | d :: ds, _, n + 1, ⟨v, r, e, h1, h2⟩ => by
    subst e
    exact ⟨v, _, rfl, h1, RpL.set hx n h2⟩
theorem RpL.reverse {K : PySem.W.Frag} {H : Hp} : ∀ {ds : List Dt} {vs : List V}, RpL K H ds vs → RpL K H ds.reverse vs.reverse
  | [], _, h => by rw [show _ = [] from h]; rfl
  | d :: ds, _, ⟨v, r, e, h1, h2⟩ => by
    subst e
    rw [List.reverse_cons, List.reverse_cons]
    exact RpL.append (RpL.reverse h2) (RpL.one h1)
theorem RpL.strs {K : PySem.W.Frag} {H : Hp} : ∀ {xs : List (List Nat)} {vs : List V}, RpL K H (xs.map Dt.str) vs → vs = (xs.map tx).map V.str
  | [], _, h => h
  | x :: xs, _, ⟨v, r, e, h1, h2⟩ => by
    subst e
    rw [show v = V.str (tx x) from h1, RpL.strs h2]
    rfl
theorem RpL.strs_of {K : PySem.W.Frag} {H : Hp} : ∀ (xs : List (List Nat)), RpL K H (xs.map Dt.str) ((xs.map tx).map V.str)
  | [] => rfl
  | x :: xs => ⟨_, _, rfl, rfl, RpL.strs_of xs⟩
theorem RpL.bls {K : PySem.W.Frag} {H : Hp} : ∀ {xs : List Bool} {vs : List V}, RpL K H (xs.map Dt.bl) vs → vs = xs.map V.bl
  | [], _, h => h
  | x :: xs, _, ⟨v, r, e, h1, h2⟩ => by
    subst e
    rw [show v = V.bl x from h1, RpL.bls h2]
    rfl
theorem RpL.ints {K : PySem.W.Frag} {H : Hp} : ∀ {xs : List Int} {vs : List V}, RpL K H (xs.map Dt.int) vs → vs = xs.map V.int
  | [], _, h => h
  | x :: xs, _, ⟨v, r, e, h1, h2⟩ => by
    subst e
    rw [show v = V.int x from h1, RpL.ints h2]
    rfl
/-! ### slots, owned objects, states -/
inductive Sl where
  | d (x : Dt) | o (k : Nat)
inductive MO where
  | gone | lst (xs : List Dt) | hob (o : HO) | box (φ : Hp → HO → Prop) | abx (φ : Hp → Addr → HO → Prop)
def MoR (K : PySem.W.Frag) (B H : Hp) (a : Addr) : MO → Prop
  | .gone => True
  | .lst xs => ∃ vs, H a = some (.lst vs) ∧ RpL K B xs vs
  | .hob o => H a = some o ∧ ∀ vs, o ≠ .tup vs
  | .box φ => ∃ o, H a = some o ∧ (∀ vs, o ≠ .tup vs) ∧ ∀ B', Same B B' → φ B' o
  | .abx φ => ∃ o, H a = some o ∧ (∀ vs, o ≠ .tup vs) ∧ ∀ B', Same B B' → φ B' a o
def SlR (K : PySem.W.Frag) (B : Hp) (as : List Addr) : Sl → V → Prop
  | .d x, v => Rp K B x v
  | .o k, v => ∃ a, as[k]? = some a ∧ v = .ref a
def SlL (K : PySem.W.Frag) (B : Hp) (as : List Addr) : List Sl → List V → Prop
  | [], vs => vs = []
  | s :: ss, vs => ∃ v r, vs = v :: r ∧ SlR K B as s v ∧ SlL K B as ss r
def Px (as as' : List Addr) : Prop := ∃ t, as' = as ++ t
theorem Px.refl (as : List Addr) : Px as as := ⟨[], (List.append_nil _).symm⟩
theorem Px.trans {a b c : List Addr} (h : Px a b) (q : Px b c) : Px a c := by
  obtain ⟨t, rfl⟩ := h
  obtain ⟨u, rfl⟩ := q
  exact ⟨t ++ u, List.append_assoc _ _ _⟩
theorem Px.get {as as' : List Addr} {k : Nat} {a : Addr} (h : Px as as') (e : as[k]? = some a) : as'[k]? = some a := by
  obtain ⟨t, rfl⟩ := h
  rw [List.getElem?_append_left (List.getElem?_eq_some_iff.mp e).1]
  exact e
/-- framed, and no tuple -/
def Kp (o : Option HO) : Prop := o ≠ none ∧ ∀ vs, o ≠ some (.tup vs)
def Gr (F B B' : Hp) : Prop := Same B B' ∧ ∀ a, Kp (F a) → B a = none → B' a = none
theorem Gr.refl (F B : Hp) : Gr F B B := ⟨Same.refl B, fun _ _ h => h⟩
theorem Gr.trans {F B C D : Hp} (h : Gr F B C) (q : Gr F C D) : Gr F B D := ⟨h.1.trans q.1, fun a e n => q.2 a e (h.2 a e n)⟩
theorem SlR.mono {K : PySem.W.Frag} {B B' : Hp} {as as' : List Addr} (e : Same B B') (p : Px as as') : ∀ {s : Sl} {v : V}, SlR K B as s v → SlR K B' as' s v
  | .d x, v, h => Rp.mono e x v h
  | .o k, v, ⟨a, h, q⟩ => ⟨a, p.get h, q⟩
theorem SlL.mono {K : PySem.W.Frag} {B B' : Hp} {as as' : List Addr} (e : Same B B') (p : Px as as') : ∀ {ss : List Sl} {vs : List V}, SlL K B as ss vs → SlL K B' as' ss vs
  | [], _, h => h
  | s :: ss, _, ⟨v, r, e1, h1, h2⟩ => ⟨v, r, e1, SlR.mono e p h1, SlL.mono e p h2⟩
theorem SlL.len {K : PySem.W.Frag} {B : Hp} {as : List Addr} : ∀ {ss : List Sl} {vs : List V}, SlL K B as ss vs → vs.length = ss.length
  | [], _, h => by rw [show _ = [] from h]; rfl
  | s :: ss, _, ⟨v, r, e, _, h⟩ => by rw [e, List.length_cons, List.length_cons, SlL.len h]
theorem SlL.data {K : PySem.W.Frag} {B : Hp} {as : List Addr} : ∀ {ds : List Dt} {vs : List V}, SlL K B as (ds.map Sl.d) vs → RpL K B ds vs
  | [], _, h => h
  | d :: ds, _, ⟨v, r, e, h1, h2⟩ => ⟨v, r, e, h1, SlL.data h2⟩
theorem SlL.of_data {K : PySem.W.Frag} {B : Hp} {as : List Addr} : ∀ {ds : List Dt} {vs : List V}, RpL K B ds vs → SlL K B as (ds.map Sl.d) vs
  | [], _, h => h
  | d :: ds, _, ⟨v, r, e, h1, h2⟩ => ⟨v, r, e, h1, SlL.of_data h2⟩
theorem MoR.mono {K : PySem.W.Frag} {B B' H H' : Hp} {a : Addr} (e : Same B B') (eh : H' a = H a) : ∀ {m : MO}, MoR K B H a m → MoR K B' H' a m
  | .gone, h => h
  | .lst xs, ⟨vs, h, q⟩ => ⟨vs, eh.trans h, RpL.mono e xs vs q⟩
  | .hob _, ⟨h, q⟩ => ⟨eh.trans h, q⟩
  | .box _, ⟨o, h, q, p⟩ => ⟨o, eh.trans h, q, fun B2 e2 => p B2 (e.trans e2)⟩
  | .abx _, ⟨o, h, q, p⟩ => ⟨o, eh.trans h, q, fun B2 e2 => p B2 (e.trans e2)⟩
theorem kp_lst {vs : List V} : Kp (some (.lst vs)) := ⟨fun z => (nomatch z), fun _ z => (nomatch z)⟩
theorem Kp.same {F H : Hp} {a : Addr} (k : Kp (F a)) (e : Same F H) : Kp (H a) := by
  cases h : F a with
  | none => exact absurd h k.1
  | some o =>
    rw [e a o h]
    exact ⟨fun z => (nomatch z), fun vs z => k.2 vs (h.trans z)⟩
theorem kp_mor {K : PySem.W.Frag} {B H : Hp} {a : Addr} : ∀ {m : MO}, m ≠ .gone → MoR K B H a m → Kp (H a)
  | .gone, n, _ => absurd rfl n
  | .lst xs, _, ⟨vs, h, _⟩ => by rw [h]; exact kp_lst
  | .hob o, _, ⟨h, q⟩ => by rw [h]; exact ⟨fun z => (nomatch z), fun vs z => q vs (Option.some.inj z)⟩
  | .box _, _, ⟨o, h, q, _⟩ => by rw [h]; exact ⟨fun z => (nomatch z), fun vs z => q vs (Option.some.inj z)⟩
  | .abx _, _, ⟨o, h, q, _⟩ => by rw [h]; exact ⟨fun z => (nomatch z), fun vs z => q vs (Option.some.inj z)⟩
theorem nodup_ix2 : ∀ {l : List Addr}, l.Nodup → ∀ {i j : Nat} (hi : i < l.length) (hj : j < l.length), l[i] = l[j] → i = j
  | [], _, i, _, hi, _, _ => absurd hi (by simp)
  | a :: l, n, 0, 0, _, _, _ => rfl
  | a :: l, n, 0, j + 1, _, hj, e => absurd (by rw [show a = l[j]'(Nat.lt_of_succ_lt_succ hj) from e]; exact List.getElem_mem _) (List.nodup_cons.mp n).1
  | a :: l, n, i + 1, 0, hi, _, e => absurd (by rw [show a = l[i]'(Nat.lt_of_succ_lt_succ hi) from e.symm]; exact List.getElem_mem _) (List.nodup_cons.mp n).1
  | a :: l, n, i + 1, j + 1, hi, hj, e => congrArg (· + 1) (nodup_ix2 (List.nodup_cons.mp n).2 (Nat.lt_of_succ_lt_succ hi) (Nat.lt_of_succ_lt_succ hj) e)
structure Ow (K : PySem.W.Frag) (F B : Hp) (as : List Addr) (M : List MO) (H : Hp) : Prop where
  fb : Same F H
  bb : Same B H
  len : as.length = M.length
  nd : as.Nodup
  al : ∀ a ∈ as, H a ≠ none
  fa : ∀ a ∈ as, F a = none
  own : ∀ (k : Nat) (a : Addr) (m : MO), as[k]? = some a → M[k]? = some m → m ≠ .gone → F a = none ∧ B a = none ∧ MoR K B H a m
def Slt (K : PySem.W.Frag) (B : Hp) (as : List Addr) (G : List (Option Sl)) (σ : L2.St) : Prop :=
  σ.length = G.length ∧ ∀ (i : Nat) (s : Sl), G[i]? = some (some s) → ∃ v, σ[i]? = some (some v) ∧ SlR K B as s v
theorem Slt.mono {K : PySem.W.Frag} {B B' : Hp} {as as' : List Addr} {G : List (Option Sl)} {σ : L2.St} (h : Slt K B as G σ) (e : Same B B') (p : Px as as') : Slt K B' as' G σ :=
  ⟨h.1, fun i s q => let ⟨v, e1, h1⟩ := h.2 i s q; ⟨v, e1, SlR.mono e p h1⟩⟩
theorem Slt.set {K : PySem.W.Frag} {B : Hp} {as : List Addr} {G : List (Option Sl)} {σ : L2.St} {s : Sl} {v : V} (h : Slt K B as G σ) (i : Nat) (r : SlR K B as s v) : Slt K B as (G.set i (some s)) (σ.set i (some v)) := by
  refine ⟨by rw [List.length_set, List.length_set]; exact h.1, fun j s' q => ?_⟩
  by_cases e : i = j
  · subst e
    have hl : i < G.length := by
      rcases Nat.lt_or_ge i G.length with z | z
      · exact z
      · rw [List.getElem?_eq_none (by rw [List.length_set]; exact z)] at q
        cases q
    rw [List.getElem?_set_self hl] at q
    cases q
    exact ⟨v, by rw [List.getElem?_set_self (by rw [h.1]; exact hl)], r⟩
  · rw [List.getElem?_set_ne e] at q
    obtain ⟨v', e1, h1⟩ := h.2 j s' q
    exact ⟨v', by rw [List.getElem?_set_ne e]; exact e1, h1⟩
section
variable {K : PySem.W.Frag} {F B H : Hp} {as : List Addr} {M : List MO} {p : Addr}
theorem Ow.fresh (h : Ow K F B as M H) (hp : H p = none) : F p = none ∧ B p = none ∧ p ∉ as := by
  refine ⟨h.fb.free hp, h.bb.free hp, fun z => h.al p z hp⟩
theorem Ow.gr (h : Ow K F B as M H) (hp : H p = none) (o : HO) : Gr F B (upd B p o) := by
  obtain ⟨h1, h2, _⟩ := h.fresh hp
  refine ⟨fun a u e => ?_, fun a f n => ?_⟩
  · rw [upd_ne (ne_of_none e h2)]; exact e
  · rw [upd_ne (fun e => f.1 (by rw [e]; exact h1))]; exact n
/-- a new thing that never changes -/
theorem Ow.new (h : Ow K F B as M H) (hp : H p = none) (o : HO) : Ow K F (upd B p o) as M (upd H p o) := by
  obtain ⟨h1, h2, h3⟩ := h.fresh hp
  have hg := h.gr hp o
  refine ⟨fun a u e => ?_, fun a u e => ?_, h.len, h.nd, fun a ha => ?_, h.fa, fun k a m e1 e2 hm => ?_⟩
  · rw [upd_ne (ne_of_none e h1)]; exact h.fb _ _ e
  · by_cases ea : a = p
    · subst ea; rw [upd_same] at e ⊢; exact e
    · rw [upd_ne ea] at e ⊢; exact h.bb _ _ e
  · rw [upd_ne (fun e : a = p => h3 (e ▸ ha))]; exact h.al a ha
  · have ha : a ∈ as := List.mem_of_getElem? e1
    have ne : a ≠ p := fun e : a = p => h3 (e ▸ ha)
    obtain ⟨q1, q2, q3⟩ := h.own k a m e1 e2 hm
    exact ⟨q1, by rw [upd_ne ne]; exact q2, MoR.mono hg.1 (upd_ne ne) q3⟩
/-- a new thing that is owned -/
theorem Ow.newO (h : Ow K F B as M H) (hp : H p = none) {o : HO} {m : MO} (hm : MoR K B (upd H p o) p m) : Ow K F B (as ++ [p]) (M ++ [m]) (upd H p o) := by
  obtain ⟨h1, h2, h3⟩ := h.fresh hp
  refine ⟨fun a u e => ?_, fun a u e => ?_, by rw [List.length_append, List.length_append, h.len]; rfl, ?_, fun a ha => ?_, fun a ha => ?_, fun k a m' e1 e2 hm' => ?_⟩
  · rw [upd_ne (ne_of_none e h1)]; exact h.fb _ _ e
  · rw [upd_ne (ne_of_none e h2)]; exact h.bb _ _ e
  · refine List.nodup_append.mpr ⟨h.nd, by simp, fun a ha b hb => ?_⟩
    obtain rfl : b = p := by simpa using hb
    exact fun e => h3 (e ▸ ha)
  · rcases List.mem_append.mp ha with ha | ha
    · rw [upd_ne (fun e : a = p => h3 (e ▸ ha))]; exact h.al a ha
    · obtain rfl : a = p := by simpa using ha
      rw [upd_same]; exact fun z => nomatch z
  · rcases List.mem_append.mp ha with ha | ha
    · exact h.fa a ha
    · obtain rfl : a = p := by simpa using ha
      exact h1
  · by_cases hk : k < as.length
    · rw [List.getElem?_append_left hk] at e1
      rw [List.getElem?_append_left (by rw [← h.len]; exact hk)] at e2
      have ne : a ≠ p := fun e : a = p => h3 (e ▸ List.mem_of_getElem? e1)
      obtain ⟨q1, q2, q3⟩ := h.own k a m' e1 e2 hm'
      exact ⟨q1, q2, MoR.mono (Same.refl B) (upd_ne ne) q3⟩
    · have hl : k = as.length := by
        have := (List.getElem?_eq_some_iff.mp e1).1
        rw [List.length_append, List.length_singleton] at this
        omega
      subst hl
      rw [List.getElem?_append_right (Nat.le_refl _), Nat.sub_self] at e1
      rw [h.len, List.getElem?_append_right (Nat.le_refl _), Nat.sub_self] at e2
      obtain rfl : p = a := Option.some.inj e1
      obtain rfl : m = m' := Option.some.inj e2
      exact ⟨h1, h2, hm⟩
/-- what is owned changes -/
theorem Ow.put (h : Ow K F B as M H) {k : Nat} {a : Addr} {m m' : MO} {o : HO} (e1 : as[k]? = some a) (e2 : M[k]? = some m) (hm : m ≠ .gone) (hm' : MoR K B (upd H a o) a m') : Ow K F B as (M.set k m') (upd H a o) := by
  obtain ⟨f, b, _⟩ := h.own k a m e1 e2 hm
  refine ⟨fun c u e => ?_, fun c u e => ?_, by rw [List.length_set]; exact h.len, h.nd, fun c hc => ?_, h.fa, fun j c n q1 q2 hn => ?_⟩
  · rw [upd_ne (ne_of_none e f)]; exact h.fb _ _ e
  · rw [upd_ne (ne_of_none e b)]; exact h.bb _ _ e
  · by_cases z : c = a
    · rw [z, upd_same]; exact fun z => nomatch z
    · rw [upd_ne z]; exact h.al c hc
  · by_cases z : k = j
    · subst z
      rw [e1] at q1
      obtain rfl : a = c := Option.some.inj q1
      rw [List.getElem?_set_self (List.getElem?_eq_some_iff.mp e2).1] at q2
      obtain rfl : m' = n := Option.some.inj q2
      exact ⟨f, b, hm'⟩
    · rw [List.getElem?_set_ne z] at q2
      have ne : c ≠ a := fun e => by
        subst e
        exact z (by
          have h1 := (List.getElem?_eq_some_iff.mp e1)
          have h2 := (List.getElem?_eq_some_iff.mp q1)
          obtain ⟨l1, g1⟩ := h1
          obtain ⟨l2, g2⟩ := h2
          exact nodup_ix2 h.nd l1 l2 (g1.trans g2.symm))
      obtain ⟨r1, r2, r3⟩ := h.own j c n q1 q2 hn
      exact ⟨r1, r2, MoR.mono (Same.refl B) (upd_ne ne) r3⟩
/-- what is owned becomes data -/
theorem Ow.freeze (h : Ow K F B as M H) {k : Nat} {a : Addr} {xs : List Dt} (e1 : as[k]? = some a) (e2 : M[k]? = some (.lst xs)) : ∃ B', Gr F B B' ∧ Ow K F B' as (M.set k .gone) H ∧ Rp K B' (.lst xs) (.ref a) := by
  obtain ⟨f, b, vs, hv, hr⟩ := h.own k a _ e1 e2 (fun z => nomatch z)
  have sm : Same B (upd B a (.lst vs)) := fun c u e => by rw [upd_ne (ne_of_none e b)]; exact e
  refine ⟨upd B a (.lst vs), ⟨sm, fun c z n => ?_⟩, ⟨h.fb, fun c u e => ?_, by rw [List.length_set]; exact h.len, h.nd, h.al, h.fa, fun j c n q1 q2 hn => ?_⟩, ⟨a, vs, rfl, .inl (.inl upd_same), RpL.mono sm xs vs hr⟩⟩
  · rw [upd_ne (fun e => z.1 (by rw [e]; exact f))]; exact n
  · by_cases z : c = a
    · subst z; rw [upd_same] at e; rw [← e]; exact hv
    · rw [upd_ne z] at e; exact h.bb _ _ e
  · by_cases z : k = j
    · subst z
      rw [List.getElem?_set_self (List.getElem?_eq_some_iff.mp e2).1] at q2
      exact absurd (Option.some.inj q2).symm hn
    · rw [List.getElem?_set_ne z] at q2
      have ne : c ≠ a := fun e => by
        subst e
        obtain ⟨l1, g1⟩ := List.getElem?_eq_some_iff.mp e1
        obtain ⟨l2, g2⟩ := List.getElem?_eq_some_iff.mp q1
        exact z (nodup_ix2 h.nd l1 l2 (g1.trans g2.symm))
      obtain ⟨r1, r2, r3⟩ := h.own j c n q1 q2 hn
      exact ⟨r1, by rw [upd_ne ne]; exact r2, MoR.mono sm rfl r3⟩
theorem Ow.freezeO (h : Ow K F B as M H) {k : Nat} {a : Addr} {o : HO} (e1 : as[k]? = some a) (e2 : M[k]? = some (.hob o)) : Gr F B (upd B a o) ∧ Ow K F (upd B a o) as (M.set k .gone) H := by
  obtain ⟨f, b, hv, _⟩ := h.own k a _ e1 e2 (fun z => nomatch z)
  have hv : H a = some o := hv
  have sm : Same B (upd B a o) := fun c u e => by rw [upd_ne (ne_of_none e b)]; exact e
  refine ⟨⟨sm, fun c z n => ?_⟩, ⟨h.fb, fun c u e => ?_, by rw [List.length_set]; exact h.len, h.nd, h.al, h.fa, fun j c n q1 q2 hn => ?_⟩⟩
  · rw [upd_ne (fun e => z.1 (by rw [e]; exact f))]; exact n
  · by_cases z : c = a
    · subst z; rw [upd_same] at e; rw [← e]; exact hv
    · rw [upd_ne z] at e; exact h.bb _ _ e
  · by_cases z : k = j
    · subst z
      rw [List.getElem?_set_self (List.getElem?_eq_some_iff.mp e2).1] at q2
      exact absurd (Option.some.inj q2).symm hn
    · rw [List.getElem?_set_ne z] at q2
      have ne : c ≠ a := fun e => by
        subst e
        obtain ⟨l1, g1⟩ := List.getElem?_eq_some_iff.mp e1
        obtain ⟨l2, g2⟩ := List.getElem?_eq_some_iff.mp q1
        exact z (nodup_ix2 h.nd l1 l2 (g1.trans g2.symm))
      obtain ⟨r1, r2, r3⟩ := h.own j c n q1 q2 hn
      exact ⟨r1, by rw [upd_ne ne]; exact r2, MoR.mono sm rfl r3⟩
/-- the last ones are let go -/
theorem Ow.drop {as : List Addr} {M X : List MO} (h : Ow K F B as (M ++ X) H) : Ow K F B (as.take M.length) M H := by
  refine ⟨h.fb, h.bb, ?_, h.nd.sublist (List.take_sublist _ _), fun a ha => h.al a (List.mem_of_mem_take ha), fun a ha => h.fa a (List.mem_of_mem_take ha), fun k a m e1 e2 hm => ?_⟩
  · have := h.len
    rw [List.length_append] at this
    rw [List.length_take]
    omega
  · have hk : k < M.length := (List.getElem?_eq_some_iff.mp e2).1
    rw [List.getElem?_take_of_lt hk] at e1
    exact h.own k a m e1 (by rw [List.getElem?_append_left hk]; exact e2) hm
end
/-! ### what evaluates to what -/
section
variable (K : PySem.W.Frag)
def EvE (te : TE) (G : List (Option Sl)) (M : List MO) (r : Sl) (M' : List MO) : Prop :=
  ∀ F B as σ H, Ow K F B as M H → Slt K B as G σ → ∀ Q : VK, (∀ v B' as' H', Gr F B B' → Px as as' → Ow K F B' as' M' H' → SlR K B' as' r v → Q v H') → te σ H Q
def EvT (tt : TT) (G : List (Option Sl)) (M : List MO) (b : Bool) (M' : List MO) : Prop :=
  ∀ F B as σ H, Ow K F B as M H → Slt K B as G σ → ∀ Q : Bool → Hp → Prop, (∀ B' as' H', Gr F B B' → Px as as' → Ow K F B' as' M' H' → Q b H') → tt σ H Q
def EvA (ta : TA) (G : List (Option Sl)) (M : List MO) (rs : List Sl) (M' : List MO) : Prop :=
  ∀ F B as σ H, Ow K F B as M H → Slt K B as G σ → ∀ Q : List V → Hp → Prop, (∀ vs B' as' H', Gr F B B' → Px as as' → Ow K F B' as' M' H' → SlL K B' as' rs vs → Q vs H') → ta σ H Q
def EvO (to : TO) (G : List (Option Sl)) (M : List MO) (o : Option Int) (M' : List MO) : Prop :=
  ∀ F B as σ H, Ow K F B as M H → Slt K B as G σ → ∀ Q : Option Int → Hp → Prop, (∀ B' as' H', Gr F B B' → Px as as' → Ow K F B' as' M' H' → Q o H') → to σ H Q
/-- an operation on data -/
def RO (r : R2) (x y z : Dt) : Prop := ∀ F B as M H v u Q, Ow K F B as M H → Rp K B x v → Rp K B y u → (∀ w B' H', Gr F B B' → Ow K F B' as M H' → Rp K B' z w → Q w H') → r v u H Q
def RU (r : V → Hp → VK → Prop) (x z : Dt) : Prop := ∀ F B as M H v Q, Ow K F B as M H → Rp K B x v → (∀ w B' H', Gr F B B' → Ow K F B' as M H' → Rp K B' z w → Q w H') → r v H Q
def RC (r : List V → Hp → VK → Prop) (xs : List Dt) (z : Dt) : Prop := ∀ F B as M H vs Q, Ow K F B as M H → RpL K B xs vs → (∀ w B' H', Gr F B B' → Ow K F B' as M H' → Rp K B' z w → Q w H') → r vs H Q
def RM (r : V → List V → Hp → VK → Prop) (x : Dt) (xs : List Dt) (z : Dt) : Prop := ∀ F B as M H v vs Q, Ow K F B as M H → Rp K B x v → RpL K B xs vs → (∀ w B' H', Gr F B B' → Ow K F B' as M H' → Rp K B' z w → Q w H') → r v vs H Q
end
section
variable {K : PySem.W.Frag} {G : List (Option Sl)} {M M1 M2 M3 : List MO} {s : Sl} {ta tb te : TE} {t u : TT} {x y z : Dt} {r : R2} {b : Bool}
theorem ev_var {i : Nat} (h : G[i]? = some (some s)) : EvE K (tVar i) G M s M := fun F B as σ H o sl Q q => by
  obtain ⟨v, e, r⟩ := sl.2 i s h
  exact ⟨v, e, q v B as H (Gr.refl F B) (Px.refl as) o r⟩
theorem ev_c {v : V} (h : ∀ B, Rp K B x v) : EvE K (tC v) G M (.d x) M := fun F B as σ H o sl Q q => q v B as H (Gr.refl F B) (Px.refl as) o (h B)
theorem ev_int {i : Int} : EvE K (tC (.int i)) G M (.d (.int i)) M := ev_c fun _ => rfl
theorem ev_bl {i : Bool} : EvE K (tC (.bl i)) G M (.d (.bl i)) M := ev_c fun _ => rfl
theorem ev_non : EvE K (tC .non) G M (.d .non) M := ev_c fun _ => rfl
theorem ev_str {c : Str} (l : List Nat) (h : c = tx l := by rfl) : EvE K (tC (.str c)) G M (.d (.str l)) M := ev_c fun _ => by rw [h]; rfl
theorem ev_is {s' : Sl} (h : EvE K te G M s M1) (e : s = s') : EvE K te G M s' M1 := e ▸ h
theorem ev_isD (h : EvE K te G M (.d x) M1) (e : x = y) : EvE K te G M (.d y) M1 := e ▸ h
theorem ev_bind {te : TE} (ha : EvE K ta G M s M1) (hk : ∀ F B as σ H v, Ow K F B as M1 H → Slt K B as G σ → SlR K B as s v → ∀ Q : VK, (∀ w B' as' H', Gr F B B' → Px as as' → Ow K F B' as' M2 H' → SlR K B' as' (.d z) w → Q w H') → te σ H Q → te σ H Q) : True := trivial
theorem ev_op (ha : EvE K ta G M (.d x) M1) (hb : EvE K tb G M1 (.d y) M2) (hr : RO K r x y z) : EvE K (tOp r ta tb) G M (.d z) M2 := fun F B as σ H o sl Q q =>
  ha F B as σ H o sl _ fun v B1 as1 H1 g1 p1 o1 r1 => hb F B1 as1 σ H1 o1 (sl.mono g1.1 p1) _ fun w B2 as2 H2 g2 p2 o2 r2 =>
    hr F B2 as2 M2 H2 v w Q o2 (Rp.mono g2.1 _ _ r1) r2 fun w' B3 H3 g3 o3 r3 => q w' B3 as2 H3 (g1.trans (g2.trans g3)) (p1.trans p2) o3 r3
theorem ev_un {r : V → Hp → VK → Prop} (ha : EvE K ta G M (.d x) M1) (hr : RU K r x z) : EvE K (tUn r ta) G M (.d z) M1 := fun F B as σ H o sl Q q =>
  ha F B as σ H o sl _ fun v B1 as1 H1 g1 p1 o1 r1 => hr F B1 as1 M1 H1 v Q o1 r1 fun w' B3 H3 g3 o3 r3 => q w' B3 as1 H3 (g1.trans g3) p1 o3 r3
theorem ea_nil : EvA K tNil G M [] M := fun F B as σ H o sl Q q => q [] B as H (Gr.refl F B) (Px.refl as) o rfl
theorem ea_cons {tr : TA} {rs : List Sl} (ha : EvE K ta G M s M1) (hr : EvA K tr G M1 rs M2) : EvA K (tCons ta tr) G M (s :: rs) M2 := fun F B as σ H o sl Q q =>
  ha F B as σ H o sl _ fun v B1 as1 H1 g1 p1 o1 r1 => hr F B1 as1 σ H1 o1 (sl.mono g1.1 p1) _ fun vs B2 as2 H2 g2 p2 o2 r2 =>
    q (v :: vs) B2 as2 H2 (g1.trans g2) (p1.trans p2) o2 ⟨v, vs, rfl, SlR.mono g2.1 p2 r1, r2⟩
theorem ev_cb {r : List V → Hp → VK → Prop} {tr : TA} {xs : List Dt} (ha : EvA K tr G M (xs.map Sl.d) M1) (hr : RC K r xs z) : EvE K (tCB r tr) G M (.d z) M1 := fun F B as σ H o sl Q q =>
  ha F B as σ H o sl _ fun vs B1 as1 H1 g1 p1 o1 r1 => hr F B1 as1 M1 H1 vs Q o1 (SlL.data r1) fun w' B3 H3 g3 o3 r3 => q w' B3 as1 H3 (g1.trans g3) p1 o3 r3
theorem et_test (h : EvE K te G M (.d (.bl b)) M1) : EvT K (tTest te) G M b M1 := fun F B as σ H o sl Q q => h F B as σ H o sl _ fun v B1 as1 H1 g1 p1 o1 r1 => ⟨b, r1, q B1 as1 H1 g1 p1 o1⟩
theorem et_B (h : EvE K te G M (.d (.bl b)) M1) : EvT K (tB te) G M b M1 := fun F B as σ H o sl Q q => h F B as σ H o sl _ fun v B1 as1 H1 g1 p1 o1 r1 => ⟨b, r1, q B1 as1 H1 g1 p1 o1⟩
theorem et_and {c : Bool} (h1 : EvT K t G M b M1) (h2 : b = true → EvT K u G M1 c M2) (h3 : b = false → M1 = M2) : EvT K (tAnd t u) G M (b && c) M2 := fun F B as σ H o sl Q q => h1 F B as σ H o sl _ fun B1 as1 H1 g1 p1 o1 => by
  cases b with
  | true => exact h2 rfl F B1 as1 σ H1 o1 (sl.mono g1.1 p1) _ fun B2 as2 H2 g2 p2 o2 => q B2 as2 H2 (g1.trans g2) (p1.trans p2) o2
  | false => exact q B1 as1 H1 g1 p1 (h3 rfl ▸ o1)
theorem et_or {c : Bool} (h1 : EvT K t G M b M1) (h2 : b = false → EvT K u G M1 c M2) (h3 : b = true → M1 = M2) : EvT K (tOr t u) G M (b || c) M2 := fun F B as σ H o sl Q q => h1 F B as σ H o sl _ fun B1 as1 H1 g1 p1 o1 => by
  cases b with
  | false => exact h2 rfl F B1 as1 σ H1 o1 (sl.mono g1.1 p1) _ fun B2 as2 H2 g2 p2 o2 => q B2 as2 H2 (g1.trans g2) (p1.trans p2) o2
  | true => exact q B1 as1 H1 g1 p1 (h3 rfl ▸ o1)
theorem et_not (h1 : EvT K t G M b M1) : EvT K (tNot t) G M (!b) M1 := fun F B as σ H o sl Q q => h1 F B as σ H o sl _ q
theorem et_is {c : Bool} (h : EvT K t G M b M1) (e : b = c) : EvT K t G M c M1 := e ▸ h
theorem ev_andV {a c : Bool} (h1 : EvE K ta G M (.d (.bl a)) M1) (h2 : a = true → EvE K tb G M1 (.d (.bl c)) M2) (h3 : a = false → M1 = M2) : EvE K (tAndV ta tb) G M (.d (.bl (a && c))) M2 := fun F B as σ H o sl Q q =>
  h1 F B as σ H o sl _ fun v B1 as1 H1 g1 p1 o1 r1 => ⟨a, r1, by
    cases a with
    | true => exact h2 rfl F B1 as1 σ H1 o1 (sl.mono g1.1 p1) _ fun w B2 as2 H2 g2 p2 o2 r2 => q w B2 as2 H2 (g1.trans g2) (p1.trans p2) o2 r2
    | false => exact q (.bl false) B1 as1 H1 g1 p1 (h3 rfl ▸ o1) rfl⟩
theorem ev_orV {a c : Bool} (h1 : EvE K ta G M (.d (.bl a)) M1) (h2 : a = false → EvE K tb G M1 (.d (.bl c)) M2) (h3 : a = true → M1 = M2) : EvE K (tOrV ta tb) G M (.d (.bl (a || c))) M2 := fun F B as σ H o sl Q q =>
  h1 F B as σ H o sl _ fun v B1 as1 H1 g1 p1 o1 r1 => ⟨a, r1, by
    cases a with
    | false => exact h2 rfl F B1 as1 σ H1 o1 (sl.mono g1.1 p1) _ fun w B2 as2 H2 g2 p2 o2 r2 => q w B2 as2 H2 (g1.trans g2) (p1.trans p2) o2 r2
    | true => exact q (.bl true) B1 as1 H1 g1 p1 (h3 rfl ▸ o1) rfl⟩
theorem ev_notV {a : Bool} (h1 : EvE K ta G M (.d (.bl a)) M1) : EvE K (tNotV ta) G M (.d (.bl (!a))) M1 := fun F B as σ H o sl Q q =>
  h1 F B as σ H o sl _ fun v B1 as1 H1 g1 p1 o1 r1 => ⟨a, r1, q _ B1 as1 H1 g1 p1 o1 rfl⟩
theorem ev_if (h : EvT K t G M b M1) (h1 : b = true → EvE K ta G M1 s M2) (h2 : b = false → EvE K tb G M1 s M2) : EvE K (tIf t ta tb) G M s M2 := fun F B as σ H o sl Q q => h F B as σ H o sl _ fun B1 as1 H1 g1 p1 o1 => by
  cases b with
  | true => exact h1 rfl F B1 as1 σ H1 o1 (sl.mono g1.1 p1) _ fun w B2 as2 H2 g2 p2 o2 r2 => q w B2 as2 H2 (g1.trans g2) (p1.trans p2) o2 r2
  | false => exact h2 rfl F B1 as1 σ H1 o1 (sl.mono g1.1 p1) _ fun w B2 as2 H2 g2 p2 o2 r2 => q w B2 as2 H2 (g1.trans g2) (p1.trans p2) o2 r2
/-- a written list, a written tuple: data -/
theorem ev_tup {tr : TA} {xs : List Dt} (ha : EvA K tr G M (xs.map Sl.d) M1) (hl : xs.length ≤ 1000) : EvE K (tTup tr) G M (.d (.tup xs)) M1 := fun F B as σ H o sl Q q =>
  ha F B as σ H o sl _ fun vs B1 as1 H1 g1 p1 o1 r1 => ⟨by rw [r1.len, List.length_map]; exact Nat.le_trans hl (by decide), fun p hp => by
    have g2 := o1.gr hp (.tup vs)
    exact q _ _ as1 _ (g1.trans g2) p1 (o1.new hp _) ⟨p, vs, rfl, .inl (.inl upd_same), RpL.mono g2.1 _ _ (SlL.data r1)⟩⟩
theorem ev_lst {tr : TA} {xs : List Dt} (ha : EvA K tr G M (xs.map Sl.d) M1) (hl : xs.length ≤ 1000) : EvE K (tLst tr) G M (.d (.lst xs)) M1 := fun F B as σ H o sl Q q =>
  ha F B as σ H o sl _ fun vs B1 as1 H1 g1 p1 o1 r1 => ⟨by rw [r1.len, List.length_map]; exact Nat.le_trans hl (by decide), fun p hp => by
    have g2 := o1.gr hp (.lst vs)
    exact q _ _ as1 _ (g1.trans g2) p1 (o1.new hp _) ⟨p, vs, rfl, .inl (.inl upd_same), RpL.mono g2.1 _ _ (SlL.data r1)⟩⟩
/-- a written list that will change -/
theorem ev_lstO {tr : TA} {xs : List Dt} (ha : EvA K tr G M (xs.map Sl.d) M1) (hl : xs.length ≤ 1000) : EvE K (tLst tr) G M (.o M1.length) (M1 ++ [.lst xs]) := fun F B as σ H o sl Q q =>
  ha F B as σ H o sl _ fun vs B1 as1 H1 g1 p1 o1 r1 => ⟨by rw [r1.len, List.length_map]; exact Nat.le_trans hl (by decide), fun p hp => by
    refine q _ B1 (as1 ++ [p]) _ g1 (p1.trans ⟨[p], rfl⟩) (o1.newO hp ⟨vs, upd_same, SlL.data r1⟩) ⟨p, ?_, rfl⟩
    rw [← o1.len, List.getElem?_append_right (Nat.le_refl _), Nat.sub_self]
    rfl⟩
end
end DJ
namespace DJ
open PySem PySem.Spec PyProof.Rows L2
/-! ### statements -/
inductive Out where
  | nx (G : List (Option Sl)) (M : List MO) | rt (r : Sl) (M : List MO) | bk (G : List (Option Sl)) (M : List MO) | ct (G : List (Option Sl)) (M : List MO)
def Gd (K : PySem.W.Frag) (F B : Hp) (as : List Addr) (D : Ends) : Out → Prop
  | .nx G M => ∀ B' as' σ' H', Gr F B B' → Px as as' → Ow K F B' as' M H' → Slt K B' as' G σ' → D.nx σ' H'
  | .rt r M => ∀ v B' as' H', Gr F B B' → Px as as' → Ow K F B' as' M H' → SlR K B' as' r v → D.rt v H'
  | .bk G M => ∀ B' as' σ' H', Gr F B B' → Px as as' → Ow K F B' as' M H' → Slt K B' as' G σ' → D.bk σ' H'
  | .ct G M => ∀ B' as' σ' H', Gr F B B' → Px as as' → Ow K F B' as' M H' → Slt K B' as' G σ' → D.ct σ' H'
def EvS (K : PySem.W.Frag) (ts : TS) (G : List (Option Sl)) (M : List MO) (o : Out) : Prop :=
  ∀ F B as σ H, Ow K F B as M H → Slt K B as G σ → ∀ D : Ends, Gd K F B as D o → ts D σ H
section
variable {K : PySem.W.Frag} {F B B1 : Hp} {as as1 : List Addr} {D : Ends} {o : Out} {G G1 G2 G' : List (Option Sl)} {M M1 M2 M' : List MO} {t u : TS} {te ta tb to ti : TE} {s : Sl} {b : Bool} {tt : TT} {x y z : Dt}
theorem Gd.later (g : Gr F B B1) (p : Px as as1) (h : Gd K F B as D o) : Gd K F B1 as1 D o := by
  cases o with
  | nx G M => exact fun B' as' σ' H' g' p' => h B' as' σ' H' (g.trans g') (p.trans p')
  | rt r M => exact fun v B' as' H' g' p' => h v B' as' H' (g.trans g') (p.trans p')
  | bk G M => exact fun B' as' σ' H' g' p' => h B' as' σ' H' (g.trans g') (p.trans p')
  | ct G M => exact fun B' as' σ' H' g' p' => h B' as' σ' H' (g.trans g') (p.trans p')
theorem es_seq (h1 : EvS K t G M (.nx G1 M1)) (h2 : EvS K u G1 M1 o) : EvS K (tSeq t u) G M o := fun F B as σ H ow sl D gd =>
  h1 F B as σ H ow sl { D with nx := u D } fun B' as' σ' H' g p o' s' => h2 F B' as' σ' H' o' s' D (gd.later g p)
theorem es_seqR {r : Sl} (h1 : EvS K t G M (.rt r M1)) : EvS K (tSeq t u) G M (.rt r M1) := fun F B as σ H ow sl D gd => h1 F B as σ H ow sl { D with nx := u D } gd
theorem es_seqB (h1 : EvS K t G M (.bk G1 M1)) : EvS K (tSeq t u) G M (.bk G1 M1) := fun F B as σ H ow sl D gd => h1 F B as σ H ow sl { D with nx := u D } gd
theorem es_seqC (h1 : EvS K t G M (.ct G1 M1)) : EvS K (tSeq t u) G M (.ct G1 M1) := fun F B as σ H ow sl D gd => h1 F B as σ H ow sl { D with nx := u D } gd
theorem es_next : EvS K tNext G M (.nx G M) := fun F B as σ H ow sl D gd => gd B as σ H (Gr.refl F B) (Px.refl as) ow sl
theorem es_brk : EvS K tBreak G M (.bk G M) := fun F B as σ H ow sl D gd => gd B as σ H (Gr.refl F B) (Px.refl as) ow sl
theorem es_cont : EvS K tCont G M (.ct G M) := fun F B as σ H ow sl D gd => gd B as σ H (Gr.refl F B) (Px.refl as) ow sl
theorem es_asg {i : Nat} (h : EvE K te G M s M1) : EvS K (tAsg te (gName i)) G M (.nx (G.set i (some s)) M1) := fun F B as σ H ow sl D gd =>
  h F B as σ H ow sl _ fun v B' as' H' g p o' r => gd B' as' _ H' g p o' ((sl.mono g.1 p).set i r)
theorem es_drop (h : EvE K te G M s M1) : EvS K (tDrop te) G M (.nx G M1) := fun F B as σ H ow sl D gd =>
  h F B as σ H ow sl _ fun v B' as' H' g p o' r => gd B' as' _ H' g p o' (sl.mono g.1 p)
theorem es_ret (h : EvE K te G M s M1) : EvS K (tRet te) G M (.rt s M1) := fun F B as σ H ow sl D gd =>
  h F B as σ H ow sl _ fun v B' as' H' g p o' r => gd v B' as' H' g p o' r
theorem es_retN : EvS K tRetN G M (.rt (.d .non) M) := fun F B as σ H ow sl D gd => gd .non B as H (Gr.refl F B) (Px.refl as) ow rfl
theorem es_if (h : EvT K tt G M b M1) (h1 : b = true → EvS K t G M1 o) (h2 : b = false → EvS K u G M1 o) : EvS K (tIfS tt t u) G M o := fun F B as σ H ow sl D gd =>
  h F B as σ H ow sl _ fun B' as' H' g p o' => by
    cases b with
    | true => exact h1 rfl F B' as' σ H' o' (sl.mono g.1 p) D (gd.later g p)
    | false => exact h2 rfl F B' as' σ H' o' (sl.mono g.1 p) D (gd.later g p)
/-- fewer slots known -/
def Lg (G G' : List (Option Sl)) : Prop := G.length = G'.length ∧ ∀ (i : Nat) (s : Sl), G'[i]? = some (some s) → G[i]? = some (some s)
theorem Lg.refl (G : List (Option Sl)) : Lg G G := ⟨rfl, fun _ _ h => h⟩
theorem Slt.weak {σ : L2.St} (h : Slt K B as G σ) (l : Lg G G') : Slt K B as G' σ := ⟨h.1.trans l.1, fun i s q => h.2 i s (l.2 i s q)⟩
theorem es_pre (l : Lg G G') (h : EvS K t G' M o) : EvS K t G M o := fun F B as σ H ow sl D gd => h F B as σ H ow (sl.weak l) D gd
theorem es_nxw (h : EvS K t G M (.nx G1 M1)) (l : Lg G1 G2) : EvS K t G M (.nx G2 M1) := fun F B as σ H ow sl D gd => h F B as σ H ow sl D fun B' as' σ' H' g p o' s' => gd B' as' σ' H' g p o' (s'.weak l)
theorem lg_cons {a c : Option Sl} (h : Lg G G') (e : c = a ∨ c = none) : Lg (a :: G) (c :: G') := by
  refine ⟨by rw [List.length_cons, List.length_cons, h.1], fun i s q => ?_⟩
  cases i with
  | zero =>
    rcases e with e | e
    · rw [e] at q; exact q
    · rw [e] at q; cases q
  | succ i => exact h.2 i s q
theorem lg_nil : Lg [] [] := Lg.refl _
/-- a changing list becomes data -/
def frz (k : Nat) (xs : List Dt) : Option Sl → Option Sl
  | some (.o j) => if j = k then some (.d (.lst xs)) else some (.o j)
  | s => s
theorem es_freeze {k : Nat} {xs : List Dt} (hm : M[k]? = some (.lst xs)) (h : EvS K t (G.map (frz k xs)) (M.set k .gone) o) : EvS K t G M o := fun F B as σ H ow sl D gd => by
  have hk : k < as.length := by rw [ow.len]; exact (List.getElem?_eq_some_iff.mp hm).1
  obtain ⟨B', g, ow', rp⟩ := ow.freeze (List.getElem?_eq_getElem hk) hm
  refine h F B' as σ H ow' ⟨by rw [List.length_map]; exact sl.1, fun i s q => ?_⟩ D (gd.later g (Px.refl as))
  rw [List.getElem?_map] at q
  cases e : G[i]? with
  | none => rw [e] at q; cases q
  | some c =>
    rw [e] at q
    have q : frz k xs c = some s := Option.some.inj q
    cases c with
    | none => cases q
    | some c =>
      obtain ⟨v, hv, hr⟩ := sl.2 i c e
      refine ⟨v, hv, ?_⟩
      cases c with
      | d x =>
        cases q
        exact Rp.mono g.1 x v hr
      | o j =>
        unfold frz at q
        by_cases hj : j = k
        · simp only [if_pos hj] at q
          cases q
          subst hj
          obtain ⟨a, ha, rfl⟩ := hr
          rw [List.getElem?_eq_getElem hk] at ha
          cases ha
          exact rp
        · simp only [if_neg hj] at q
          cases q
          exact SlR.mono g.1 (Px.refl as) (s := .o j) hr
/-- what is returned is data by then -/
theorem ev_freeze {k : Nat} {xs : List Dt} (h : EvE K te G M (.o k) M1) (hm : M1[k]? = some (.lst xs)) : EvE K te G M (.d (.lst xs)) (M1.set k .gone) := fun F B as σ H ow sl Q q =>
  h F B as σ H ow sl _ fun v B1 as1 H1 g p o1 r => by
    obtain ⟨a, ha, rfl⟩ := r
    obtain ⟨B', g', ow', rp⟩ := o1.freeze ha hm
    exact q _ B' as1 H1 (g.trans g') p ow' rp
/-! ### targets -/
def EvG (K : PySem.W.Frag) (g : TG) (G : List (Option Sl)) (x : Sl) (G' : List (Option Sl)) : Prop :=
  ∀ F B as M σ H v, Ow K F B as M H → Slt K B as G σ → SlR K B as x v → ∀ Q : L2.St → Hp → Prop, (∀ B' as' σ' H', Gr F B B' → Px as as' → Ow K F B' as' M H' → Slt K B' as' G' σ' → Q σ' H') → g v σ H Q
theorem eg_name {i : Nat} : EvG K (gName i) G s (G.set i (some s)) := fun F B as M σ H v ow sl r Q q => q B as _ H (Gr.refl F B) (Px.refl as) ow (sl.set i r)
def EvGs (K : PySem.W.Frag) (g : TGs) (G : List (Option Sl)) (xs : List Dt) (G' : List (Option Sl)) : Prop :=
  ∀ F B as M σ H vs, Ow K F B as M H → Slt K B as G σ → RpL K B xs vs → ∀ Q : L2.St → Hp → Prop, (∀ B' as' σ' H', Gr F B B' → Px as as' → Ow K F B' as' M H' → Slt K B' as' G' σ' → Q σ' H') → g vs σ H Q
theorem egs_nil : EvGs K gNil G [] G := fun F B as M σ H vs ow sl r Q q => ⟨r, q B as _ H (Gr.refl F B) (Px.refl as) ow sl⟩
theorem egs_cons {t : TG} {u : TGs} {xs : List Dt} (h1 : EvG K t G (.d x) G1) (h2 : EvGs K u G1 xs G2) : EvGs K (gCons t u) G (x :: xs) G2 := fun F B as M σ H vs ow sl r Q q => by
  obtain ⟨v, r', e, r1, r2⟩ := r
  exact ⟨v, r', e, h1 F B as M σ H v ow sl r1 _ fun B1 as1 σ1 H1 g1 p1 o1 s1 => h2 F B1 as1 M σ1 H1 r' o1 s1 (RpL.mono g1.1 _ _ r2) _ fun B2 as2 σ2 H2 g2 p2 o2 s2 => q B2 as2 σ2 H2 (g1.trans g2) (p1.trans p2) o2 s2⟩
theorem eg_tup {t : TGs} {xs : List Dt} {n : Nat} (h : EvGs K t G xs G1) (hn : xs.length = n) : EvG K (gTup K n t) G (.d (.tup xs)) G1 := fun F B as M σ H v ow sl r Q q => by
  obtain ⟨a, vs, e, h1, h2⟩ := r
  exact ⟨a, vs, e, same_t ow.bb h1, h2.len.trans hn, h F B as M σ H vs ow sl h2 Q q⟩
theorem es_asgG {g : TG} (h : EvE K te G M s M1) (hg : EvG K g G s G1) : EvS K (tAsg te g) G M (.nx G1 M1) := fun F B as σ H ow sl D gd =>
  h F B as σ H ow sl _ fun v B' as' H' g p o' r => hg F B' as' M1 σ H' v o' (sl.mono g.1 p) r _ fun B2 as2 σ2 H2 g2 p2 o2 s2 => gd B2 as2 σ2 H2 (g.trans g2) (p.trans p2) o2 s2
theorem es_par {i j : Nat} {t : TA} {x y : Sl} (h : EvA K t G M [x, y] M1) : EvS K (tPar i j t) G M (.nx ((G.set i (some x)).set j (some y)) M1) := fun F B as σ H ow sl D gd =>
  h F B as σ H ow sl _ fun vs B' as' H' g p o' r => by
    obtain ⟨v, r1, e1, h1, w, r2, e2, h2, e3⟩ := r
    have e3 : r2 = [] := e3
    subst e3; subst e2; subst e1
    exact ⟨v, w, rfl, gd B' as' _ H' g p o' (((sl.mono g.1 p).set i h1).set j h2)⟩
/-! ### what is walked -/
def Yl (K : PySem.W.Frag) (B0 : Hp) (J : It) (xs : List Dt) : Prop :=
  ∀ F B as M H (i : Nat), Same B0 B → Ow K F B as M H → (∀ x, xs[i]? = some x → J.go i H ∧ ∀ v H', J.yld i H v H' → ∃ B', Gr F B B' ∧ Ow K F B' as M H' ∧ Rp K B' x v) ∧ (xs.length ≤ i → J.stop i H)
def EvI (K : PySem.W.Frag) (wi : TI) (G : List (Option Sl)) (M : List MO) (xs : List Dt) (M' : List MO) : Prop :=
  ∀ F B as σ H, Ow K F B as M H → Slt K B as G σ → ∀ R : It → Hp → Prop, (∀ J B' as' H', Gr F B B' → Px as as' → Ow K F B' as' M' H' → Yl K B' J xs → R J H') → wi σ H R
theorem yl_list {a : Addr} {vs : List V} {xs : List Dt} (h : SqL K B a vs) (r : RpL K B xs vs) : Yl K B (Itl K a) xs := fun F B' as M H i e ow => by
  have h1 : SqL K H a vs := ow.bb.seq (e.seq h)
  refine ⟨fun x hx => ?_, fun hi => ⟨vs, h1, by rw [r.len]; exact hi⟩⟩
  obtain ⟨v, hv, hr⟩ := r.get hx
  refine ⟨⟨vs, v, h1, hv⟩, fun w H' y => ?_⟩
  obtain ⟨rfl, y⟩ := y
  have e2 : v = w := Option.some.inj (hv.symm.trans (y vs h1))
  exact ⟨B', Gr.refl F B', ow, e2 ▸ Rp.mono e _ _ hr⟩
theorem yl_tup {a : Addr} {vs : List V} {xs : List Dt} (h : SqT K B a vs) (r : RpL K B xs vs) : Yl K B (Itt K a) xs := fun F B' as M H i e ow => by
  have h1 : SqT K H a vs := same_t ow.bb (same_t e h)
  refine ⟨fun x hx => ?_, fun hi => ⟨vs, h1, by rw [r.len]; exact hi⟩⟩
  obtain ⟨v, hv, hr⟩ := r.get hx
  refine ⟨⟨vs, v, h1, hv⟩, fun w H' y => ?_⟩
  obtain ⟨rfl, y⟩ := y
  have e2 : v = w := Option.some.inj (hv.symm.trans (y vs h1))
  exact ⟨B', Gr.refl F B', ow, e2 ▸ Rp.mono e _ _ hr⟩
theorem yl_str {l : List Nat} : Yl K B (Its (tx l)) (l.map fun c => .str [c]) := fun F B' as M H i e ow => by
  refine ⟨fun x hx => ?_, fun hi => ?_⟩
  · rw [List.getElem?_map] at hx
    cases hc : l[i]? with
    | none => rw [hc] at hx; cases hx
    | some c =>
      rw [hc] at hx
      have hx : Dt.str [c] = x := Option.some.inj hx
      subst hx
      refine ⟨?_, fun v H' y => ?_⟩
      · show i < l.toArray.size
        rw [List.size_toArray]
        exact (List.getElem?_eq_some_iff.mp hc).1
      · obtain ⟨rfl, c', h1, rfl⟩ := y
        refine ⟨B', Gr.refl F B', ow, ?_⟩
        have h2 : l[i]? = some c' := by
          rw [show (tx l).cps = l.toArray from rfl, List.getElem?_toArray] at h1
          exact h1
        rw [hc] at h2
        cases h2
        rfl
  · show l.toArray.size ≤ i
    rw [List.size_toArray]
    rw [List.length_map] at hi
    exact hi
theorem yl_rng {lo : Int} {n : Nat} : Yl K B (Itr lo n) ((List.range n).map fun (i : Nat) => .int (lo + i)) := fun F B' as M H i e ow => by
  refine ⟨fun x hx => ?_, fun hi => ?_⟩
  · rw [List.getElem?_map] at hx
    by_cases hi : i < n
    · rw [List.getElem?_range hi] at hx
      have hx : Dt.int (lo + i) = x := Option.some.inj hx
      subst hx
      refine ⟨hi, fun v H' y => ?_⟩
      obtain ⟨rfl, rfl⟩ := y
      exact ⟨B', Gr.refl F B', ow, rfl⟩
    · rw [List.getElem?_eq_none (by rw [List.length_range]; omega)] at hx
      cases hx
  · rw [List.length_map, List.length_range] at hi
    exact hi
/-- the pairs of a walk with numbers -/
def enumD (n : Nat) : List Dt → List Dt
  | [] => []
  | x :: xs => .tup [.int (n : Nat), x] :: enumD (n + 1) xs
theorem enumD_get : ∀ (xs : List Dt) (n i : Nat), (enumD n xs)[i]? = (xs[i]?).map fun x => .tup [.int ((n + i : Nat) : Nat), x]
  | [], n, i => by simp [enumD]
  | x :: xs, n, 0 => by simp [enumD]
  | x :: xs, n, i + 1 => by
    rw [enumD, List.getElem?_cons_succ, List.getElem?_cons_succ, enumD_get xs (n + 1) i, Nat.add_right_comm]
    rfl
theorem enumD_len : ∀ (xs : List Dt) (n : Nat), (enumD n xs).length = xs.length
  | [], _ => rfl
  | x :: xs, n => by rw [enumD, List.length_cons, List.length_cons, enumD_len]
theorem yl_enum {a : Addr} {vs : List V} {xs : List Dt} (h : SqL K B a vs) (r : RpL K B xs vs) : Yl K B (Ite K a) (enumD 0 xs) := fun F B' as M H i e ow => by
  have h1 : SqL K H a vs := ow.bb.seq (e.seq h)
  refine ⟨fun x hx => ?_, fun hi => ⟨vs, h1, by rw [r.len]; rw [enumD_len] at hi; exact hi⟩⟩
  rw [enumD_get] at hx
  cases hy : xs[i]? with
  | none => rw [hy] at hx; cases hx
  | some y =>
    rw [hy] at hx
    have hx : Dt.tup [.int ((0 + i : Nat) : Nat), y] = x := Option.some.inj hx
    subst hx
    obtain ⟨v, hv, hr⟩ := r.get hy
    refine ⟨⟨vs, v, h1, hv⟩, fun w H' yl => ?_⟩
    obtain ⟨T, u, rfl, hT, rfl, hu⟩ := yl
    have e2 : v = u := Option.some.inj (hv.symm.trans (hu vs h1))
    subst e2
    have hg := ow.gr hT (.tup [.int (i : Nat), v])
    refine ⟨_, hg, ow.new hT _, T, _, rfl, .inl (.inl upd_same), _, _, rfl, ?_, _, _, rfl, Rp.mono (e.trans hg.1) _ _ hr, rfl⟩
    rw [Nat.zero_add]
    rfl
theorem ei_list {xs : List Dt} (h : EvE K te G M (.d (.lst xs)) M1) : EvI K (iList K te) G M xs M1 := fun F B as σ H ow sl R q =>
  h F B as σ H ow sl _ fun v B' as' H' g p o' r => by
    obtain ⟨a, vs, e, h1, h2⟩ := r
    exact ⟨a, e, ⟨vs, o'.bb.seq h1⟩, q _ B' as' H' g p o' (yl_list h1 h2)⟩
theorem ei_tup {xs : List Dt} (h : EvE K te G M (.d (.tup xs)) M1) : EvI K (iTup K te) G M xs M1 := fun F B as σ H ow sl R q =>
  h F B as σ H ow sl _ fun v B' as' H' g p o' r => by
    obtain ⟨a, vs, e, h1, h2⟩ := r
    exact ⟨a, e, ⟨vs, same_t o'.bb h1⟩, q _ B' as' H' g p o' (yl_tup h1 h2)⟩
theorem ei_str {l : List Nat} (h : EvE K te G M (.d (.str l)) M1) : EvI K (iStr te) G M (l.map fun c => .str [c]) M1 := fun F B as σ H ow sl R q =>
  h F B as σ H ow sl _ fun v B' as' H' g p o' r => ⟨tx l, r, q _ B' as' H' g p o' yl_str⟩
theorem ei_rng1 {ta : TA} {n : Int} (h : EvA K ta G M [.d (.int n)] M1) (hn : -(2 ^ 62) ≤ n ∧ n < 2 ^ 62) : EvI K (iRng1 ta) G M ((List.range n.toNat).map fun (i : Nat) => .int (0 + i)) M1 := fun F B as σ H ow sl R q =>
  h F B as σ H ow sl _ fun vs B' as' H' g p o' r => by
    obtain ⟨v, r1, e1, h1, e2⟩ := r
    have e2 : r1 = [] := e2
    subst e2; subst e1
    have h1 : v = V.int n := h1
    subst h1
    exact ⟨n, rfl, hn.1, hn.2, q _ B' as' H' g p o' yl_rng⟩
theorem ei_rng2 {ta : TA} {m n : Int} (h : EvA K ta G M [.d (.int m), .d (.int n)] M1) (hn : (-(2 ^ 62) ≤ m ∧ m < 2 ^ 62) ∧ -(2 ^ 62) ≤ n ∧ n < 2 ^ 62) : EvI K (iRng2 ta) G M ((List.range (n - m).toNat).map fun (i : Nat) => .int (m + i)) M1 := fun F B as σ H ow sl R q =>
  h F B as σ H ow sl _ fun vs B' as' H' g p o' r => by
    obtain ⟨v, r1, e1, h1, w, r2, e2, h2, e3⟩ := r
    have e3 : r2 = [] := e3
    subst e3; subst e2; subst e1
    have h1 : v = V.int m := h1
    have h2 : w = V.int n := h2
    subst h1; subst h2
    exact ⟨m, n, rfl, ⟨hn.1.1, hn.1.2, hn.2.1, hn.2.2⟩, q _ B' as' H' g p o' yl_rng⟩
theorem ei_enum {ta : TA} {xs : List Dt} (h : EvA K ta G M [.d (.lst xs)] M1) : EvI K (iEnum K ta) G M (enumD 0 xs) M1 := fun F B as σ H ow sl R q =>
  h F B as σ H ow sl _ fun vs B' as' H' g p o' r => by
    obtain ⟨v, r1, e1, h1, e2⟩ := r
    have e2 : r1 = [] := e2
    subst e2; subst e1
    obtain ⟨a, us, e, q1, q2⟩ := h1
    subst e
    exact ⟨a, us, rfl, o'.bb.seq q1, q _ B' as' H' g p o' (yl_enum q1 q2)⟩
/-! ### for -/
def loopF {α β : Type} (step : α → β → α ⊕ Out) : List β → α → α ⊕ Out
  | [], a => .inl a
  | x :: xs, a => match step a x with
    | .inl a' => loopF step xs a'
    | .inr o => .inr o
theorem loopF_take {α β : Type} (step : α → β → α ⊕ Out) : ∀ (xs : List β) (i : Nat) (a0 a : α) (x : β), xs[i]? = some x → loopF step (xs.take i) a0 = .inl a →
    loopF step (xs.take (i + 1)) a0 = step a x ∧ (∀ o, step a x = .inr o → loopF step xs a0 = .inr o)
  | [], i, a0, a, x, h, _ => by simp at h
  | y :: ys, 0, a0, a, x, h, h2 => by
    have e1 : y = x := by simpa using h
    have e2 : a0 = a := by simpa [loopF] using h2
    subst e1; subst e2
    refine ⟨?_, fun o ho => ?_⟩
    · simp only [List.take_succ_cons, List.take_zero, loopF]
      cases step a0 y <;> rfl
    · simp only [loopF, ho]
  | y :: ys, i + 1, a0, a, x, h, h2 => by
    simp only [List.take_succ_cons, loopF] at h2 ⊢
    cases e : step a0 y with
    | inr o => rw [e] at h2; cases h2
    | inl a1 =>
      rw [e] at h2
      exact loopF_take step ys i a1 a x (by simpa using h) h2
def outF {α : Type} (enc : α → List (Option Sl)) (encM : α → List MO) : α ⊕ Out → Out
  | .inl a => .nx (enc a) (encM a)
  | .inr o => o
/-- a turn's end: on, or out -/
def Turns (K : PySem.W.Frag) {α : Type} (enc : α → List (Option Sl)) (encM : α → List MO) (tb : TS) (G : List (Option Sl)) (M : List MO) : α ⊕ Out → Prop
  | .inl a => EvS K tb G M (.nx (enc a) (encM a)) ∨ EvS K tb G M (.ct (enc a) (encM a))
  | .inr (.nx G' M') => EvS K tb G M (.bk G' M')
  | .inr (.rt r M') => EvS K tb G M (.rt r M')
  | .inr (.bk _ _) => False
  | .inr (.ct _ _) => False
theorem es_for {α β : Type} {wi : TI} {g : TG} {tb : TS} (xs : List β) (en : β → Dt) (enc : α → List (Option Sl)) (encM : α → List MO) (step : α → β → α ⊕ Out) (a0 : α)
    (hI : EvI K wi G M (xs.map en) (encM a0)) (h0 : Lg G (enc a0)) (turn : ∀ a x, x ∈ xs → ∃ G1, EvG K g (enc a) (.d (en x)) G1 ∧ Turns K enc encM tb G1 (encM a) (step a x)) :
    EvS K (tFor wi g tb) G M (outF enc encM (loopF step xs a0)) := fun F B as σ H ow sl D gd => by
  refine hI F B as σ H ow sl _ fun J B1 as1 H1 g1 p1 o1 yl => ?_
  refine ⟨fun i m σ' H' => ∃ B' as' a, m = xs.length - i ∧ i ≤ xs.length ∧ loopF step (xs.take i) a0 = .inl a ∧ Gr F B1 B' ∧ Px as1 as' ∧ Ow K F B' as' (encM a) H' ∧ Slt K B' as' (enc a) σ', ⟨xs.length, B1, as1, a0, by simp, Nat.zero_le _, by simp [loopF], Gr.refl F B1, Px.refl as1, o1, (sl.mono g1.1 p1).weak h0⟩, fun i m σ' H' w => ?_⟩
  obtain ⟨B', as', a, rfl, hi, hl, g', p', o', s'⟩ := w
  obtain ⟨y1, y2⟩ := yl F B' as' (encM a) H' i g'.1 o'
  by_cases hlt : i < xs.length
  · have hx : xs[i]? = some xs[i] := List.getElem?_eq_getElem hlt
    obtain ⟨go, yld⟩ := y1 (en xs[i]) (by rw [List.getElem?_map, hx] <;> rfl)
    obtain ⟨l1, l2⟩ := loopF_take step xs i a0 a _ hx hl
    refine .inr ⟨go, fun σ2 H2 => ∃ B' as' a, i + 1 ≤ xs.length ∧ loopF step (xs.take (i + 1)) a0 = .inl a ∧ Gr F B1 B' ∧ Px as1 as' ∧ Ow K F B' as' (encM a) H2 ∧ Slt K B' as' (enc a) σ2, fun σ2 H2 n2 => ?_, fun v H2 yv => ?_⟩
    · obtain ⟨B2, as2, a2, q1, q2, q3, q4, q5, q6⟩ := n2
      exact ⟨xs.length - (i + 1), by omega, B2, as2, a2, rfl, q1, q2, q3, q4, q5, q6⟩
    · obtain ⟨B2, g2, o2, r2⟩ := yld v H2 yv
      obtain ⟨G1, hg, ht⟩ := turn a xs[i] (List.getElem_mem hlt)
      refine hg F B2 as' (encM a) σ' H2 v o2 (s'.mono g2.1 (Px.refl as')) r2 _ fun B3 as3 σ3 H3 g3 p3 o3 s3 => ?_
      have gg : Gr F B1 B3 := g'.trans (g2.trans g3)
      have pp : Px as1 as3 := p'.trans p3
      cases e : step a xs[i] with
      | inl a' =>
        rw [e] at ht l1
        rcases ht with ht | ht
        · exact ht F B3 as3 σ3 H3 o3 s3 _ fun B4 as4 σ4 H4 g4 p4 o4 s4 => ⟨B4, as4, a', hlt, l1, gg.trans g4, pp.trans p4, o4, s4⟩
        · exact ht F B3 as3 σ3 H3 o3 s3 _ fun B4 as4 σ4 H4 g4 p4 o4 s4 => ⟨B4, as4, a', hlt, l1, gg.trans g4, pp.trans p4, o4, s4⟩
      | inr o =>
        rw [e] at ht
        rw [l2 o e] at gd
        cases o with
        | nx G' M' => exact ht F B3 as3 σ3 H3 o3 s3 _ fun B4 as4 σ4 H4 g4 p4 o4 s4 => gd B4 as4 σ4 H4 (g1.trans (gg.trans g4)) (p1.trans (pp.trans p4)) o4 s4
        | rt r M' => exact ht F B3 as3 σ3 H3 o3 s3 _ fun v B4 as4 H4 g4 p4 o4 s4 => gd v B4 as4 H4 (g1.trans (gg.trans g4)) (p1.trans (pp.trans p4)) o4 s4
        | bk _ _ => exact ht.elim
        | ct _ _ => exact ht.elim
  · have e : i = xs.length := by omega
    subst e
    rw [List.take_length] at hl
    rw [hl] at gd
    exact .inl ⟨y2 (by rw [List.length_map]; exact Nat.le_refl _), gd B' as' σ' H' (g1.trans g') (p1.trans p') o' s'⟩
/-! ### while -/
theorem es_while {α : Type} {tb : TS} (enc : α → List (Option Sl)) (encM : α → List MO) (P : α → Prop) (c : α → Bool) (f : α → α ⊕ Out) (μ : α → Nat) (w : α → α ⊕ Out) (a0 : α) (hp : P a0)
    (hw : ∀ a, P a → w a = if c a = true then (match f a with | .inl a' => w a' | .inr o => .inr o) else .inl a)
    (h0 : Lg G (enc a0)) (hM : M = encM a0) (test : ∀ a, P a → EvT K tt (enc a) (encM a) (c a) (encM a))
    (turn : ∀ a, P a → c a = true → Turns K enc encM tb (enc a) (encM a) (f a) ∧ ∀ a', f a = .inl a' → P a' ∧ μ a' < μ a) :
    EvS K (tWhile tt tb) G M (outF enc encM (w a0)) := fun F B as σ H ow sl D gd => by
  subst hM
  refine ⟨fun m σ' H' => ∃ B' as' a, m = μ a ∧ P a ∧ w a = w a0 ∧ Gr F B B' ∧ Px as as' ∧ Ow K F B' as' (encM a) H' ∧ Slt K B' as' (enc a) σ', ⟨μ a0, B, as, a0, rfl, hp, rfl, Gr.refl F B, Px.refl as, ow, sl.weak h0⟩, fun m σ' H' q => ?_⟩
  obtain ⟨B1, as1, a, rfl, pa, wa, g1, p1, o1, s1⟩ := q
  refine test a pa F B1 as1 σ' H' o1 s1 _ fun B2 as2 H2 g2 p2 o2 => ?_
  have hwa := hw a pa
  cases ec : c a with
  | false =>
    rw [ec] at hwa
    rw [if_neg Bool.false_ne_true] at hwa ⊢
    rw [← wa, hwa] at gd
    exact gd B2 as2 σ' H2 (g1.trans g2) (p1.trans p2) o2 (s1.mono g2.1 p2)
  | true =>
    rw [ec] at hwa
    rw [if_pos rfl] at hwa ⊢
    obtain ⟨ht, hd⟩ := turn a pa ec
    refine ⟨fun σ3 H3 => ∃ B' as' a', f a = .inl a' ∧ Gr F B B' ∧ Px as as' ∧ Ow K F B' as' (encM a') H3 ∧ Slt K B' as' (enc a') σ3, fun σ3 H3 n3 => ?_, ?_⟩
    · obtain ⟨B3, as3, a', e, q1, q2, q3, q4⟩ := n3
      obtain ⟨pa', lt⟩ := hd a' e
      rw [e] at hwa
      exact ⟨μ a', lt, B3, as3, a', rfl, pa', hwa.symm.trans wa, q1, q2, q3, q4⟩
    · have gg := g1.trans g2
      have pp := p1.trans p2
      cases e : f a with
      | inl a' =>
        rw [e] at ht
        rcases ht with ht | ht
        · exact ht F B2 as2 σ' H2 o2 (s1.mono g2.1 p2) _ fun B4 as4 σ4 H4 g4 p4 o4 s4 => ⟨B4, as4, a', rfl, gg.trans g4, pp.trans p4, o4, s4⟩
        · exact ht F B2 as2 σ' H2 o2 (s1.mono g2.1 p2) _ fun B4 as4 σ4 H4 g4 p4 o4 s4 => ⟨B4, as4, a', rfl, gg.trans g4, pp.trans p4, o4, s4⟩
      | inr o =>
        rw [e] at ht hwa
        rw [← wa, hwa] at gd
        cases o with
        | nx G' M' => exact ht F B2 as2 σ' H2 o2 (s1.mono g2.1 p2) _ fun B4 as4 σ4 H4 g4 p4 o4 s4 => gd B4 as4 σ4 H4 (gg.trans g4) (pp.trans p4) o4 s4
        | rt r M' => exact ht F B2 as2 σ' H2 o2 (s1.mono g2.1 p2) _ fun v B4 as4 H4 g4 p4 o4 s4 => gd v B4 as4 H4 (gg.trans g4) (pp.trans p4) o4 s4
        | bk _ _ => exact ht.elim
        | ct _ _ => exact ht.elim
end
end DJ
namespace DJ
open PySem PySem.Spec PyProof.Rows L2
/-! ### comprehensions -/
def wipeG (G : List (Option Sl)) : List Nat → List (Option Sl)
  | [] => G
  | v :: vs => (wipeG G vs).set v none
theorem slt_none {K : PySem.W.Frag} {B : Hp} {as : List Addr} {G : List (Option Sl)} {σ : L2.St} (h : Slt K B as G σ) (i : Nat) (o : Option V) : Slt K B as (G.set i none) (σ.set i o) := by
  refine ⟨by rw [List.length_set, List.length_set]; exact h.1, fun j s' q => ?_⟩
  by_cases e : i = j
  · subst e
    rw [List.getElem?_set] at q
    simp at q
  · rw [List.getElem?_set_ne e] at q
    obtain ⟨v', e1, h1⟩ := h.2 j s' q
    exact ⟨v', by rw [List.getElem?_set_ne e]; exact e1, h1⟩
theorem slt_wipe {K : PySem.W.Frag} {B : Hp} {as : List Addr} {G : List (Option Sl)} {σ : L2.St} (h : Slt K B as G σ) : ∀ vs : List Nat, Slt K B as (wipeG G vs) (wipe σ vs)
  | [] => h
  | v :: vs => slt_none (slt_wipe h vs) v none
/-- the targets' slots are wiped again -/
def GW (g : TG) (vs : List Nat) : Prop := ∀ v σ H Q, g v σ H (fun σ2 H2 => (wipe σ2 vs = wipe σ vs → Q σ2 H2)) → g v σ H Q
theorem wipe_len (σ : L2.St) (vs : List Nat) : (wipe σ vs).length = σ.length := wipe_length σ vs
theorem wipe_get (σ : L2.St) : ∀ (vs : List Nat) (i : Nat), (wipe σ vs)[i]? = if i ∈ vs then (if i < σ.length then some none else none) else σ[i]?
  | [], i => by simp [wipe]
  | v :: vs, i => by
    unfold wipe
    rw [List.getElem?_set, wipe_len, wipe_get σ vs i]
    by_cases e : v = i
    · subst e; simp
    · have : ¬ i = v := fun z => e z.symm
      simp [e, this]
theorem wipe_set {σ : L2.St} {vs : List Nat} {j : Nat} {x : Option V} (hj : j ∈ vs) : wipe (σ.set j x) vs = wipe σ vs := by
  refine List.ext_getElem? fun i => ?_
  rw [wipe_get, wipe_get, List.length_set]
  by_cases e : i ∈ vs
  · simp [e]
  · have : j ≠ i := fun z => e (z ▸ hj)
    simp only [e, if_false]
    rw [List.getElem?_set_ne this]
theorem wipe_wipe (σ : L2.St) (vs : List Nat) : wipe (wipe σ vs) vs = wipe σ vs := by
  refine List.ext_getElem? fun i => ?_
  rw [wipe_get, wipe_get, wipe_len]
  by_cases e : i ∈ vs
  · simp [e]
  · simp only [e, if_false, wipe_get]
/-- what is made, one after another, with what is owned between -/
def mapS {μ β : Type} (p : μ → β → Option (Dt × μ)) (q : μ → β → μ) : List β → μ → List Dt × μ
  | [], m => ([], m)
  | x :: xs, m => match p m x with
    | some (y, m') => (y :: (mapS p q xs m').1, (mapS p q xs m').2)
    | none => mapS p q xs (q m x)
theorem mapS_take {μ β : Type} (p : μ → β → Option (Dt × μ)) (q : μ → β → μ) : ∀ (xs : List β) (i : Nat) (m : μ) (x : β), xs[i]? = some x →
    mapS p q (xs.take (i + 1)) m = (match p (mapS p q (xs.take i) m).2 x with
      | some (y, m') => ((mapS p q (xs.take i) m).1 ++ [y], m')
      | none => ((mapS p q (xs.take i) m).1, q (mapS p q (xs.take i) m).2 x))
  | [], i, m, x, h => by simp at h
  | y :: ys, 0, m, x, h => by
    have e1 : y = x := by simpa using h
    subst e1
    simp only [List.take_succ_cons, List.take_zero, mapS]
    cases p m y <;> rfl
  | y :: ys, i + 1, m, x, h => by
    have h : ys[i]? = some x := by simpa using h
    simp only [List.take_succ_cons, mapS]
    cases e : p m y with
    | none => exact mapS_take p q ys i _ x h
    | some r =>
      simp only [mapS_take p q ys i r.2 x h]
      cases p (mapS p q (ys.take i) r.2).2 x <;> rfl
theorem mapS_len {μ β : Type} (p : μ → β → Option (Dt × μ)) (q : μ → β → μ) : ∀ (xs : List β) (m : μ), (mapS p q xs m).1.length ≤ xs.length
  | [], m => Nat.le_refl _
  | x :: xs, m => by
    simp only [mapS]
    cases p m x with
    | none => exact Nat.le_succ_of_le (mapS_len p q xs _)
    | some r => exact Nat.succ_le_succ (mapS_len p q xs _)
section
variable {K : PySem.W.Frag} {F B B1 H : Hp} {as as1 : List Addr} {G G1 G2 G' : List (Option Sl)} {M M1 M2 M' : List MO} {te ta tb to ti : TE} {s : Sl} {b : Bool} {tt : TT} {x y z : Dt}
/-- a thing at the side: neither owned nor data -/
theorem Ow.aside {D : Addr} {o o' : HO} (h : Ow K (upd F D o) B as M H) (fD : F D = none) (bD : B D = none) : Ow K F B as M (upd H D o') := by
  refine ⟨fun a u e => ?_, fun a u e => ?_, h.len, h.nd, fun a ha => ?_, fun a ha => ?_, fun k a m e1 e2 hm => ?_⟩
  · have ne := ne_of_none e fD
    rw [upd_ne ne]
    exact h.fb a u (by rw [upd_ne ne]; exact e)
  · rw [upd_ne (ne_of_none e bD)]
    exact h.bb a u e
  · by_cases e : a = D
    · rw [e, upd_same]; exact fun z => nomatch z
    · rw [upd_ne e]; exact h.al a ha
  · have q1 := h.fa a ha
    rw [upd_ne (fun e => by rw [e, upd_same] at q1; cases q1)] at q1
    exact q1
  · obtain ⟨q1, q2, q3⟩ := h.own k a m e1 e2 hm
    have ne : a ≠ D := fun e => by rw [e, upd_same] at q1; cases q1
    rw [upd_ne ne] at q1
    exact ⟨q1, q2, MoR.mono (Same.refl B) (upd_ne ne) q3⟩
theorem Ow.out {D : Addr} {o : HO} (h : Ow K (upd F D o) B as M H) : D ∉ as := fun m => by
  have q1 := h.fa D m
  rw [upd_same] at q1
  cases q1
theorem Ow.side {D : Addr} {o : HO} (h : Ow K F B as M H) (hD : H D = some o) (fD : F D = none) (ns : D ∉ as) : Ow K (upd F D o) B as M H := by
  refine ⟨fun a u e => ?_, h.bb, h.len, h.nd, h.al, fun a ha => by rw [upd_ne (fun e : a = D => ns (e ▸ ha))]; exact h.fa a ha, fun k a m e1 e2 hm => ?_⟩
  · by_cases z : a = D
    · rw [z, upd_same] at e; rw [z, ← e]; exact hD
    · rw [upd_ne z] at e; exact h.fb a u e
  · obtain ⟨q1, q2, q3⟩ := h.own k a m e1 e2 hm
    have ne : a ≠ D := fun e : a = D => ns (e ▸ List.mem_of_getElem? e1)
    exact ⟨by rw [upd_ne ne]; exact q1, q2, q3⟩
theorem Gr.of_side {D : Addr} {us : List V} (h : Gr (upd F D (.lst us)) B B1) : Gr F B B1 := ⟨h.1, fun a f n => h.2 a (by
  by_cases e : a = D
  · rw [e, upd_same]; exact kp_lst
  · rw [upd_ne e]; exact f) n⟩
/-- the core: D holds what was made -/
theorem ev_lcAny {μ β : Type} {wi : TI} {g : TG} {tt : TT} {vs : List Nat} (xs : List β) (en : β → Dt) (encM : μ → List MO) (p : μ → β → Option (Dt × μ)) (q : μ → β → μ) (m0 : μ)
    (hI : EvI K wi G M (xs.map en) (encM m0)) (hx : xs.length ≤ 100000) (hw : ∀ v σ H Q, g v (wipe σ vs) H (fun σ2 H2 => wipe σ2 vs = wipe σ vs → Q σ2 H2) → g v (wipe σ vs) H Q)
    (turn : ∀ m x, x ∈ xs → ∃ G1, EvG K g (wipeG G vs) (.d (en x)) G1 ∧ (match p m x with
      | some (y, m') => ∃ M1, EvT K tt G1 (encM m) true M1 ∧ EvE K te G1 M1 (.d y) (encM m')
      | none => EvT K tt G1 (encM m) false (encM (q m x))))
    : ∀ F B as σ H, Ow K F B as M H → Slt K B as G σ → ∀ Q : VK,
      (∀ D us B' as' H', Gr F B B' → Px as as' → F D = none → B' D = none → Ow K (upd F D (.lst us)) B' as' (encM (mapS p q xs m0).2) H' → H' D = some (.lst us) → RpL K B' (mapS p q xs m0).1 us → Q (.ref D) H') → tLc wi g tt te vs σ H Q := fun F B as σ H ow sl Q k => by
  refine hI F B as σ H ow sl _ fun J B1 as1 H1 g1 p1 o1 yl => fun D hD => ?_
  obtain ⟨fD, bD, aD⟩ := o1.fresh hD
  have ow0 : Ow K (upd F D (.lst [])) B1 as1 (encM m0) (upd H1 D (.lst [])) := by
    refine ⟨fun a u e => ?_, fun a u e => ?_, o1.len, o1.nd, fun a ha => ?_, fun a ha => by rw [upd_ne (fun e : a = D => aD (e ▸ ha))]; exact o1.fa a ha, fun k a m e1 e2 hm => ?_⟩
    · by_cases z : a = D
      · rw [z, upd_same] at e ⊢; exact e
      · rw [upd_ne z] at e ⊢; exact o1.fb a u e
    · rw [upd_ne (ne_of_none e bD)]; exact o1.bb a u e
    · rw [upd_ne (fun e : a = D => aD (e ▸ ha))]; exact o1.al a ha
    · have ne : a ≠ D := fun e : a = D => aD (e ▸ List.mem_of_getElem? e1)
      obtain ⟨q1, q2, q3⟩ := o1.own k a m e1 e2 hm
      exact ⟨by rw [upd_ne ne]; exact q1, q2, MoR.mono (Same.refl B1) (upd_ne ne) q3⟩
  refine ⟨fun i n H' => ∃ B' as' us, n = xs.length - i ∧ i ≤ xs.length ∧ Gr F B1 B' ∧ B' D = none ∧ Px as1 as' ∧ Ow K (upd F D (.lst us)) B' as' (encM (mapS p q (xs.take i) m0).2) H' ∧ H' D = some (.lst us) ∧ RpL K B' (mapS p q (xs.take i) m0).1 us,
    ⟨xs.length, B1, as1, [], by simp, Nat.zero_le _, Gr.refl F B1, bD, Px.refl as1, ow0, upd_same, rfl⟩, fun i n H' w => ?_⟩
  obtain ⟨B', as', us, rfl, hi, g', bD', p', o', hD', r'⟩ := w
  obtain ⟨y1, y2⟩ := yl _ B' as' _ H' i g'.1 o'
  by_cases hlt : i < xs.length
  · have hxi : xs[i]? = some xs[i] := List.getElem?_eq_getElem hlt
    obtain ⟨go, yld⟩ := y1 (en xs[i]) (by rw [List.getElem?_map, hxi] <;> rfl)
    have mt := mapS_take p q xs i m0 _ hxi
    refine .inr ⟨go, fun H2 => ∃ B' as' us, i + 1 ≤ xs.length ∧ Gr F B1 B' ∧ B' D = none ∧ Px as1 as' ∧ Ow K (upd F D (.lst us)) B' as' (encM (mapS p q (xs.take (i + 1)) m0).2) H2 ∧ H2 D = some (.lst us) ∧ RpL K B' (mapS p q (xs.take (i + 1)) m0).1 us, fun H2 n2 => ?_, fun v H2 yv => ?_⟩
    · obtain ⟨B2, as2, us2, q1, q2, q3, q4, q5, q6, q7⟩ := n2
      exact ⟨xs.length - (i + 1), by omega, B2, as2, us2, rfl, q1, q2, q3, q4, q5, q6, q7⟩
    · obtain ⟨B2, g2, o2, r2⟩ := yld v H2 yv
      generalize hm : (mapS p q (xs.take i) m0).2 = m at *
      obtain ⟨G1, hg, ht⟩ := turn m xs[i] (List.getElem_mem hlt)
      have bD2 : B2 D = none := g2.2 D (by rw [upd_same]; exact kp_lst) bD'
      refine hw v σ H2 _ ?_
      refine hg _ B2 as' (encM m) (wipe σ vs) H2 v o2 ((slt_wipe (sl.mono ((g1.1.trans g'.1).trans g2.1) (p1.trans p')) vs)) r2 _ fun B3 as3 σ3 H3 g3 p3 o3 s3 => fun hwp => ⟨hwp, ?_⟩
      have bD3 : B3 D = none := g3.2 D (by rw [upd_same]; exact kp_lst) bD2
      cases e : p m xs[i] with
      | none =>
        rw [e] at ht mt
        refine ht _ B3 as3 σ3 H3 o3 s3 _ fun B4 as4 H4 g4 p4 o4 => ?_
        rw [if_neg Bool.false_ne_true]
        have sm := (g2.1.trans g3.1).trans g4.1
        refine ⟨B4, as4, us, hlt, g'.trans ((g2.trans (g3.trans g4)).of_side), g4.2 D (by rw [upd_same]; exact kp_lst) bD3, p'.trans (p3.trans p4), ?_, o4.fb D _ upd_same, ?_⟩
        · rw [mt]; exact o4
        · rw [mt]; exact RpL.mono sm _ _ r'
      | some r =>
        obtain ⟨yd, m'⟩ := r
        rw [e] at ht mt
        obtain ⟨M1, h1, h2⟩ := ht
        refine h1 _ B3 as3 σ3 H3 o3 s3 _ fun B4 as4 H4 g4 p4 o4 => ?_
        rw [if_pos rfl]
        refine h2 _ B4 as4 σ3 H4 o4 (s3.mono g4.1 p4) _ fun w B5 as5 H5 g5 p5 o5 r5 => ?_
        have bD4 : B4 D = none := g4.2 D (by rw [upd_same]; exact kp_lst) bD3
        have bD5 : B5 D = none := g5.2 D (by rw [upd_same]; exact kp_lst) bD4
        have hl : us.length < sizeLine := by
          rw [r'.len]
          have e1 := mapS_len p q (xs.take i) m0
          rw [List.length_take] at e1
          exact Nat.lt_of_le_of_lt (show _ ≤ 100000 by omega) (by decide)
        have sm := ((g2.1.trans g3.1).trans g4.1).trans g5.1
        have on : Ow K F B5 as5 (encM m') (upd H5 D (.lst (us ++ [w]))) := o5.aside fD bD5
        have on2 : Ow K (upd F D (.lst (us ++ [w]))) B5 as5 (encM m') (upd H5 D (.lst (us ++ [w]))) := on.side upd_same fD o5.out
        refine ⟨us, o5.fb D _ upd_same, hl, B5, as5, us ++ [w], hlt, g'.trans ((g2.trans (g3.trans (g4.trans g5))).of_side), bD5, p'.trans (p3.trans (p4.trans p5)), ?_, upd_same, ?_⟩
        · rw [mt]; exact on2
        · rw [mt]; exact RpL.append (RpL.mono sm _ _ r') (RpL.one r5)
  · have e : i = xs.length := by omega
    subst e
    rw [List.take_length] at o' r'
    exact .inl ⟨y2 (by rw [List.length_map]; exact Nat.le_refl _), k D us B' as' H' (g1.trans g') (p1.trans p') fD bD' o' hD' r'⟩
theorem hw_name {j : Nat} {vs : List Nat} (hj : j ∈ vs) : ∀ v σ H Q, gName j v (wipe σ vs) H (fun σ2 H2 => wipe σ2 vs = wipe σ vs → Q σ2 H2) → gName j v (wipe σ vs) H Q := fun v σ H Q h =>
  h (by rw [wipe_set hj, wipe_wipe])
theorem hw_tup2 {i j : Nat} {vs : List Nat} (hi : i ∈ vs) (hj : j ∈ vs) {n : Nat} : ∀ v σ H Q, gTup K n (gCons (gName i) (gCons (gName j) gNil)) v (wipe σ vs) H (fun σ2 H2 => wipe σ2 vs = wipe σ vs → Q σ2 H2) → gTup K n (gCons (gName i) (gCons (gName j) gNil)) v (wipe σ vs) H Q := fun v σ H Q h => by
  obtain ⟨a, xs, e, h1, h2, u, r, e1, w, r2, e2, e3, h3⟩ := h
  exact ⟨a, xs, e, h1, h2, u, r, e1, w, r2, e2, e3, h3 (by rw [wipe_set hj, wipe_set hi, wipe_wipe])⟩
/-- the new list is data -/
theorem ev_lc {μ β : Type} {wi : TI} {g : TG} {tt : TT} {vs : List Nat} (xs : List β) (en : β → Dt) (encM : μ → List MO) (p : μ → β → Option (Dt × μ)) (q : μ → β → μ) (m0 : μ)
    (hI : EvI K wi G M (xs.map en) (encM m0)) (hx : xs.length ≤ 100000) (hw : ∀ v σ H Q, g v (wipe σ vs) H (fun σ2 H2 => wipe σ2 vs = wipe σ vs → Q σ2 H2) → g v (wipe σ vs) H Q)
    (turn : ∀ m x, x ∈ xs → ∃ G1, EvG K g (wipeG G vs) (.d (en x)) G1 ∧ (match p m x with
      | some (y, m') => ∃ M1, EvT K tt G1 (encM m) true M1 ∧ EvE K te G1 M1 (.d y) (encM m')
      | none => EvT K tt G1 (encM m) false (encM (q m x)))) :
    EvE K (tLc wi g tt te vs) G M (.d (.lst (mapS p q xs m0).1)) (encM (mapS p q xs m0).2) := fun F B as σ H ow sl Q k =>
  ev_lcAny xs en encM p q m0 hI hx hw turn F B as σ H ow sl Q fun D us B' as' H' g' p' fD bD o' hD r' => by
    have sm : Same B' (upd B' D (.lst us)) := fun c u e => by rw [upd_ne (ne_of_none e bD)]; exact e
    refine k _ (upd B' D (.lst us)) as' H' ⟨g'.1.trans sm, fun c z n => ?_⟩ p' ⟨?_, ?_, o'.len, o'.nd, o'.al, ?_, ?_⟩ ⟨D, us, rfl, .inl (.inl upd_same), RpL.mono sm _ _ r'⟩
    · rw [upd_ne (fun e : c = D => z.1 (by rw [e]; exact fD))]; exact g'.2 c z n
    · exact fun c u e => o'.fb c u (by rw [upd_ne (ne_of_none e fD)]; exact e)
    · intro c u e
      by_cases z : c = D
      · rw [z, upd_same] at e; rw [z, ← e]; exact hD
      · rw [upd_ne z] at e; exact o'.bb c u e
    · intro c hc
      have q1 := o'.fa c hc
      rw [upd_ne (fun e : c = D => o'.out (e ▸ hc))] at q1
      exact q1
    · intro k a m e1 e2 hm
      obtain ⟨q1, q2, q3⟩ := o'.own k a m e1 e2 hm
      have ne : a ≠ D := fun e => by rw [e, upd_same] at q1; cases q1
      rw [upd_ne ne] at q1
      exact ⟨q1, by rw [upd_ne ne]; exact q2, MoR.mono sm rfl q3⟩
/-- the new list will change -/
theorem ev_lcO {μ β : Type} {wi : TI} {g : TG} {tt : TT} {vs : List Nat} (xs : List β) (en : β → Dt) (encM : μ → List MO) (p : μ → β → Option (Dt × μ)) (q : μ → β → μ) (m0 : μ)
    (hI : EvI K wi G M (xs.map en) (encM m0)) (hx : xs.length ≤ 100000) (hw : ∀ v σ H Q, g v (wipe σ vs) H (fun σ2 H2 => wipe σ2 vs = wipe σ vs → Q σ2 H2) → g v (wipe σ vs) H Q)
    (turn : ∀ m x, x ∈ xs → ∃ G1, EvG K g (wipeG G vs) (.d (en x)) G1 ∧ (match p m x with
      | some (y, m') => ∃ M1, EvT K tt G1 (encM m) true M1 ∧ EvE K te G1 M1 (.d y) (encM m')
      | none => EvT K tt G1 (encM m) false (encM (q m x)))) :
    EvE K (tLc wi g tt te vs) G M (.o (encM (mapS p q xs m0).2).length) (encM (mapS p q xs m0).2 ++ [.lst (mapS p q xs m0).1]) := fun F B as σ H ow sl Q k =>
  ev_lcAny xs en encM p q m0 hI hx hw turn F B as σ H ow sl Q fun D us B' as' H' g' p' fD bD o' hD r' => by
    have nD := o'.out
    have hs : Ow K F B' as' (encM (mapS p q xs m0).2) H' := by
      have := o'.aside (o' := .lst us) fD bD
      rw [show upd H' D (.lst us) = H' from funext fun b => by
        by_cases e : b = D
        · rw [e, upd_same, hD]
        · rw [upd_ne e]] at this
      exact this
    refine k _ B' (as' ++ [D]) H' g' (p'.trans ⟨[D], rfl⟩) ⟨hs.fb, hs.bb, by rw [List.length_append, List.length_append, hs.len]; rfl, List.nodup_append.mpr ⟨hs.nd, by simp, fun a ha b hb => ?_⟩, fun a ha => ?_, fun a ha => ?_, fun k a m' e1 e2 hm' => ?_⟩ ⟨D, ?_, rfl⟩
    · obtain rfl : b = D := by simpa using hb
      exact fun e : a = b => nD (e ▸ ha)
    · rcases List.mem_append.mp ha with ha | ha
      · exact hs.al a ha
      · obtain rfl : a = D := by simpa using ha
        rw [hD]; exact fun z => nomatch z
    · rcases List.mem_append.mp ha with ha | ha
      · exact hs.fa a ha
      · obtain rfl : a = D := by simpa using ha
        exact fD
    · by_cases hk : k < as'.length
      · rw [List.getElem?_append_left hk] at e1
        rw [List.getElem?_append_left (by rw [← hs.len]; exact hk)] at e2
        exact hs.own k a m' e1 e2 hm'
      · have hl : k = as'.length := by
          have := (List.getElem?_eq_some_iff.mp e1).1
          rw [List.length_append, List.length_singleton] at this
          omega
        subst hl
        rw [List.getElem?_append_right (Nat.le_refl _), Nat.sub_self] at e1
        rw [hs.len, List.getElem?_append_right (Nat.le_refl _), Nat.sub_self] at e2
        obtain rfl : D = a := Option.some.inj e1
        obtain rfl : MO.lst (mapS p q xs m0).1 = m' := Option.some.inj e2
        exact ⟨fD, bD, us, hD, r'⟩
    · rw [← hs.len, List.getElem?_append_right (Nat.le_refl _), Nat.sub_self]
      rfl
end
/-! ### calls -/
def SpR (K : PySem.W.Frag) (n : Nat) (R : List Sl → List MO → Sl → List MO → Prop) : Sp := fun vs H Q _ =>
  ∃ F B as ss M r M', R ss M r M' ∧ Ow K F B as M H ∧ SlL K B as ss vs ∧ vs.length = n ∧ ∀ v B' as' H', Gr F B B' → Px as as' → Ow K F B' as' M' H' → SlR K B' as' r v → Q v H'
def start (n : Nat) (ss : List Sl) : List (Option Sl) := ss.map some ++ List.replicate (n - ss.length) none
section
variable {K : PySem.W.Frag} {F B B1 H : Hp} {as as1 : List Addr} {G G1 G2 G' : List (Option Sl)} {M M1 M2 M' X : List MO} {te : TE} {ta tk : TA} {s r : Sl} {t : TS} {E : XK}
theorem slt_args {n : Nat} : ∀ {ss : List Sl} {vs : List V}, SlL K B as ss vs → Slt K B as (ss.map some ++ List.replicate n none) (vs.map some ++ List.replicate n none)
  | [], vs, h => by
    rw [show vs = [] from h]
    refine ⟨by simp, fun i s q => ?_⟩
    simp only [List.map_nil, List.nil_append, List.getElem?_replicate] at q
    split at q <;> simp at q
  | s :: ss, vs, ⟨v, u, e, h1, h2⟩ => by
    subst e
    have ih := slt_args (n := n) h2
    refine ⟨by have := ih.1; simp at this ⊢; omega, fun i s' q => ?_⟩
    cases i with
    | zero => simp at q; subst q; exact ⟨v, by simp, h1⟩
    | succ i => exact ih.2 i s' (by simpa using q)
/-- a def's body keeps its promise -/
theorem run_body {N : List Str} {ss : List Sl} {vs : List V} {Q : VK} (h : EvS K t (start N.length ss) M (.rt r (M' ++ X))) (hm : M.length ≤ M'.length) (hr : ∀ k, r = .o k → k < M'.length) (ow : Ow K F B as M H) (sl : SlL K B as ss vs)
    (q : ∀ v B' as' H', Gr F B B' → Px as as' → Ow K F B' as' M' H' → SlR K B' as' r v → Q v H') : t { nx := fun _ H' => Q .non H', rt := Q } (L2.start N vs) H := by
  have sl' : Slt K B as (start N.length ss) (L2.start N vs) := by
    have e := sl.len
    unfold start L2.start
    rw [e]
    exact slt_args sl
  refine h F B as _ H ow sl' _ fun v B' as' H' g p o' r' => q v B' (as'.take M'.length) H' g ?_ o'.drop ?_
  · obtain ⟨tl, rfl⟩ := p
    refine ⟨tl.take (M'.length - as.length), ?_⟩
    rw [List.take_append, List.take_of_length_le (by rw [ow.len]; exact hm)]
  · cases r with
    | d x => exact r'
    | o k =>
      obtain ⟨a, ha, e⟩ := r'
      exact ⟨a, by rw [List.getElem?_take_of_lt (hr k rfl)]; exact ha, e⟩
/-- .. that comes to its end -/
theorem run_bodyN {N : List Str} {ss : List Sl} {vs : List V} {Q : VK} (h : EvS K t (start N.length ss) M (.nx G1 (M' ++ X))) (hm : M.length ≤ M'.length) (ow : Ow K F B as M H) (sl : SlL K B as ss vs)
    (q : ∀ v B' as' H', Gr F B B' → Px as as' → Ow K F B' as' M' H' → SlR K B' as' (.d .non) v → Q v H') : t { nx := fun _ H' => Q .non H', rt := Q } (L2.start N vs) H := by
  have sl' : Slt K B as (start N.length ss) (L2.start N vs) := by
    have e := sl.len
    unfold start L2.start
    rw [e]
    exact slt_args sl
  refine h F B as _ H ow sl' _ fun B' as' σ' H' g p o' r' => q .non B' (as'.take M'.length) H' g ?_ o'.drop rfl
  obtain ⟨tl, rfl⟩ := p
  refine ⟨tl.take (M'.length - as.length), ?_⟩
  rw [List.take_append, List.take_of_length_le (by rw [ow.len]; exact hm)]
/-- what a call of data asks: R of them, nothing owned -/
theorem call_core {n : Nat} {R : List Sl → List MO → Sl → List MO → Prop} {ds : List Dt} {z : Sl} {N : List MO} {vs : List V} {Q : VK} (hR : R (ds.map Sl.d) [] z N) (hn : ds.length = n) (o : Ow K F B as M H) (r : RpL K B ds vs)
    (q : ∀ v B' as' H', Gr H B B' → Ow K H B' as' N H' → SlR K B' as' z v → Q v H') : SpR K n R vs H Q E :=
  ⟨H, B, [], ds.map Sl.d, [], z, N, hR, ⟨Same.refl H, o.bb, rfl, List.nodup_nil, fun _ h => (nomatch h), fun _ h => (nomatch h), fun k a m e => by simp at e⟩, SlL.of_data r, by rw [r.len]; exact hn, fun v B' as' H' g _ o' r' => q v B' as' H' g o' r'⟩
theorem back0 {B' : Hp} {as' : List Addr} {N : List MO} {H' : Hp} (o : Ow K F B as M H) (g : Gr H B B') (o' : Ow K H B' as' N H') : Gr F B B' ∧ Ow K F B' as M H' := by
  refine ⟨⟨g.1, fun a f n => g.2 a (Kp.same f o.fb) n⟩, fun a u e => o'.fb a u (o.fb a u e), o'.bb, o.len, o.nd, fun a ha => ?_, o.fa, fun k a m e1 e2 hm => ?_⟩
  · cases e : H a with
    | none => exact absurd e (o.al a ha)
    | some u => rw [o'.fb a u e]; exact fun z => nomatch z
  · obtain ⟨q1, q2, q3⟩ := o.own k a m e1 e2 hm
    have ha := o.al a (List.mem_of_getElem? e1)
    cases e : H a with
    | none => exact absurd e ha
    | some u => exact ⟨q1, g.2 a (kp_mor hm q3) q2, MoR.mono g.1 ((o'.fb a u e).trans e.symm) q3⟩
theorem ev_call0 {n : Nat} {R : List Sl → List MO → Sl → List MO → Prop} {ds : List Dt} {z : Dt} {dvs : List V} {es : List Dt} (h : EvA K ta G M (ds.map Sl.d) M1) (hR : R ((ds ++ es).map Sl.d) [] (.d z) []) (hn : (ds ++ es).length = n) (hd : ∀ B, RpL K B es dvs) :
    EvE K (tCall (SpR K n R) dvs E ta) G M (.d z) M1 := fun F B as σ H ow sl Q q =>
  h F B as σ H ow sl _ fun vs B1 as1 H1 g1 p1 o1 r1 => call_core hR hn o1 (RpL.append (SlL.data r1) (hd B1)) fun v B' as' H' g o' r' => by
    obtain ⟨g2, o2⟩ := back0 o1 g o'
    exact q v B' as1 H' (g1.trans g2) p1 o2 r'
/-- .. that hands back a new list which will change -/
theorem ev_call0n {n : Nat} {R : List Sl → List MO → Sl → List MO → Prop} {ds : List Dt} {m : MO} {dvs : List V} {es : List Dt} (h : EvA K ta G M (ds.map Sl.d) M1) (hR : R ((ds ++ es).map Sl.d) [] (.o 0) [m]) (hg : m ≠ .gone) (hn : (ds ++ es).length = n) (hd : ∀ B, RpL K B es dvs) :
    EvE K (tCall (SpR K n R) dvs E ta) G M (.o M1.length) (M1 ++ [m]) := fun F B as σ H ow sl Q q =>
  h F B as σ H ow sl _ fun vs B1 as1 H1 g1 p1 o1 r1 => call_core hR hn o1 (RpL.append (SlL.data r1) (hd B1)) fun v B' as' H' g o' r' => by
    obtain ⟨g2, o2⟩ := back0 o1 g o'
    obtain ⟨a, ha, rfl⟩ := r'
    have q0 := o'.own 0 a m ha rfl hg
    have fa := q0.1
    have nin : a ∉ as1 := fun hm => o1.al a hm fa
    have hal := o'.al a (List.mem_of_getElem? ha)
    refine q _ B' (as1 ++ [a]) H' (g1.trans g2) (p1.trans ⟨[a], rfl⟩) ⟨o2.fb, o2.bb, by rw [List.length_append, List.length_append, o2.len]; rfl, List.nodup_append.mpr ⟨o2.nd, by simp, fun c hc b hb => ?_⟩, fun c hc => ?_, fun c hc => ?_, fun k c m' e1 e2 hm' => ?_⟩ ⟨a, ?_, rfl⟩
    · obtain rfl : b = a := by simpa using hb
      exact fun e : c = b => nin (e ▸ hc)
    · rcases List.mem_append.mp hc with hc | hc
      · exact o2.al c hc
      · obtain rfl : c = a := by simpa using hc
        exact hal
    · rcases List.mem_append.mp hc with hc | hc
      · exact o2.fa c hc
      · obtain rfl : c = a := by simpa using hc
        exact o1.fb.free fa
    · by_cases hk : k < as1.length
      · rw [List.getElem?_append_left hk] at e1
        rw [List.getElem?_append_left (by rw [← o2.len]; exact hk)] at e2
        exact o2.own k c m' e1 e2 hm'
      · have hl : k = as1.length := by
          have := (List.getElem?_eq_some_iff.mp e1).1
          rw [List.length_append, List.length_singleton] at this
          omega
        subst hl
        rw [List.getElem?_append_right (Nat.le_refl _), Nat.sub_self] at e1
        rw [o2.len, List.getElem?_append_right (Nat.le_refl _), Nat.sub_self] at e2
        obtain rfl : a = c := Option.some.inj e1
        obtain rfl : m = m' := Option.some.inj e2
        exact ⟨o1.fb.free fa, q0.2.1, q0.2.2⟩
    · rw [← o2.len, List.getElem?_append_right (Nat.le_refl _), Nat.sub_self]
      rfl
/-- one owned thing is handed on: the callee's number 0 -/
def to0 (k : Nat) : Sl → Sl
  | .d x => .d x
  | .o j => if j = k then .o 0 else .o j
theorem slL_to0 {a : Addr} {k : Nat} (ha : as[k]? = some a) : ∀ {ss : List Sl} {vs : List V}, (∀ s ∈ ss, ∀ j, s = .o j → j = k) → SlL K B as ss vs → SlL K B [a] (ss.map (to0 k)) vs
  | [], _, _, h => h
  | s :: ss, _, hs, ⟨v, u, e, h1, h2⟩ => by
    refine ⟨v, u, e, ?_, slL_to0 ha (fun s' hs' => hs s' (List.mem_cons_of_mem _ hs')) h2⟩
    cases s with
    | d x => exact h1
    | o j =>
      have e2 := hs _ List.mem_cons_self j rfl
      subst e2
      obtain ⟨c, hc, e3⟩ := h1
      rw [ha] at hc
      cases hc
      show SlR K B [a] (if j = j then .o 0 else .o j) v
      rw [if_pos rfl]
      exact ⟨a, rfl, e3⟩
theorem ev_call1 {n k : Nat} {R : List Sl → List MO → Sl → List MO → Prop} {ss : List Sl} {m m' : MO} {z : Dt} {dvs : List V} {es : List Dt} (h : EvA K ta G M ss M1) (hm : M1[k]? = some m) (hg : m ≠ .gone) (hs : ∀ s ∈ ss, ∀ j, s = .o j → j = k)
    (hR : R (ss.map (to0 k) ++ es.map Sl.d) [m] (.d z) [m']) (hg' : m' ≠ .gone) (hn : ss.length + es.length = n) (hd : ∀ B, RpL K B es dvs) :
    EvE K (tCall (SpR K n R) dvs E ta) G M (.d z) (M1.set k m') := fun F B as σ H ow sl Q q =>
  h F B as σ H ow sl _ fun vs B1 as1 H1 g1 p1 o1 r1 => by
    have hk : k < as1.length := by rw [o1.len]; exact (List.getElem?_eq_some_iff.mp hm).1
    obtain ⟨a, ha⟩ : ∃ a, as1[k]? = some a := ⟨_, List.getElem?_eq_getElem hk⟩
    obtain ⟨f0, b0, mr⟩ := o1.own k a m ha hm hg
    have hal := o1.al a (List.mem_of_getElem? ha)
    have oc : Ow K (fun b => if b = a then none else H1 b) B1 [a] [m] H1 := by
      refine ⟨fun b u e => ?_, o1.bb, rfl, by simp, fun b hb => ?_, fun b hb => ?_, fun j b m2 e1 e2 hm2 => ?_⟩
      · by_cases z : b = a
        · simp only [if_pos z] at e; cases e
        · simp only [if_neg z] at e; exact e
      · obtain rfl : b = a := by simpa using hb
        exact hal
      · obtain rfl : b = a := by simpa using hb
        simp
      · cases j with
        | zero =>
          obtain rfl : a = b := Option.some.inj e1
          obtain rfl : m = m2 := Option.some.inj e2
          exact ⟨by simp, b0, mr⟩
        | succ j => simp at e1
    have sl2 : SlL K B1 [a] (ss.map (to0 k) ++ es.map Sl.d) (vs ++ dvs) := by
      have h1 := slL_to0 ha hs r1
      have h2 := SlL.of_data (as := [a]) (hd B1)
      revert h1 h2
      generalize ss.map (to0 k) = ps
      generalize es.map Sl.d = qs
      intro h1 h2
      clear r1
      induction ps generalizing vs with
      | nil => rw [show vs = [] from h1]; exact h2
      | cons c ps ih =>
        obtain ⟨v, u, e, h3, h4⟩ := h1
        subst e
        exact ⟨v, _, rfl, h3, ih u h4⟩
    refine ⟨_, B1, [a], _, [m], .d z, [m'], hR, oc, sl2, ?_, fun v B' as' H' g p o' r' => ?_⟩
    · rw [List.length_append, r1.len, (hd B1).len]; exact hn
    · obtain ⟨tl, rfl⟩ := p
      have tl0 : tl = [] := by
        have := o'.len
        simp at this
        exact this
      subst tl0
      have F1 : Same F (fun b => if b = a then none else H1 b) := fun b u e => by
        have ne := ne_of_none e f0
        simp only [if_neg ne]
        exact o1.fb b u e
      have hh : ∀ b, b ≠ a → ∀ u, H1 b = some u → H' b = some u := fun b ne u e => o'.fb b u (by simp only [if_neg ne]; exact e)
      obtain ⟨_, bn, mr'⟩ := o'.own 0 a m' rfl rfl hg'
      have gF : Gr F B1 B' := ⟨g.1, fun b f n => g.2 b (Kp.same f F1) n⟩
      refine q v B' as1 H' (g1.trans gF) p1 ⟨fun b u e => o'.fb b u (F1 b u e), o'.bb, by rw [List.length_set]; exact o1.len, o1.nd, fun b hb => ?_, o1.fa, fun j b m2 e1 e2 hm2 => ?_⟩ r'
      · by_cases z : b = a
        · rw [z]; exact o'.al a (by simp)
        · cases e : H1 b with
          | none => exact absurd e (o1.al b hb)
          | some u => rw [hh b z u e]; exact fun z => nomatch z
      · by_cases z : k = j
        · subst z
          rw [ha] at e1
          obtain rfl : a = b := Option.some.inj e1
          rw [List.getElem?_set_self (List.getElem?_eq_some_iff.mp hm).1] at e2
          obtain rfl : m' = m2 := Option.some.inj e2
          exact ⟨f0, bn, mr'⟩
        · rw [List.getElem?_set_ne z] at e2
          have ne : b ≠ a := fun e => by
            subst e
            obtain ⟨l1, g1⟩ := List.getElem?_eq_some_iff.mp ha
            obtain ⟨l2, g2⟩ := List.getElem?_eq_some_iff.mp e1
            exact z (nodup_ix2 o1.nd l1 l2 (g1.trans g2.symm))
          obtain ⟨r1', r2', r3'⟩ := o1.own j b m2 e1 e2 hm2
          have hb := o1.al b (List.mem_of_getElem? e1)
          cases e : H1 b with
          | none => exact absurd e hb
          | some u => exact ⟨r1', g.2 b (by simp only [if_neg ne]; exact kp_mor hm2 r3') r2', MoR.mono g.1 ((hh b ne u e).trans e.symm) r3'⟩
end
end DJ
namespace DJ
open PySem PySem.Spec PyProof.Rows L2
/-! ### texts as lists of signs -/
theorem tx_len (a : List Nat) : (tx a).length = a.length := SX.S_len a
theorem tx_cat (a b : List Nat) : tx a ++ tx b = tx (a ++ b) := SX.S_cat a b
theorem tx_inj {a b : List Nat} (h : tx a = tx b) : a = b := SX.S_inj h
theorem tx_dec (a b : List Nat) : decide (V.str (tx a) = V.str (tx b)) = decide (a = b) := by
  by_cases e : a = b
  · subst e; simp
  · rw [decide_eq_false e, decide_eq_false (fun h => e (tx_inj (V.str.inj h)))]
/-- S stands at the head of l -/
abbrev pre (S l : List Nat) : Bool := TL.pre S l
theorem sub_tl (a b : List Nat) (i : Nat) : Builtin.Str.subAt (tx a) (tx b) i = ((a.drop i).take b.length == b) := by
  have h := StrLaws.subAt_eq (tx a) (tx b) i
  rw [tx_len] at h
  exact h
theorem starts_tx (a b : List Nat) : Txt.startswith (tx a) (tx b) = pre b a := by
  unfold Txt.startswith
  rw [sub_tl, tx_len, tx_len, Nat.zero_add, List.drop_zero]
  show (decide (b.length ≤ a.length) && (a.take b.length == b)) = (a.take b.length == b)
  by_cases h : b.length ≤ a.length
  · rw [decide_eq_true h, Bool.true_and]
  · rw [decide_eq_false h, Bool.false_and]
    refine (beq_eq_false_iff_ne.mpr fun e => h ?_).symm
    have := congrArg List.length e
    rw [List.length_take] at this
    omega
/-- b stands somewhere in a -/
def sub : List Nat → List Nat → Bool
  | b, [] => b == []
  | b, c :: r => pre b (c :: r) || sub b r
theorem sub_iff (b : List Nat) : ∀ a : List Nat, sub b a = true ↔ ∃ i, i + b.length ≤ a.length ∧ (a.drop i).take b.length = b
  | [] => by
    unfold sub
    constructor
    · intro h
      have e : b = [] := eq_of_beq h
      subst e
      exact ⟨0, Nat.le_refl _, rfl⟩
    · rintro ⟨i, h1, h2⟩
      have : b.length = 0 := by
        have h1 : i + b.length ≤ 0 := h1
        omega
      rw [List.length_eq_zero_iff.mp this] <;> rfl
  | c :: r => by
    unfold sub
    rw [Bool.or_eq_true, sub_iff b r]
    constructor
    · rintro (h | ⟨i, h1, h2⟩)
      · have e : (c :: r).take b.length = b := eq_of_beq h
        refine ⟨0, ?_, e⟩
        have := congrArg List.length e
        rw [List.length_take] at this
        omega
      · exact ⟨i + 1, by simp; omega, h2⟩
    · rintro ⟨i, h1, h2⟩
      cases i with
      | zero => exact .inl (by rw [List.drop_zero] at h2; show (List.take b.length (c :: r) == b) = true; rw [h2]; exact beq_self_eq_true b)
      | succ i => exact .inr ⟨i, by simp at h1; omega, h2⟩
theorem found_tx (a b : List Nat) : (!(Builtin.Str.occurrences (tx a) (tx b) 0 (tx a).length 1).isEmpty) = sub b a := by
  refine Bool.eq_iff_iff.mpr ?_
  rw [StrLaws.found_iff, sub_iff]
  constructor
  · rintro ⟨i, h1, h2⟩
    rw [tx_len, tx_len] at h1
    rw [sub_tl, beq_iff_eq] at h2
    exact ⟨i, h1, h2⟩
  · rintro ⟨i, h1, h2⟩
    exact ⟨i, by rw [tx_len, tx_len]; exact h1, by rw [sub_tl, beq_iff_eq]; exact h2⟩
/-- a slice -/
def cutL {α : Type} (l : List α) (lo hi : Option Int) : List α := (l.drop (HT.sIx l.length 0 lo)).take (HT.sIx l.length l.length hi - HT.sIx l.length 0 lo)
theorem cutS_tx (l : List Nat) (lo hi : Option Int) : cutS (tx l) lo hi = tx (cutL l lo hi) := by
  unfold cutS cutL
  rw [tx_len]
theorem cutL_len {α : Type} (l : List α) (lo hi : Option Int) : (cutL l lo hi).length ≤ l.length := by
  unfold cutL
  rw [List.length_take, List.length_drop]
  omega
theorem cutL_from {α : Type} (l : List α) (n : Nat) : cutL l (some (n : Int)) none = l.drop n := by
  unfold cutL
  have e : HT.sIx l.length 0 (some (n : Int)) = min n l.length := HT.sIx_nat _ _ n
  have e2 : HT.sIx l.length l.length none = l.length := rfl
  rw [e, e2]
  by_cases h : n ≤ l.length
  · rw [Nat.min_eq_left h]
    exact List.take_of_length_le (by rw [List.length_drop]; exact Nat.le_refl _)
  · rw [Nat.min_eq_right (by omega), List.drop_length, List.drop_eq_nil_of_le (by omega)]
    simp
theorem cutL_to {α : Type} (l : List α) (n : Nat) : cutL l none (some (n : Int)) = l.take n := by
  unfold cutL
  have e : HT.sIx l.length l.length (some (n : Int)) = min n l.length := HT.sIx_nat _ _ n
  have e2 : HT.sIx l.length 0 none = 0 := rfl
  rw [e, e2, List.drop_zero, Nat.sub_zero]
  by_cases h : n ≤ l.length
  · rw [Nat.min_eq_left h]
  · rw [Nat.min_eq_right (by omega), List.take_of_length_le (Nat.le_refl l.length), List.take_of_length_le (show l.length ≤ n by omega)]
theorem cutL_nat {α : Type} (l : List α) (a b : Nat) : cutL l (some (a : Int)) (some (b : Int)) = (l.drop a).take (b - a) := by
  unfold cutL
  have e : HT.sIx l.length 0 (some (a : Int)) = min a l.length := HT.sIx_nat _ _ a
  have e2 : HT.sIx l.length l.length (some (b : Int)) = min b l.length := HT.sIx_nat _ _ b
  rw [e, e2]
  by_cases h : a ≤ l.length
  · rw [Nat.min_eq_left h]
    refine List.ext_getElem? fun i => ?_
    rw [List.getElem?_take, List.getElem?_take, List.getElem?_drop]
    by_cases h1 : i < b - a
    · rw [if_pos h1]
      by_cases h2 : i < min b l.length - a
      · rw [if_pos h2]
      · rw [if_neg h2, List.getElem?_eq_none (by omega)]
    · rw [if_neg h1, if_neg (by omega)]
  · rw [Nat.min_eq_right (show l.length ≤ a by omega), List.drop_length, List.drop_eq_nil_of_le (show l.length ≤ a by omega)]
    simp
/-- strip -/
theorem strip_l (g : Nat → Bool) (l : List Nat) : Txt.stripBy g true false (tx l) = tx (l.dropWhile g) := by
  rw [PyProof.Rows.stripBy_eq]
  have e2 : stripHi g false (tx l) (stripLo g true (tx l)) = (tx l).length := by simp [stripHi]
  have e1 : stripLo g true (tx l) = (l.takeWhile g).length := by simp [stripLo]
  rw [e2, e1]
  refine TL.ext_tl ?_
  rw [TL.tl_strSub_end]
  show l.drop (l.takeWhile g).length = l.dropWhile g
  have e3 : l = l.takeWhile g ++ l.dropWhile g := (List.takeWhile_append_dropWhile).symm
  exact (by
    have : (l.takeWhile g ++ l.dropWhile g).drop (l.takeWhile g).length = l.dropWhile g := List.drop_left
    rw [← e3] at this
    exact this)
theorem drop_take_while (g : Nat → Bool) (l : List Nat) : l.drop (l.takeWhile g).length = l.dropWhile g := by
  have this : (l.takeWhile g ++ l.dropWhile g).drop (l.takeWhile g).length = l.dropWhile g := List.drop_left
  rw [List.takeWhile_append_dropWhile] at this
  exact this
theorem take_rev_while (g : Nat → Bool) (l : List Nat) : l.take (l.length - (l.reverse.takeWhile g).length) = (l.reverse.dropWhile g).reverse := by
  rw [← drop_take_while g l.reverse, List.drop_reverse, List.reverse_reverse]
theorem strip_r (g : Nat → Bool) (l : List Nat) : Txt.stripBy g false true (tx l) = tx (l.reverse.dropWhile g).reverse := by
  rw [PyProof.Rows.stripBy_eq]
  have e1 : stripLo g false (tx l) = 0 := by simp [stripLo]
  have e2 : stripHi g true (tx l) 0 = l.length - (l.reverse.takeWhile g).length := by simp [stripHi, Str.length]
  rw [e1, e2]
  refine TL.ext_tl ?_
  rw [TL.tl_strSub, List.drop_zero, Nat.sub_zero]
  exact take_rev_while g l
theorem strip_b (g : Nat → Bool) (l : List Nat) : Txt.stripBy g true true (tx l) = tx (((l.dropWhile g).reverse.dropWhile g).reverse) := by
  rw [PyProof.Rows.stripBy_eq]
  have e1 : stripLo g true (tx l) = (l.takeWhile g).length := by simp [stripLo]
  have e2 : stripHi g true (tx l) (l.takeWhile g).length = l.length - ((l.drop (l.takeWhile g).length).reverse.takeWhile g).length := by simp [stripHi, Str.length]
  rw [e1, e2, drop_take_while]
  refine TL.ext_tl ?_
  rw [TL.tl_strSub]
  show (l.drop _).take _ = _
  rw [drop_take_while]
  have h := take_rev_while g (l.dropWhile g)
  have hl : (l.dropWhile g).length = l.length - (l.takeWhile g).length := by rw [← drop_take_while, List.length_drop]
  rw [hl] at h
  rw [show l.length - ((l.dropWhile g).reverse.takeWhile g).length - (l.takeWhile g).length = l.length - (l.takeWhile g).length - ((l.dropWhile g).reverse.takeWhile g).length by omega]
  exact h
def inL (b : List Nat) (c : Nat) : Bool := decide (c ∈ b)
theorem cont_tx (b : List Nat) : (tx b).cps.contains = inL b := by
  funext c
  show b.toArray.contains c = decide (c ∈ b)
  rw [Bool.eq_iff_iff]
  simp
def lstripL (b l : List Nat) : List Nat := l.dropWhile (inL b)
def rstripL (b l : List Nat) : List Nat := (l.reverse.dropWhile (inL b)).reverse
def stripL (b l : List Nat) : List Nat := rstripL b (lstripL b l)
theorem lstrip_tx (a b : List Nat) : Txt.lstripChars (tx a) (tx b) = tx (lstripL b a) := by
  unfold Txt.lstripChars lstripL
  rw [cont_tx, strip_l]
theorem rstrip_tx (a b : List Nat) : Txt.rstripChars (tx a) (tx b) = tx (rstripL b a) := by
  unfold Txt.rstripChars rstripL
  rw [cont_tx, strip_r]
theorem strip_tx (a b : List Nat) : Txt.stripChars (tx a) (tx b) = tx (stripL b a) := by
  unfold Txt.stripChars stripL rstripL lstripL
  rw [cont_tx, strip_b]
/-- partition -/
def partL (b a : List Nat) : List Nat × List Nat × List Nat := match TL.par b [] a with
  | some (p, q) => (p, b, q)
  | none => (a, [], [])
theorem part_tx (a b : List Nat) (h : b ≠ []) : Txt.partition (tx a) (tx b) = (tx (partL b a).1, tx (partL b a).2.1, tx (partL b a).2.2) := by
  unfold partL
  cases e : TL.par b [] a with
  | none => exact SX.partition_none h e
  | some r =>
    obtain ⟨p, q⟩ := r
    exact SX.partition_some h e
/-- x.replace(c, d), one sign each -/
theorem repl_tx (a y z : List Nat) (hy : 1 ≤ y.length) : Txt.replace (tx a) (tx y) (tx z) = tx (StrLaws.replL y z a) := by
  refine TL.ext_tl ?_
  exact StrLaws.replace_list (by rw [tx_len]; exact hy)
/-! ### operations -/
section
variable {K : PySem.W.Frag} {G : List (Option Sl)} {M M1 M2 M3 : List MO} {s : Sl} {ta tb te : TE} {tr : TA} {t u : TT} {x y z : Dt} {r : R2} {b : Bool} {i j : Int} {l m : List Nat}
theorem ro_of {g : V} (h : ∀ (H : Hp) (v u : V) (K' : PySem.W.Frag) (B : Hp) (Q : VK), Rp K' B x v → Rp K' B y u → Q g H → r v u H Q) (hz : ∀ K' B, Rp K' B z g) : RO K r x y z := fun F B as M H v u Q ow r1 r2 q =>
  h H v u K B Q r1 r2 (q g B H (Gr.refl F B) ow (hz K B))
theorem ro_I0 {g : Int → Int → V} {z : Dt} (hz : ∀ K' B, Rp K' B z (g i j)) : RO K (rI0 g) (.int i) (.int j) z := ro_of (fun H v u _ _ Q h1 h2 q => ⟨i, j, h1, h2, q⟩) hz
theorem ro_I {C : Int → Int → Prop} {g : Int → Int → V} {z : Dt} (hc : C i j) (hz : ∀ K' B, Rp K' B z (g i j)) : RO K (rI C g) (.int i) (.int j) z := ro_of (fun H v u _ _ Q h1 h2 q => ⟨i, j, h1, h2, hc, q⟩) hz
theorem ro_add : RO K (rI0 fun i j => .int (i + j)) (.int i) (.int j) (.int (i + j)) := ro_I0 fun _ _ => rfl
theorem ro_sub : RO K (rI0 fun i j => .int (i - j)) (.int i) (.int j) (.int (i - j)) := ro_I0 fun _ _ => rfl
theorem ro_mul (h : CMul i j) : RO K (rI CMul fun i j => .int (i * j)) (.int i) (.int j) (.int (i * j)) := ro_I h fun _ _ => rfl
theorem ro_mulX (h : CMulX i j) : RO K (rI CMulX fun i j => .int (i * j)) (.int i) (.int j) (.int (i * j)) := ro_I h fun _ _ => rfl
theorem ro_mod (h : 0 < j) : RO K (rI (fun _ j => 0 < j) fun i j => .int (i % j)) (.int i) (.int j) (.int (i % j)) := ro_I h fun _ _ => rfl
theorem ro_fdivN (h : CDivN i j) : RO K (rI CDivN fun i j => .int (i.fdiv j)) (.int i) (.int j) (.int (i.fdiv j)) := ro_I h fun _ _ => rfl
theorem ro_pow (h : CPow i j) : RO K (rI CPow fun i j => .int (i ^ j.toNat)) (.int i) (.int j) (.int (i ^ j.toNat)) := ro_I h fun _ _ => rfl
theorem ro_lt : RO K (rI0 fun i j => .bl (decide (i < j))) (.int i) (.int j) (.bl (decide (i < j))) := ro_I0 fun _ _ => rfl
theorem ro_le : RO K (rI0 fun i j => .bl (decide (i ≤ j))) (.int i) (.int j) (.bl (decide (i ≤ j))) := ro_I0 fun _ _ => rfl
theorem ro_gt : RO K (rI0 fun i j => .bl (decide (j < i))) (.int i) (.int j) (.bl (decide (j < i))) := ro_I0 fun _ _ => rfl
theorem ro_ge : RO K (rI0 fun i j => .bl (decide (j ≤ i))) (.int i) (.int j) (.bl (decide (j ≤ i))) := ro_I0 fun _ _ => rfl
theorem ru_neg : RU K (rU fun i => .int (-i)) (.int i) (.int (-i)) := fun F B as M H v Q ow r q => ⟨i, r, q _ B H (Gr.refl F B) ow rfl⟩
/-- == of scalars -/
def scD : Dt → Dt → Option Bool
  | .int i, .int j => some (decide (i = j))
  | .str a, .str b => some (decide (a = b))
  | .bl a, .bl b => some (decide (a = b))
  | .non, .non => some true
  | .non, .str _ => some false
  | .str _, .non => some false
  | _, _ => none
theorem ro_eqS : RO K rEq (.str l) (.str m) (.bl (decide (l = m))) := fun F B as M H v u Q ow r1 r2 q => by
  subst r1; subst r2
  exact ⟨rfl, q _ B H (Gr.refl F B) ow (by rw [tx_dec] <;> rfl)⟩
theorem ro_neS : RO K rNe (.str l) (.str m) (.bl (!decide (l = m))) := fun F B as M H v u Q ow r1 r2 q => by
  subst r1; subst r2
  exact ⟨rfl, q _ B H (Gr.refl F B) ow (by rw [tx_dec] <;> rfl)⟩
theorem ro_eqI : RO K rEq (.int i) (.int j) (.bl (decide (i = j))) := fun F B as M H v u Q ow r1 r2 q => by
  subst r1; subst r2
  exact ⟨rfl, q _ B H (Gr.refl F B) ow (by
    by_cases e : i = j
    · subst e; simp [Rp]
    · rw [decide_eq_false (fun h => e (V.int.inj h)), decide_eq_false e] <;> rfl)⟩
theorem ro_neI : RO K rNe (.int i) (.int j) (.bl (!decide (i = j))) := fun F B as M H v u Q ow r1 r2 q => by
  subst r1; subst r2
  exact ⟨rfl, q _ B H (Gr.refl F B) ow (by
    by_cases e : i = j
    · subst e; simp [Rp]
    · rw [decide_eq_false (fun h => e (V.int.inj h)), decide_eq_false e] <;> rfl)⟩
/-- an optional text -/
def oS : Option (List Nat) → Dt
  | some l => .str l
  | none => .non
theorem ro_eqO {p q : Option (List Nat)} : RO K rEq (oS p) (oS q) (.bl (decide (p = q))) := fun F B as M H v u Q ow r1 r2 k => by
  cases p with
  | none =>
    cases q with
    | none =>
      have r1 : v = .non := r1
      have r2 : u = .non := r2
      subst r1; subst r2
      exact ⟨rfl, k _ B H (Gr.refl F B) ow (by simp [Rp])⟩
    | some m =>
      have r1 : v = .non := r1
      have r2 : u = .str (tx m) := r2
      subst r1; subst r2
      exact ⟨rfl, k _ B H (Gr.refl F B) ow (by simp [Rp])⟩
  | some l =>
    cases q with
    | none =>
      have r1 : v = .str (tx l) := r1
      have r2 : u = .non := r2
      subst r1; subst r2
      exact ⟨rfl, k _ B H (Gr.refl F B) ow (by simp [Rp])⟩
    | some m =>
      have r1 : v = .str (tx l) := r1
      have r2 : u = .str (tx m) := r2
      subst r1; subst r2
      refine ⟨rfl, k _ B H (Gr.refl F B) ow ?_⟩
      show V.bl _ = V.bl _
      rw [tx_dec]
      congr 1
      by_cases e : l = m
      · subst e; simp
      · simp [e]
theorem ro_neO {p q : Option (List Nat)} : RO K rNe (oS p) (oS q) (.bl (!decide (p = q))) := fun F B as M H v u Q ow r1 r2 k => by
  obtain ⟨h1, w, h2⟩ : scal v u = true ∧ True ∧ decide (v = u) = decide (p = q) := by
    have e := ro_eqO (K := K) (p := p) (q := q) F B as M H v u (fun w _ => w = .bl (decide (p = q))) ow r1 r2 (fun w B' H' g o' r' => r')
    exact ⟨e.1, trivial, V.bl.inj e.2⟩
  refine ⟨h1, k _ B H (Gr.refl F B) ow ?_⟩
  rw [h2] <;> rfl
theorem ro_isN {p : Option (List Nat)} : RO K (fun x y H Q => y = .non ∧ Q (.bl (decide (x = .non))) H) (oS p) .non (.bl (decide (p = none))) := fun F B as M H v u Q ow r1 r2 k => by
  cases p with
  | none =>
    have r1 : v = .non := r1
    subst r1
    exact ⟨r2, k _ B H (Gr.refl F B) ow (by simp [Rp])⟩
  | some l =>
    have r1 : v = .str (tx l) := r1
    subst r1
    exact ⟨r2, k _ B H (Gr.refl F B) ow (by simp [Rp])⟩
theorem ro_notN {p : Option (List Nat)} : RO K (fun x y H Q => y = .non ∧ Q (.bl (!decide (x = .non))) H) (oS p) .non (.bl (!decide (p = none))) := fun F B as M H v u Q ow r1 r2 k => by
  cases p with
  | none =>
    have r1 : v = .non := r1
    subst r1
    exact ⟨r2, k _ B H (Gr.refl F B) ow (by simp [Rp])⟩
  | some l =>
    have r1 : v = .str (tx l) := r1
    subst r1
    exact ⟨r2, k _ B H (Gr.refl F B) ow (by simp [Rp])⟩
/-- texts -/
theorem ro_addS (h : l.length + m.length ≤ 1000000) : RO K (fun x y H Q => ∃ i j, x = .str i ∧ y = .str j ∧ i.length + j.length ≤ sizeLine ∧ Q (.str (i ++ j)) H) (.str l) (.str m) (.str (l ++ m)) := fun F B as M H v u Q ow r1 r2 q =>
  ⟨tx l, tx m, r1, r2, by rw [tx_len, tx_len]; exact Nat.le_trans h (by decide), q _ B H (Gr.refl F B) ow (by rw [tx_cat] <;> rfl)⟩
theorem ro_inS : RO K (fun x y H Q => ∃ i j, x = .str i ∧ y = .str j ∧ Q (.bl (!(Builtin.Str.occurrences j i 0 j.length 1).isEmpty)) H) (.str l) (.str m) (.bl (sub l m)) := fun F B as M H v u Q ow r1 r2 q =>
  ⟨tx l, tx m, r1, r2, q _ B H (Gr.refl F B) ow (by rw [found_tx] <;> rfl)⟩
theorem ro_ninS : RO K (fun x y H Q => ∃ i j, x = .str i ∧ y = .str j ∧ Q (.bl (!(!(Builtin.Str.occurrences j i 0 j.length 1).isEmpty))) H) (.str l) (.str m) (.bl (!sub l m)) := fun F B as M H v u Q ow r1 r2 q =>
  ⟨tx l, tx m, r1, r2, q _ B H (Gr.refl F B) ow (by rw [found_tx] <;> rfl)⟩
theorem ro_leS : RO K (fun x y H Q => ∃ i j, x = .str i ∧ y = .str j ∧ Q (.bl (!decide (j.cps.toList < i.cps.toList))) H) (.str l) (.str m) (.bl (!decide (m < l))) := fun F B as M H v u Q ow r1 r2 q =>
  ⟨tx l, tx m, r1, r2, q _ B H (Gr.refl F B) ow rfl⟩
/-- x in a tuple of texts -/
theorem flat_strs : ∀ xs : List (List Nat), ((xs.map tx).map V.str).all flatV = true
  | [] => rfl
  | x :: xs => by rw [List.map_cons, List.map_cons, List.all_cons, flat_strs xs] <;> rfl
theorem inV_strs (l : List Nat) : ∀ xs : List (List Nat), inV (.str (tx l)) ((xs.map tx).map V.str) = decide (l ∈ xs)
  | [] => rfl
  | x :: xs => by
    show (eqV (.str (tx x)) (.str (tx l)) || inV (.str (tx l)) ((xs.map tx).map V.str)) = _
    rw [inV_strs l xs]
    show ((tx x == tx l) || _) = _
    by_cases e : l = x
    · subst e; simp
    · have : (tx x == tx l) = false := beq_eq_false_iff_ne.mpr fun h => e (tx_inj h).symm
      rw [this, Bool.false_or]
      simp [e]
theorem inV_non : ∀ xs : List (List Nat), inV .non ((xs.map tx).map V.str) = false
  | [] => rfl
  | x :: xs => inV_non xs
theorem ro_inT {xs : List (List Nat)} : RO K (rIn K false) (.str l) (.tup (xs.map Dt.str)) (.bl (decide (l ∈ xs))) := fun F B as M H v u Q ow r1 r2 q => by
  obtain ⟨a, vs, e, h1, h2⟩ := r2
  have e2 := h2.strs
  subst e2; subst e
  have r1 : v = .str (tx l) := r1
  subst r1
  refine ⟨a, _, rfl, .inr (same_t ow.bb h1), rfl, flat_strs xs, q _ B H (Gr.refl F B) ow ?_⟩
  show V.bl (inV _ _) = _
  rw [inV_strs]
theorem ro_ninT {xs : List (List Nat)} : RO K (rIn K true) (.str l) (.tup (xs.map Dt.str)) (.bl (!decide (l ∈ xs))) := fun F B as M H v u Q ow r1 r2 q => by
  obtain ⟨a, vs, e, h1, h2⟩ := r2
  have e2 := h2.strs
  subst e2; subst e
  have r1 : v = .str (tx l) := r1
  subst r1
  refine ⟨a, _, rfl, .inr (same_t ow.bb h1), rfl, flat_strs xs, q _ B H (Gr.refl F B) ow ?_⟩
  show V.bl (!inV _ _) = _
  rw [inV_strs]
theorem ro_inOT {p : Option (List Nat)} {xs : List (List Nat)} : RO K (rIn K false) (oS p) (.tup (xs.map Dt.str)) (.bl (decide (p ∈ xs.map some))) := by
  cases p with
  | some l =>
    have h : decide (some l ∈ xs.map some) = decide (l ∈ xs) := by simp
    rw [h]
    exact ro_inT
  | none =>
    exact fun F B as M H v u Q ow r1 r2 q => by
      obtain ⟨a, vs, e, h1, h2⟩ := r2
      have e2 := h2.strs
      subst e2; subst e
      have r1 : v = .non := r1
      subst r1
      refine ⟨a, _, rfl, .inr (same_t ow.bb h1), rfl, flat_strs xs, q _ B H (Gr.refl F B) ow ?_⟩
      show V.bl (inV _ _) = _
      rw [inV_non]
      simp
/-- slices of texts -/
theorem eo_none : EvO K tNoPart G M none M := fun F B as σ H ow sl Q q => q B as H (Gr.refl F B) (Px.refl as) ow
theorem eo_some (h : EvE K te G M (.d (.int i)) M1) : EvO K (tPart te) G M (some i) M1 := fun F B as σ H ow sl Q q =>
  h F B as σ H ow sl _ fun v B1 as1 H1 g p o r => ⟨i, r, q B1 as1 H1 g p o⟩
theorem ev_slS {tl th : TO} {lo hi : Option Int} (h : EvE K te G M (.d (.str l)) M1) (h1 : EvO K tl G M1 lo M2) (h2 : EvO K th G M2 hi M3) (hz : l.length ≤ 1000000) : EvE K (tSl rSlS te tl th) G M (.d (.str (cutL l lo hi))) M3 := fun F B as σ H ow sl Q q =>
  h F B as σ H ow sl _ fun v B1 as1 H1 g1 p1 o1 r1 => h1 F B1 as1 σ H1 o1 (sl.mono g1.1 p1) _ fun B2 as2 H2 g2 p2 o2 => h2 F B2 as2 σ H2 o2 ((sl.mono g1.1 p1).mono g2.1 p2) _ fun B3 as3 H3 g3 p3 o3 =>
    ⟨tx l, r1, by rw [tx_len]; exact Nat.le_trans hz (by decide), q _ B3 as3 H3 (g1.trans (g2.trans g3)) (p1.trans (p2.trans p3)) o3 (by rw [cutS_tx] <;> rfl)⟩
/-- methods of texts -/
theorem ev_m0 {rm : V → List V → Hp → VK → Prop} (ha : EvE K ta G M (.d (.str l)) M1) (hr : RM K rm (.str l) [] z) : EvE K (tM0 rm ta) G M (.d z) M1 := fun F B as σ H ow sl Q q =>
  ha F B as σ H ow sl _ fun v B1 as1 H1 g1 p1 o1 r1 => ⟨⟨tx l, r1⟩, hr F B1 as1 M1 H1 v [] Q o1 r1 rfl fun w B2 H2 g2 o2 r2 => q w B2 as1 H2 (g1.trans g2) p1 o2 r2⟩
theorem ev_m1 {rm : V → List V → Hp → VK → Prop} (ha : EvE K ta G M (.d (.str l)) M1) (hb : EvE K tb G M1 (.d y) M2) (hr : RM K rm (.str l) [y] z) : EvE K (tM1 rm ta tb) G M (.d z) M2 := fun F B as σ H ow sl Q q =>
  ha F B as σ H ow sl _ fun v B1 as1 H1 g1 p1 o1 r1 => ⟨⟨tx l, r1⟩, hb F B1 as1 σ H1 o1 (sl.mono g1.1 p1) _ fun u B2 as2 H2 g2 p2 o2 r2 =>
    hr F B2 as2 M2 H2 v [u] Q o2 (Rp.mono g2.1 _ _ r1) (RpL.one r2) fun w B3 H3 g3 o3 r3 => q w B3 as2 H3 (g1.trans (g2.trans g3)) (p1.trans p2) o3 r3⟩
theorem two_str {K : PySem.W.Frag} {B : Hp} {m : List Nat} {vs : List V} (h : RpL K B [.str m] vs) : vs = [.str (tx m)] := by
  obtain ⟨v, r, e, h1, h2⟩ := h
  rw [e, show v = _ from h1, show r = [] from h2]
theorem rm_starts : RM K (fun x xs H Q => ∃ a b, x = .str a ∧ xs = [.str b] ∧ Q (.bl (Txt.startswith a b)) H) (.str l) [.str m] (.bl (pre m l)) := fun F B as M H v vs Q ow r1 r2 q =>
  ⟨tx l, tx m, r1, two_str r2, q _ B H (Gr.refl F B) ow (by rw [starts_tx] <;> rfl)⟩
theorem rm_lstrip (h : l.length ≤ 1000000) : RM K (fun x xs H Q => ∃ a b, x = .str a ∧ xs = [.str b] ∧ a.length ≤ sizeLine ∧ Q (.str (Txt.lstripChars a b)) H) (.str l) [.str m] (.str (lstripL m l)) := fun F B as M H v vs Q ow r1 r2 q =>
  ⟨tx l, tx m, r1, two_str r2, by rw [tx_len]; exact Nat.le_trans h (by decide), q _ B H (Gr.refl F B) ow (by rw [lstrip_tx] <;> rfl)⟩
theorem rm_rstrip (h : l.length ≤ 1000000) : RM K (fun x xs H Q => ∃ a b, x = .str a ∧ xs = [.str b] ∧ a.length ≤ sizeLine ∧ Q (.str (Txt.rstripChars a b)) H) (.str l) [.str m] (.str (rstripL m l)) := fun F B as M H v vs Q ow r1 r2 q =>
  ⟨tx l, tx m, r1, two_str r2, by rw [tx_len]; exact Nat.le_trans h (by decide), q _ B H (Gr.refl F B) ow (by rw [rstrip_tx] <;> rfl)⟩
theorem rm_strip (h : l.length ≤ 1000000) : RM K (fun x xs H Q => ∃ a b, x = .str a ∧ xs = [.str b] ∧ a.length ≤ sizeLine ∧ Q (.str (Txt.stripChars a b)) H) (.str l) [.str m] (.str (stripL m l)) := fun F B as M H v vs Q ow r1 r2 q =>
  ⟨tx l, tx m, r1, two_str r2, by rw [tx_len]; exact Nat.le_trans h (by decide), q _ B H (Gr.refl F B) ow (by rw [strip_tx] <;> rfl)⟩
theorem rm_upper (h : l.length ≤ 1000000) (ha : l.all (· < 128) = true) : RM K (fun x xs H Q => ∃ a, x = .str a ∧ xs = [] ∧ a.length ≤ 5592405 ∧ Q (.str (Txt.upper a)) H) (.str l) [] (.str (l.map PyProof.Rows.up1)) := fun F B as M H v vs Q ow r1 r2 q =>
  ⟨tx l, r1, r2, by rw [tx_len]; exact Nat.le_trans h (by decide), q _ B H (Gr.refl F B) ow (by show V.str _ = V.str _; congr 1; exact SX.upper_S ha)⟩
theorem rm_part (h : l.length ≤ 1000000) (hm : m ≠ []) : RM K (fun x xs H Q => ∃ a b, x = .str a ∧ xs = [.str b] ∧ (b.length == 0) = false ∧ a.length ≤ sizeLine ∧
    ∀ p, H p = none → Q (.ref p) (upd H p (.tup [.str (Txt.partition a b).1, .str (Txt.partition a b).2.1, .str (Txt.partition a b).2.2]))) (.str l) [.str m] (.tup [.str (partL m l).1, .str (partL m l).2.1, .str (partL m l).2.2]) := fun F B as M H v vs Q ow r1 r2 q =>
  ⟨tx l, tx m, r1, two_str r2, by rw [tx_len]; exact beq_eq_false_iff_ne.mpr (fun e => hm (List.length_eq_zero_iff.mp e)), by rw [tx_len]; exact Nat.le_trans h (by decide), fun p hp => by
    rw [part_tx l m hm]
    exact q _ _ _ (ow.gr hp _) (ow.new hp _) ⟨p, _, rfl, .inl (.inl upd_same), _, _, rfl, rfl, _, _, rfl, rfl, _, _, rfl, rfl, rfl⟩⟩
theorem sum_lens (xs : List (List Nat)) : ((xs.map tx).map (·.length)).sum = (xs.map (·.length)).sum := by
  rw [List.map_map]
  congr 1
theorem rm_join {xs : List (List Nat)} (h : (xs.map (·.length)).sum + xs.length * l.length ≤ 1000000) : RM K (fun x xs H Q => ∃ a p, ∃ ys : List Str, x = .str a ∧ xs = [.ref p] ∧ (SqL K H p (ys.map V.str) ∨ SqT K H p (ys.map V.str)) ∧
    (ys.map (·.length)).sum + ys.length * a.length ≤ 16777216 ∧ Q (.str (Txt.join a ys)) H) (.str l) [.lst (xs.map Dt.str)] (.str (TL.joinL l xs)) := fun F B as M H v vs Q ow r1 r2 q => by
  obtain ⟨v1, rr, e, h1, h2⟩ := r2
  obtain ⟨a, us, e1, h3, h4⟩ := h1
  have e2 := h4.strs
  subst e2; subst e1
  have h2 : rr = [] := h2
  subst h2
  refine ⟨tx l, a, xs.map tx, r1, e, .inl (ow.bb.seq h3), ?_, q _ B H (Gr.refl F B) ow ?_⟩
  · rw [sum_lens, List.length_map, tx_len]
    exact Nat.le_trans h (by decide)
  · show V.str _ = V.str _
    congr 1
    exact SX.join_S l xs
/-- calls of built-ins -/
theorem rc_lenS (h : l.length ≤ 1000000) : RC K (fun xs H Q => ∃ z, xs = [.str z] ∧ z.length ≤ sizeLine ∧ Q (.int z.length) H) [.str l] (.int (l.length : Nat)) := fun F B as M H vs Q ow r q =>
  ⟨tx l, two_str r, by rw [tx_len]; exact Nat.le_trans h (by decide), q _ B H (Gr.refl F B) ow (by rw [tx_len] <;> rfl)⟩
theorem rc_lenL {xs : List Dt} : RC K (fun xs H Q => ∃ p ys, xs = [.ref p] ∧ (SqL K H p ys ∨ SqT K H p ys) ∧ Q (.int ys.length) H) [.lst xs] (.int (xs.length : Nat)) := fun F B as M H vs Q ow r q => by
  obtain ⟨v1, rr, e, h1, h2⟩ := r
  obtain ⟨a, us, e1, h3, h4⟩ := h1
  have h2 : rr = [] := h2
  subst h2; subst e1
  exact ⟨a, us, e, .inl (ow.bb.seq h3), q _ B H (Gr.refl F B) ow (by rw [h4.len] <;> rfl)⟩
theorem rc_lenT {xs : List Dt} : RC K (fun xs H Q => ∃ p ys, xs = [.ref p] ∧ (SqL K H p ys ∨ SqT K H p ys) ∧ Q (.int ys.length) H) [.tup xs] (.int (xs.length : Nat)) := fun F B as M H vs Q ow r q => by
  obtain ⟨v1, rr, e, h1, h2⟩ := r
  obtain ⟨a, us, e1, h3, h4⟩ := h1
  have h2 : rr = [] := h2
  subst h2; subst e1
  exact ⟨a, us, e, .inr (same_t ow.bb h3), q _ B H (Gr.refl F B) ow (by rw [h4.len] <;> rfl)⟩
theorem one_int {K : PySem.W.Frag} {B : Hp} {i : Int} {vs : List V} (h : RpL K B [.int i] vs) : vs = [.int i] := by
  obtain ⟨v, r, e, h1, h2⟩ := h
  rw [e, show v = _ from h1, show r = [] from h2]
theorem two_int {K : PySem.W.Frag} {B : Hp} {i j : Int} {vs : List V} (h : RpL K B [.int i, .int j] vs) : vs = [.int i, .int j] := by
  obtain ⟨v, r, e, h1, w, r2, e2, h2, h3⟩ := h
  rw [e, e2, show v = _ from h1, show w = _ from h2, show r2 = [] from h3]
theorem rc_int1 : RC K (fun xs H Q => (∃ i, xs = [.int i] ∧ Q (.int i) H) ∨ ∃ k, xs = [.bl k] ∧ Q (.int (if k then 1 else 0)) H) [.int i] (.int i) := fun F B as M H vs Q ow r q =>
  .inl ⟨i, one_int r, q _ B H (Gr.refl F B) ow rfl⟩
theorem rc_intB : RC K (fun xs H Q => (∃ i, xs = [.int i] ∧ Q (.int i) H) ∨ ∃ k, xs = [.bl k] ∧ Q (.int (if k then 1 else 0)) H) [.bl b] (.int (if b then 1 else 0)) := fun F B as M H vs Q ow r q =>
  .inr ⟨b, by
    obtain ⟨v, r, e, h1, h2⟩ := r
    rw [e, show v = _ from h1, show r = [] from h2], q _ B H (Gr.refl F B) ow rfl⟩
theorem rc_abs : RC K (fun xs H Q => ∃ i, xs = [.int i] ∧ Q (.int (if i < 0 then -i else i)) H) [.int i] (.int (if i < 0 then -i else i)) := fun F B as M H vs Q ow r q => ⟨i, one_int r, q _ B H (Gr.refl F B) ow rfl⟩
theorem rc_max2 : RC K (fun xs H Q => ∃ i j, xs = [.int i, .int j] ∧ Q (.int (if j > i then j else i)) H) [.int i, .int j] (.int (if j > i then j else i)) := fun F B as M H vs Q ow r q => ⟨i, j, two_int r, q _ B H (Gr.refl F B) ow rfl⟩
theorem rc_min2 : RC K (fun xs H Q => ∃ i j, xs = [.int i, .int j] ∧ Q (.int (if j < i then j else i)) H) [.int i, .int j] (.int (if j < i then j else i)) := fun F B as M H vs Q ow r q => ⟨i, j, two_int r, q _ B H (Gr.refl F B) ow rfl⟩
theorem rc_all {bs : List Bool} : RC K (rAll K) [.lst (bs.map Dt.bl)] (.bl (bs.all id)) := fun F B as M H vs Q ow r q => by
  obtain ⟨v1, rr, e, h1, h2⟩ := r
  obtain ⟨a, us, e1, h3, h4⟩ := h1
  have e2 := h4.bls
  have h2 : rr = [] := h2
  subst h2; subst e2; subst e1
  exact ⟨a, bs, e, ow.bb.seq h3, q _ B H (Gr.refl F B) ow rfl⟩
theorem rc_any {bs : List Bool} : RC K (rAny K) [.lst (bs.map Dt.bl)] (.bl (bs.any id)) := fun F B as M H vs Q ow r q => by
  obtain ⟨v1, rr, e, h1, h2⟩ := r
  obtain ⟨a, us, e1, h3, h4⟩ := h1
  have e2 := h4.bls
  have h2 : rr = [] := h2
  subst h2; subst e2; subst e1
  exact ⟨a, bs, e, ow.bb.seq h3, q _ B H (Gr.refl F B) ow rfl⟩
/-- items -/
theorem at_rp {K : PySem.W.Frag} {B : Hp} {xs : List Dt} {vs : List V} {i : Int} (r : RpL K B xs vs) (h : atI xs i = some x) : ∃ v, atI vs i = some v ∧ Rp K B x v := by
  unfold atI at h ⊢
  rw [r.len]
  cases e : ixN xs.length i with
  | none => rw [e] at h; cases h
  | some j =>
    rw [e] at h
    exact r.get h
theorem ro_ixL {xs : List Dt} (h : atI xs i = some x) : RO K (rIxL K) (.lst xs) (.int i) x := fun F B as M H v u Q ow r1 r2 q => by
  obtain ⟨a, us, e1, h3, h4⟩ := r1
  obtain ⟨w, hw, hr⟩ := at_rp h4 h
  exact ⟨a, us, i, w, e1, r2, ow.bb.seq h3, hw, q w B H (Gr.refl F B) ow hr⟩
theorem ro_ixT {xs : List Dt} (h : atI xs i = some x) : RO K (rIxT K) (.tup xs) (.int i) x := fun F B as M H v u Q ow r1 r2 q => by
  obtain ⟨a, us, e1, h3, h4⟩ := r1
  obtain ⟨w, hw, hr⟩ := at_rp h4 h
  exact ⟨a, us, i, w, e1, r2, same_t ow.bb h3, hw, q w B H (Gr.refl F B) ow hr⟩
theorem ro_ixS {c : Nat} (hl : l.length ≤ 1000000) (h : atI l i = some c) : RO K rIxS (.str l) (.int i) (.str [c]) := fun F B as M H v u Q ow r1 r2 q =>
  ⟨tx l, i, c, r1, r2, by rw [tx_len]; exact Nat.le_trans hl (by decide), h, q _ B H (Gr.refl F B) ow rfl⟩
/-- of what is owned -/
theorem ev_ixO {k : Nat} {xs : List Dt} (ha : EvE K ta G M (.o k) M1) (hb : EvE K tb G M1 (.d (.int i)) M2) (hm : M2[k]? = some (.lst xs)) (h : atI xs i = some x) : EvE K (tOp (rIxL K) ta tb) G M (.d x) M2 := fun F B as σ H ow sl Q q =>
  ha F B as σ H ow sl _ fun v B1 as1 H1 g1 p1 o1 r1 => hb F B1 as1 σ H1 o1 (sl.mono g1.1 p1) _ fun u B2 as2 H2 g2 p2 o2 r2 => by
    obtain ⟨a, ha, rfl⟩ := r1
    obtain ⟨_, _, vs, hv, hr⟩ := o2.own k a _ (p2.get ha) hm (fun z => nomatch z)
    obtain ⟨w, hw, hx⟩ := at_rp hr h
    exact ⟨a, vs, i, w, rfl, r2, .inl (.inl hv), hw, q w B2 as2 H2 (g1.trans g2) (p1.trans p2) o2 hx⟩
theorem ev_lenO {k : Nat} {xs : List Dt} (ha : EvE K ta G M (.o k) M1) (hm : M1[k]? = some (.lst xs)) : EvE K (tCB (fun xs H Q => ∃ p ys, xs = [.ref p] ∧ (SqL K H p ys ∨ SqT K H p ys) ∧ Q (.int ys.length) H) (tCons ta tNil)) G M (.d (.int (xs.length : Nat))) M1 := fun F B as σ H ow sl Q q =>
  ha F B as σ H ow sl _ fun v B1 as1 H1 g1 p1 o1 r1 => by
    obtain ⟨a, ha, rfl⟩ := r1
    obtain ⟨_, _, vs, hv, hr⟩ := o1.own k a _ ha hm (fun z => nomatch z)
    exact ⟨a, vs, rfl, .inl (.inl (.inl hv)), q _ B1 as1 H1 g1 p1 o1 (by rw [hr.len] <;> rfl)⟩
theorem es_setO {to ti : TE} {k j : Nat} {xs : List Dt} (h : EvE K te G M (.d x) M1) (ho : EvE K to G M1 (.o k) M2) (hi : EvE K ti G M2 (.d (.int i)) M3) (hm : M3[k]? = some (.lst xs)) (hj : ixN xs.length i = some j) :
    EvS K (tAsg te (gSub to ti rSetL)) G M (.nx G (M3.set k (.lst (xs.set j x)))) := fun F B as σ H ow sl D gd =>
  h F B as σ H ow sl _ fun v B1 as1 H1 g1 p1 o1 r1 => ho F B1 as1 σ H1 o1 (sl.mono g1.1 p1) _ fun w B2 as2 H2 g2 p2 o2 r2 => hi F B2 as2 σ H2 o2 ((sl.mono g1.1 p1).mono g2.1 p2) _ fun u B3 as3 H3 g3 p3 o3 r3 => by
    obtain ⟨a, ha, rfl⟩ := r2
    have ha := p3.get ha
    obtain ⟨_, _, vs, hv, hr⟩ := o3.own k a _ ha hm (fun z => nomatch z)
    refine ⟨a, vs, i, j, rfl, r3, hv, by rw [hr.len]; exact hj, gd B3 as3 σ _ (g1.trans (g2.trans g3)) (p1.trans (p2.trans p3)) (o3.put ha hm (fun z => nomatch z) ⟨_, upd_same, RpL.set (Rp.mono (g2.1.trans g3.1) _ _ r1) j hr⟩) (((sl.mono g1.1 p1).mono g2.1 p2).mono g3.1 p3)⟩
theorem es_appO {to : TE} {k : Nat} {xs : List Dt} (ho : EvE K to G M (.o k) M1) (h : EvE K te G M1 (.d x) M2) (hk : ∃ ys, M1[k]? = some (.lst ys)) (hm : M2[k]? = some (.lst xs)) (hz : xs.length < 1000000) :
    EvS K (tDrop (tBM K "list" rAppend to (tCons te tNil))) G M (.nx G (M2.set k (.lst (xs ++ [x])))) := fun F B as σ H ow sl D gd =>
  ho F B as σ H ow sl _ fun w B1 as1 H1 g1 p1 o1 r1 => by
    obtain ⟨a, ha, rfl⟩ := r1
    obtain ⟨ys, hy⟩ := hk
    obtain ⟨_, _, vs1, hv1, _⟩ := o1.own k a _ ha hy (fun z => nomatch z)
    refine ⟨.inl ⟨rfl, vs1, .inl (.inl hv1)⟩, h F B1 as1 σ H1 o1 (sl.mono g1.1 p1) _ fun v B2 as2 H2 g2 p2 o2 r2 => ?_⟩
    have ha := p2.get ha
    obtain ⟨_, _, vs, hv, hr⟩ := o2.own k a _ ha hm (fun z => nomatch z)
    refine ⟨a, vs, v, rfl, rfl, hv, by rw [hr.len]; exact Nat.lt_trans hz (by decide), gd B2 as2 σ _ (g1.trans g2) (p1.trans p2) (o2.put ha hm (fun z => nomatch z) ⟨_, upd_same, RpL.append hr (RpL.one r2)⟩) ((sl.mono g1.1 p1).mono g2.1 p2)⟩
end
end DJ
namespace DJ
open PySem PySem.Spec PyProof.Rows L2
/-! ### defs of the text, what they promise -/
structure Df (K : PySem.W.Frag) (mg : Str → Option Value) (x : Str) (st : Stmt) (ps : List Str) : Prop where
  ex : ∃ (f : Addr) (fd : FuncData), L2.Fun K x x st f fd ∧ mg x = some (.ref f) ∧ Binds K fd ps []
structure Cal (P : Program) (w : World) (K : PySem.W.Frag) (mg : Str → Option Value) (base : Heap) (k : Nat) (x : Str) (sp : Sp) (dvs : List V) : Prop where
  ex : ∃ (f : Addr) (fd : FuncData) (ps : List Str) (ds : List Value), FnOk P w K mg base CX0 k f fd ps sp ∧ mg x = some (.ref f) ∧ PySem.W.keepIn K (.ref f) = true ∧ Binds K fd ps ds ∧ Vals dvs ds
/-- a module's constant -/
structure Gc (K : PySem.W.Frag) (mg : Str → Option Value) (x : Str) (d : Dt) : Prop where
  ex : ∃ (v : V) (u : Value), mg x = some u ∧ RelV v u ∧ ∀ B, Rp K B d v
section
variable {P : Program} {w : World} {K : PySem.W.Frag} {mg : Str → Option Value} {base : Heap}
theorem cal_mk {x : Str} {st : Stmt} {N ps : List Str} {k n : Nat} {R : List Sl → List MO → Sl → List MO → Prop} (D : Df K mg x st ps) (S : FnScope N ps (defScope st)) (hn : ps.length = n)
    (hb : ∀ (f : Addr) (cdv : Value) (A : Around) (outer : List Env) (s : Shared) (H : Hp) (E : XK), Room k (A.deeper (envOfC x (defScope st) s.heap.objs.size f cdv)) → ∀ ss M r M', R ss M r M' →
      ∃ t X, PSs (cxOf CX0 P w K mg base N x (defScope st) f cdv A outer s H E).nox (defBody st) t ∧ EvS K t (start N.length ss) M (.rt r (M' ++ X)) ∧ M.length ≤ M'.length ∧ ∀ j, r = .o j → j < M'.length) :
    Cal P w K mg base (k + 1) x (SpR K n R) [] := by
  obtain ⟨f, fd, F, hm, b⟩ := D.ex
  refine ⟨f, fd, ps, [], F.ok S (fun vs H Q E h => ?_) (fun cdv A outer s H vs Q E hr h => ?_), hm, F.kp, b, .nil⟩
  · obtain ⟨_, _, _, _, _, _, _, _, _, _, e, _⟩ := h
    rw [e, hn]
  · obtain ⟨F', B, as, ss, M, r, M', hR, ow, sl, _, q⟩ := h
    obtain ⟨t, X, ht, he, hl, hr'⟩ := hb f cdv A outer s H E hr ss M r M' hR
    exact ⟨t, ht, run_body (X := X) he hl hr' ow sl q⟩
/-- .. of a body that comes to its end, or where a token must be out -/
theorem cal_mkN {x : Str} {st : Stmt} {N ps : List Str} {k n : Nat} {R : List Sl → List MO → Sl → List MO → Prop} (D : Df K mg x st ps) (S : FnScope N ps (defScope st)) (hn : ps.length = n)
    (hb : ∀ (f : Addr) (cdv : Value) (A : Around) (outer : List Env) (s : Shared) (H : Hp) (E : XK), Room k (A.deeper (envOfC x (defScope st) s.heap.objs.size f cdv)) → ∀ ss M r M', R ss M r M' →
      ∃ t X G1, PSs (cxOf CX0 P w K mg base N x (defScope st) f cdv A outer s H E).nox (defBody st) t ∧ EvS K t (start N.length ss) M (.nx G1 (M' ++ X)) ∧ M.length ≤ M'.length ∧ r = .d .non) :
    Cal P w K mg base (k + 1) x (SpR K n R) [] := by
  obtain ⟨f, fd, F, hm, b⟩ := D.ex
  refine ⟨f, fd, ps, [], F.ok S (fun vs H Q E h => ?_) (fun cdv A outer s H vs Q E hr h => ?_), hm, F.kp, b, .nil⟩
  · obtain ⟨_, _, _, _, _, _, _, _, _, _, e, _⟩ := h
    rw [e, hn]
  · obtain ⟨F', B, as, ss, M, r, M', hR, ow, sl, _, q⟩ := h
    obtain ⟨t, X, G1, ht, he, hl, hr'⟩ := hb f cdv A outer s H E hr ss M r M' hR
    subst hr'
    exact ⟨t, ht, run_bodyN (X := X) he hl ow sl q⟩
theorem cal_mkT {x : Str} {st : Stmt} {N ps : List Str} {k n : Nat} {R : List Sl → List MO → Sl → List MO → Prop} (D : Df K mg x st ps) (S : FnScope N ps (defScope st)) (hn : ps.length = n) (hnc : ∀ y ∈ (defScope st).names, y.2 ≠ .cell) (h1 : 1 ≤ ps.length)
    (hb : ∀ (f : Addr) (cdv : Value) (A : Around) (outer : List Env) (s : Shared) (H : Hp) (E : XK), Room k (A.deeper (envOfC x (defScope st) s.heap.objs.size f cdv)) → ∀ ss M r M', R ss M r M' →
      ∃ t X, PSsT (cxOf CX0 P w K mg base N x (defScope st) f cdv A outer s H E) (defBody st) t ∧ EvS K t (start N.length ss) M (.rt r (M' ++ X)) ∧ M.length ≤ M'.length ∧ ∀ j, r = .o j → j < M'.length) :
    Cal P w K mg base (k + 1) x (SpR K n R) [] := by
  obtain ⟨f, fd, F, hm, b⟩ := D.ex
  obtain ⟨oc, od, kV, doc, pm, an, cdv, ct, osl, rfl, lk, hcd⟩ := F.ex
  refine ⟨f, _, ps, [], fn_ofT lk hcd S hnc h1 (fun vs H Q E h => ?_) (fun A outer s H vs Q E hr h => ?_), hm, F.kp, b, .nil⟩
  · obtain ⟨_, _, _, _, _, _, _, _, _, _, e, _⟩ := h
    rw [e, hn]
  · obtain ⟨F', B, as, ss, M, r, M', hR, ow, sl, _, q⟩ := h
    obtain ⟨t, X, ht, he, hl, hr'⟩ := hb f cdv A outer s H E hr ss M r M' hR
    exact ⟨t, ht, run_body (X := X) he hl hr' ow sl q⟩
end
section
variable {X : Cx} {k j : Nat} {x : Str} {sp : Sp} {dvs : List V} {p pos apos : Pos} {e o : Expr} {es : List Expr} {ta te to : TE} {t : TA}
theorem pe_c (c : Cal X.prog X.w X.K X.mg X.base k x sp dvs) (hr : Room j X.A) (hk : k ≤ j) (hg : Gl X x) (ha : PA X (e :: es) t)
    (hdb : (x == ("__debug__" : Str)) = false := by decide) (he : starEach (e :: es) X.env = (false, eval e X.env) :: starEach es X.env := by rfl) (hpl : (backTo pos (starEach es X.env)).any (·.1) = false := by rfl) :
    PE X (.Call (.Name x p) (e :: es) [] pos) (tCall sp dvs L2.E0 t) := by
  obtain ⟨f, fd, ps, ds, F, hm, kp, b, d⟩ := c.ex
  exact pe_call F (hr.mono hk) hg hm kp b d L2.pass0 ha hdb he hpl
theorem pe_c0 (c : Cal X.prog X.w X.K X.mg X.base k x sp dvs) (hr : Room j X.A) (hk : k ≤ j) (hg : Gl X x) (hdb : (x == ("__debug__" : Str)) = false := by decide) : PE X (.Call (.Name x p) [] [] pos) (tCall sp dvs L2.E0 tNil) := by
  obtain ⟨f, fd, ps, ds, F, hm, kp, b, d⟩ := c.ex
  exact pe_call0 F (hr.mono hk) hg hm kp b d L2.pass0 hdb
/-- a token is out: e.replace(y, z), and what stands around it -/
theorem pet_m1 {id : String} {name : Str} {r : V → List V → Hp → VK → Prop} (slot : Slot "str" name id) (ty : typeOf (.builtin id) = pure (.type "method_descriptor")) (rule : MtR X id r) (ho : PET X o to) (he : PE X e te)
    (hs : starEach [e] X.env = [(false, eval e X.env)] := by rfl) (hbase : attributeBase o name X.env (eval o X.env) = eval o X.env := by rfl) (hline : (apos.endLine == pos.line) = true := by rfl) :
    PET X (.Call (.Attribute o name apos) [e] [] pos) (tM1 r to te) := by
  intro pins s σ H Q h0 I h
  refine PySem.Call_method1 hbase hs hline (thn (ho pins s σ H _ h0 I h) fun v s1 ⟨x, H1, I1, r1, q1⟩ => ?_)
  obtain ⟨⟨a, rfl⟩, q1⟩ := q1
  obtain ⟨t, rfl⟩ := _root_.id r1
  refine ⟨"str", _, F.plainAttrs_str, slot, ty, typeIs_str _ _ _, (fun _ e => nomatch e), Calls.callWith_builtin rfl (Calls.evalArgs_plain (Calls.spliced_cons ?_))⟩
  exact thn (he.run pins s1 σ H1 _ I1 q1) fun u s2 ⟨y, H2, I2, r2, q2⟩ => Calls.spliced_nil (rule pins s2 σ H2 _ [y] _ [u] Q I2 r1 (.cons r2 .nil) q2)
theorem pst_asg {target : Expr} {g : TG} (he : PET X e te) (hg : PG X target g) (hs : swapsWithSole [target] e pos.line X.env = pure false := by rfl) (hw : swappedStores [target] e X.env = pure none := by rfl)
    (h1 : (assignEach [target] X.env).map (·.2) = [assign target X.env] := by rfl) : PST X (.Assign [target] e pos) (tAsg te g) := fun pins s σ H D h0 I h =>
  wpAny_Assign_stores (thn (he pins s σ H _ h0 I h) fun v s1 ⟨x, H1, I1, r1, q1⟩ => by
    rw [h1]
    exact thn (hg.run pins s1 σ H1 x v _ I1 r1 q1) fun _ s2 q => q) hs hw
end
/-! ### comprehensions of typed things -/
theorem mapS_map {β : Type} (f : β → Dt) : ∀ (xs : List β) (m : Unit), (mapS (fun (_ : Unit) x => some (f x, ())) (fun m _ => m) xs m).1 = xs.map f
  | [], _ => rfl
  | x :: xs, m => by
    simp only [mapS, List.map_cons]
    rw [mapS_map f xs]
theorem mapS_filter {β : Type} (p : β → Bool) (f : β → Dt) : ∀ (xs : List β) (m : Unit), (mapS (fun (_ : Unit) x => if p x = true then some (f x, ()) else none) (fun m _ => m) xs m).1 = (xs.filter p).map f
  | [], _ => rfl
  | x :: xs, m => by
    simp only [mapS]
    cases h : p x with
    | true => simp [h, mapS_filter p f xs]
    | false => simp [h, mapS_filter p f xs]
/-- a mapping that hands a state on -/
def mapA {μ β γ : Type} (f : μ → β → γ × μ) : List β → μ → List γ × μ
  | [], m => ([], m)
  | x :: xs, m => ((f m x).1 :: (mapA f xs (f m x).2).1, (mapA f xs (f m x).2).2)
theorem mapS_acc {μ β γ : Type} (en : γ → Dt) (f : μ → β → γ × μ) : ∀ (xs : List β) (m : μ), mapS (fun m x => some (en (f m x).1, (f m x).2)) (fun m _ => m) xs m = ((mapA f xs m).1.map en, (mapA f xs m).2)
  | [], _ => rfl
  | x :: xs, m => by
    simp only [mapS, mapA, List.map_cons]
    rw [mapS_acc en f xs]
section
variable {K : PySem.W.Frag} {G G1 : List (Option Sl)} {M : List MO} {te : TE}
theorem et_yes : EvT K tYes G M true M := fun F B as σ H ow sl Q q => q B as H (Gr.refl F B) (Px.refl as) ow
theorem ev_lcM {β : Type} {wi : TI} {g : TG} {vs : List Nat} (xs : List β) (en f : β → Dt) (hI : EvI K wi G M (xs.map en) M) (hx : xs.length ≤ 100000)
    (hw : ∀ v σ H Q, g v (wipe σ vs) H (fun σ2 H2 => wipe σ2 vs = wipe σ vs → Q σ2 H2) → g v (wipe σ vs) H Q) (turn : ∀ x, x ∈ xs → ∃ G1, EvG K g (wipeG G vs) (.d (en x)) G1 ∧ EvE K te G1 M (.d (f x)) M) :
    EvE K (tLc wi g tYes te vs) G M (.d (.lst (xs.map f))) M := by
  rw [← mapS_map f xs ()]
  exact ev_lc xs en (fun _ => M) (fun (_ : Unit) x => some (f x, ())) (fun m _ => m) () hI hx hw fun m x hm => by
    obtain ⟨G1, h1, h2⟩ := turn x hm
    exact ⟨G1, h1, M, et_yes, h2⟩
theorem ev_lcF {β : Type} {wi : TI} {g : TG} {tt : TT} {vs : List Nat} (xs : List β) (en f : β → Dt) (p : β → Bool) (hI : EvI K wi G M (xs.map en) M) (hx : xs.length ≤ 100000)
    (hw : ∀ v σ H Q, g v (wipe σ vs) H (fun σ2 H2 => wipe σ2 vs = wipe σ vs → Q σ2 H2) → g v (wipe σ vs) H Q) (turn : ∀ x, x ∈ xs → ∃ G1, EvG K g (wipeG G vs) (.d (en x)) G1 ∧ EvT K tt G1 M (p x) M ∧ (p x = true → EvE K te G1 M (.d (f x)) M)) :
    EvE K (tLc wi g tt te vs) G M (.d (.lst ((xs.filter p).map f))) M := by
  rw [← mapS_filter p f xs ()]
  exact ev_lc xs en (fun _ => M) (fun (_ : Unit) x => if p x = true then some (f x, ()) else none) (fun m _ => m) () hI hx hw fun m x hm => by
    obtain ⟨G1, h1, h2, h3⟩ := turn x hm
    refine ⟨G1, h1, ?_⟩
    cases e : p x with
    | true => rw [e] at h2; exact ⟨M, h2, h3 e⟩
    | false => rw [e] at h2; exact h2
theorem ev_lcA {μ β γ : Type} {wi : TI} {g : TG} {vs : List Nat} (xs : List β) (en : β → Dt) (ec : γ → Dt) (encM : μ → List MO) (f : μ → β → γ × μ) (m0 : μ) (hI : EvI K wi G M (xs.map en) (encM m0)) (hx : xs.length ≤ 100000)
    (hw : ∀ v σ H Q, g v (wipe σ vs) H (fun σ2 H2 => wipe σ2 vs = wipe σ vs → Q σ2 H2) → g v (wipe σ vs) H Q) (turn : ∀ m x, x ∈ xs → ∃ G1, EvG K g (wipeG G vs) (.d (en x)) G1 ∧ EvE K te G1 (encM m) (.d (ec (f m x).1)) (encM (f m x).2)) :
    EvE K (tLc wi g tYes te vs) G M (.d (.lst ((mapA f xs m0).1.map ec))) (encM (mapA f xs m0).2) := by
  have h := ev_lc (te := te) xs en encM (fun m x => some (ec (f m x).1, (f m x).2)) (fun m _ => m) m0 hI hx hw fun m x hm => by
    obtain ⟨G1, h1, h2⟩ := turn m x hm
    exact ⟨G1, h1, encM m, et_yes, h2⟩
  rw [mapS_acc] at h
  exact h
end
/-! ### walks by a step, truth of numbers -/
section
variable {K : PySem.W.Frag} {B : Hp} {G G1 : List (Option Sl)} {M M1 M2 : List MO} {te ta tb : TE} {i j : Int} {l m : List Nat} {b : Bool} {x z : Dt}
theorem yl_step {lo c : Int} {n : Nat} : Yl K B (Itc lo c n) ((List.range n).map fun (i : Nat) => .int (lo + (i : Nat) * c)) := fun F B' as M H i e ow => by
  refine ⟨fun x hx => ?_, fun hi => ?_⟩
  · rw [List.getElem?_map] at hx
    by_cases hi : i < n
    · rw [List.getElem?_range hi] at hx
      have hx : Dt.int (lo + (i : Nat) * c) = x := Option.some.inj hx
      subst hx
      refine ⟨hi, fun v H' y => ?_⟩
      obtain ⟨rfl, rfl⟩ := y
      exact ⟨B', Gr.refl F B', ow, rfl⟩
    · rw [List.getElem?_eq_none (by rw [List.length_range]; omega)] at hx
      cases hx
  · rw [List.length_map, List.length_range] at hi
    exact hi
theorem ei_rng3 {t : TA} {c : Int} {n : Nat} (h : EvA K t G M [.d (.int i), .d (.int j), .d (.int c)] M1) (hn : RgC i j c n) : EvI K (iRng3 t) G M ((List.range n).map fun (k : Nat) => .int (i + (k : Nat) * c)) M1 := fun F B as σ H ow sl R q =>
  h F B as σ H ow sl _ fun vs B' as' H' g p o' r => by
    obtain ⟨v, r1, e1, h1, w, r2, e2, h2, u, r3, e3, h3, e4⟩ := r
    have e4 : r3 = [] := e4
    have h1 : v = V.int i := h1
    have h2 : w = V.int j := h2
    have h3 : u = V.int c := h3
    subst e4; subst e3; subst e2; subst e1; subst h1; subst h2; subst h3
    exact ⟨i, j, c, n, rfl, hn, q _ B' as' H' g p o' yl_step⟩
theorem et_int (h : EvE K te G M (.d (.int i)) M1) : EvT K (fun σ H Q => te σ H fun x H' => ∃ k, TruV K x H' k ∧ Q k H') G M (i != 0) M1 := fun F B as σ H ow sl Q q =>
  h F B as σ H ow sl _ fun v B1 as1 H1 g p o r => by
    have r : v = .int i := r
    subst r
    exact ⟨_, rfl, q B1 as1 H1 g p o⟩
/-- numbers and texts -/
theorem rc_str (h : i.natAbs.log2 < 1920) (h0 : 0 ≤ i) : RC K (fun xs H Q => ∃ i, xs = [.int i] ∧ i.natAbs.log2 < 1920 ∧ Q (.str (toString i)) H) [.int i] (.str (TL.numL i.toNat)) := fun F B as M H vs Q ow r q =>
  ⟨i, one_int r, h, q _ B H (Gr.refl F B) ow (by
    obtain ⟨n, rfl⟩ := Int.eq_ofNat_of_zero_le h0
    show V.str _ = V.str _
    congr 1
    exact SX.num_S n)⟩
/-- noughts ahead -/
def zfillL (n : Nat) (l : List Nat) : List Nat := List.replicate (n - l.length) 48 ++ l
theorem rm_zfill {n : Nat} (hn : n ≤ 1000000) (h0 : l[0]? ≠ some 43) (h1 : l[0]? ≠ some 45) : RM K (fun x xs H Q => ∃ (a : Str) (i : Int), x = .str a ∧ xs = [.int i] ∧ PadOk i = true ∧ Q (.str (Txt.zfill a i)) H) (.str l) [.int (n : Int)] (.str (zfillL n l)) := fun F B as M H v vs Q ow r1 r2 q => by
  refine ⟨tx l, n, r1, one_int r2, ?_, q _ B H (Gr.refl F B) ow ?_⟩
  · unfold PadOk Builtin.Str.tooLong
    have e1 : PySem.fitsSsize (n : Int) = true := by
      unfold PySem.fitsSsize
      rw [Bool.not_eq_true']
      refine Bool.or_eq_false_iff.mpr ⟨decide_eq_false (by omega), decide_eq_false (by omega)⟩
    rw [e1, Bool.true_and, Bool.not_eq_true']
    refine decide_eq_false ?_
    show ¬ (n : Int).toNat > 2 ^ 24
    rw [Int.toNat_natCast]
    omega
  · show V.str _ = V.str _
    congr 1
    unfold Txt.zfill zfillL
    rw [tx_len]
    by_cases h : (n : Int) ≤ l.length
    · rw [if_pos h, show n - l.length = 0 by omega]
      rfl
    · rw [if_neg h]
      have e : (tx l).cps[0]? = l[0]? := by rw [show (tx l).cps = l.toArray from rfl, List.getElem?_toArray]
      have e2 : zfilled (tx l) ((n : Int).toNat - l.length) = Builtin.Str.padded (tx l) ((n : Int).toNat - l.length) 0 48 := by
        unfold zfilled
        rw [e]
        split
        · rename_i c; exact absurd c h0
        · rename_i c; exact absurd c h1
        · rfl
      rw [e2, Int.toNat_natCast]
      refine TL.ext_tl ?_
      show (Array.replicate (n - l.length) 48 ++ l.toArray ++ Array.replicate 0 48).toList = _
      simp
theorem rc_divmod (h0 : 0 < j) (h1 : j.natAbs.log2 < 9000) : RC K (fun xs H Q => ∃ i j, xs = [.int i, .int j] ∧ CDivP i j ∧ ∀ p, H p = none → Q (.ref p) (upd H p (.tup [.int (i / j), .int (i % j)]))) [.int i, .int j] (.tup [.int (i / j), .int (i % j)]) := fun F B as M H vs Q ow r q =>
  ⟨i, j, two_int r, ⟨h0, by
    unfold Builtin.divisionGoesByPylong
    have e : ((if (j == 0) = true then 0 else j.natAbs.log2 / 30 + 1) > 300) = False := by
      rw [if_neg (by simpa using (show j ≠ 0 by omega))]
      exact eq_false (by omega)
    simp only [e, decide_false, Bool.false_and]⟩, fun p hp => q _ _ _ (ow.gr hp _) (ow.new hp _) ⟨p, _, rfl, .inl (.inl upd_same), _, _, rfl, rfl, _, _, rfl, rfl, rfl⟩⟩
theorem rc_intS (h : l.all (fun c => decide (48 ≤ c) && decide (c ≤ 57)) = true) (hne : l ≠ []) (hl : l.length ≤ 640) : RC K (fun xs H Q => ∃ a n, xs = [.str a] ∧ PySem.intText? a = some n ∧ a.length ≤ 640 ∧ Q (.int n) H) [.str l] (.int ((NumText.digitsVal l : Nat) : Int)) := fun F B as M H vs Q ow r q =>
  ⟨tx l, _, two_str r, SX.int_S h hne (by omega), by rw [tx_len]; exact hl, q _ B H (Gr.refl F B) ow rfl⟩
theorem ev_revO {k : Nat} {xs : List Dt} (h : EvE K te G M (.o k) M1) (hm : M1[k]? = some (.lst xs)) : EvE K (tRevL K te) G M (.d (.lst xs.reverse)) M1 := fun F B as σ H ow sl Q q =>
  h F B as σ H ow sl _ fun v B1 as1 H1 g1 p1 o1 r1 => by
    obtain ⟨a, ha, rfl⟩ := r1
    obtain ⟨_, _, vs, hv, hr⟩ := o1.own k a _ ha hm (fun z => nomatch z)
    refine ⟨a, vs, rfl, .inl (.inl hv), fun p hp => ?_⟩
    have g2 := o1.gr hp (.lst vs.reverse)
    exact q _ _ as1 _ (g1.trans g2) p1 (o1.new hp _) ⟨p, vs.reverse, rfl, .inl (.inl upd_same), RpL.mono g2.1 _ _ hr.reverse⟩
theorem ev_repl {y z : List Nat} {ys zs : Str} (h : EvE K te G M (.d (.str l)) M1) (hy : ys = tx y) (hz : zs = tx z) (h1 : 1 ≤ y.length) (hl : l.length + (l.length + 1) * z.length ≤ 1000000) : EvE K (CwR.tReplC te ys zs) G M (.d (.str (StrLaws.replL y z l))) M1 := fun F B as σ H ow sl Q q =>
  h F B as σ H ow sl _ fun v B1 as1 H1 g1 p1 o1 r1 => ⟨tx l, r1, by rw [hz, tx_len, tx_len]; exact Nat.le_trans hl (by decide), q _ B1 as1 H1 g1 p1 o1 (by rw [hy, hz, repl_tx l y z h1] <;> rfl)⟩
end
end DJ
namespace DJ
open PySem PySem.Spec PyProof.Rows L2
section
variable {K : PySem.W.Frag} {G G1 G2 : List (Option Sl)} {M M1 M2 M3 : List MO} {s r : Sl} {ta tb te : TE} {tt : TT} {t u w : TS} {x y z : Dt} {b : Bool} {i j : Int} {l m : List Nat} {o : Out}
theorem es_retD (h : EvE K te G M (.d x) M1) (e : x = y) : EvS K (tRet te) G M (.rt (.d y) M1) := es_ret (ev_isD h e)
/-- an if that hands back, then the rest -/
theorem es_guard (h : EvT K tt G M b M1) (h1 : b = true → EvS K t G M1 (.rt r M2)) (h2 : b = false → EvS K u G M1 (.rt r M2)) : EvS K (tSeq (tIfS tt t tNext) u) G M (.rt r M2) := fun F B as σ H ow sl D gd =>
  h F B as σ H ow sl _ fun B' as' H' g p o' => by
    cases b with
    | true => exact h1 rfl F B' as' σ H' o' (sl.mono g.1 p) { D with nx := u D } (gd.later g p)
    | false => exact h2 rfl F B' as' σ H' o' (sl.mono g.1 p) D (gd.later g p)
/-- .. where both ends are any -/
theorem es_split (h : EvT K tt G M b M1) (h1 : b = true → EvS K (tSeq t u) G M1 o) (h2 : b = false → EvS K (tSeq w u) G M1 o) : EvS K (tSeq (tIfS tt t w) u) G M o := fun F B as σ H ow sl D gd =>
  h F B as σ H ow sl _ fun B' as' H' g p o' => by
    cases b with
    | true => exact h1 rfl F B' as' σ H' o' (sl.mono g.1 p) D (gd.later g p)
    | false => exact h2 rfl F B' as' σ H' o' (sl.mono g.1 p) D (gd.later g p)
theorem es_nextR (h : EvS K u G M o) : EvS K (tSeq tNext u) G M o := h
/-- an if that can't be taken -/
theorem es_pass (h : EvT K tt G M false M1) (h2 : EvS K u G M1 o) : EvS K (tSeq (tIfS tt t tNext) u) G M o := fun F B as σ H ow sl D gd =>
  h F B as σ H ow sl _ fun B' as' H' g p o' => h2 F B' as' σ H' o' (sl.mono g.1 p) D (gd.later g p)
theorem es_nG {G' : List (Option Sl)} (e : G = G') (h : EvS K t G' M o) : EvS K t G M o := e ▸ h
theorem es_never (h : False) : EvS K t G M o := h.elim
theorem ev_iteS (h : EvT K tt G M b M1) (h1 : b = true → EvE K ta G M1 (.d (.str l)) M2) (h2 : b = false → EvE K tb G M1 (.d (.str m)) M2) : EvE K (tIf tt ta tb) G M (.d (.str (if b = true then l else m))) M2 :=
  ev_if h (fun e => by rw [if_pos e]; exact h1 e) (fun e => by rw [if_neg (by rw [e]; exact Bool.false_ne_true)]; exact h2 e)
theorem ev_iteI (h : EvT K tt G M b M1) (h1 : b = true → EvE K ta G M1 (.d (.int i)) M2) (h2 : b = false → EvE K tb G M1 (.d (.int j)) M2) : EvE K (tIf tt ta tb) G M (.d (.int (if b = true then i else j))) M2 :=
  ev_if h (fun e => by rw [if_pos e]; exact h1 e) (fun e => by rw [if_neg (by rw [e]; exact Bool.false_ne_true)]; exact h2 e)
/-- if c: x = e -/
theorem es_ifI {n : Nat} (h : EvT K tt G M b M1) (h1 : b = true → EvE K te G M1 (.d (.int i)) M1) (hj : G[n]? = some (some (.d (.int j)))) : EvS K (tIfS tt (tAsg te (gName n)) tNext) G M (.nx (G.set n (some (.d (.int (if b = true then i else j))))) M1) :=
  es_if h (fun e => by rw [if_pos e]; exact es_asg (h1 e)) (fun e => by
    rw [if_neg (by rw [e]; exact Bool.false_ne_true)]
    refine es_nxw es_next ⟨by rw [List.length_set], fun k s q => ?_⟩
    by_cases hk : n = k
    · subst hk
      rw [List.getElem?_set_self (List.getElem?_eq_some_iff.mp hj).1] at q
      cases q
      exact hj
    · rw [List.getElem?_set_ne hk] at q
      exact q)
/-- a for that is not left, its state told by the number of turns -/
theorem es_forN {β : Type} {wi : TI} {g : TG} {tb : TS} (xs : List β) (en : β → Dt) (Gn : Nat → List (Option Sl)) (Mn : Nat → List MO) (hI : EvI K wi G M (xs.map en) (Mn 0)) (h0 : Lg G (Gn 0))
    (turn : ∀ (i : Nat) (x : β), xs[i]? = some x → ∃ G1, EvG K g (Gn i) (.d (en x)) G1 ∧ (EvS K tb G1 (Mn i) (.nx (Gn (i + 1)) (Mn (i + 1))) ∨ EvS K tb G1 (Mn i) (.ct (Gn (i + 1)) (Mn (i + 1))))) :
    EvS K (tFor wi g tb) G M (.nx (Gn xs.length) (Mn xs.length)) := fun F B as σ H ow sl D gd => by
  refine hI F B as σ H ow sl _ fun J B1 as1 H1 g1 p1 o1 yl => ?_
  refine ⟨fun i m σ' H' => ∃ B' as', m = xs.length - i ∧ i ≤ xs.length ∧ Gr F B1 B' ∧ Px as1 as' ∧ Ow K F B' as' (Mn i) H' ∧ Slt K B' as' (Gn i) σ', ⟨xs.length, B1, as1, by simp, Nat.zero_le _, Gr.refl F B1, Px.refl as1, o1, (sl.mono g1.1 p1).weak h0⟩, fun i m σ' H' w => ?_⟩
  obtain ⟨B', as', rfl, hi, g', p', o', s'⟩ := w
  obtain ⟨y1, y2⟩ := yl F B' as' (Mn i) H' i g'.1 o'
  by_cases hlt : i < xs.length
  · have hx : xs[i]? = some xs[i] := List.getElem?_eq_getElem hlt
    obtain ⟨go, yld⟩ := y1 (en xs[i]) (by rw [List.getElem?_map, hx] <;> rfl)
    refine .inr ⟨go, fun σ2 H2 => ∃ B' as', i + 1 ≤ xs.length ∧ Gr F B1 B' ∧ Px as1 as' ∧ Ow K F B' as' (Mn (i + 1)) H2 ∧ Slt K B' as' (Gn (i + 1)) σ2, fun σ2 H2 n2 => ?_, fun v H2 yv => ?_⟩
    · obtain ⟨B2, as2, q1, q3, q4, q5, q6⟩ := n2
      exact ⟨xs.length - (i + 1), by omega, B2, as2, rfl, q1, q3, q4, q5, q6⟩
    · obtain ⟨B2, g2, o2, r2⟩ := yld v H2 yv
      obtain ⟨G1, hg, ht⟩ := turn i xs[i] hx
      refine hg F B2 as' (Mn i) σ' H2 v o2 (s'.mono g2.1 (Px.refl as')) r2 _ fun B3 as3 σ3 H3 g3 p3 o3 s3 => ?_
      have gg : Gr F B1 B3 := g'.trans (g2.trans g3)
      have pp : Px as1 as3 := p'.trans p3
      rcases ht with ht | ht
      · exact ht F B3 as3 σ3 H3 o3 s3 _ fun B4 as4 σ4 H4 g4 p4 o4 s4 => ⟨B4, as4, hlt, gg.trans g4, pp.trans p4, o4, s4⟩
      · exact ht F B3 as3 σ3 H3 o3 s3 _ fun B4 as4 σ4 H4 g4 p4 o4 s4 => ⟨B4, as4, hlt, gg.trans g4, pp.trans p4, o4, s4⟩
  · have e : i = xs.length := by omega
    subst e
    exact .inl ⟨y2 (by rw [List.length_map]; exact Nat.le_refl _), gd B' as' σ' H' (g1.trans g') (p1.trans p') o' s'⟩
theorem ro_fdiv (h : CDiv i j) : RO K (rI CDiv fun i j => .int (i / j)) (.int i) (.int j) (.int (i / j)) := ro_I h fun _ _ => rfl
/-- an item of a list or a text, and its length -/
theorem ro_ixL' {xs : List Dt} (h : atI xs i = some x) : RO K (rIx K) (.lst xs) (.int i) x := fun F B as M H v u Q ow r1 r2 q => .inl (ro_ixL h F B as M H v u Q ow r1 r2 q)
theorem ro_ixS' {c : Nat} (hl : l.length ≤ 1000000) (h : atI l i = some c) : RO K (rIx K) (.str l) (.int i) (.str [c]) := fun F B as M H v u Q ow r1 r2 q => .inr (.inr (ro_ixS hl h F B as M H v u Q ow r1 r2 q))
theorem rc_lenL' {xs : List Dt} : RC K (fun xs H Q => ∃ x n, xs = [x] ∧ LenV K x H n ∧ Q (.int n) H) [.lst xs] (.int (xs.length : Nat)) := fun F B as M H vs Q ow r q => by
  obtain ⟨v1, rr, e, h1, h2⟩ := r
  obtain ⟨a, us, e1, h3, h4⟩ := h1
  have h2 : rr = [] := h2
  subst h2; subst e1
  exact ⟨.ref a, us.length, e, .inl ⟨us, ow.bb.seq h3, rfl⟩, q _ B H (Gr.refl F B) ow (by rw [h4.len] <;> rfl)⟩
theorem rc_lenS' (h : l.length ≤ 1000000) : RC K (fun xs H Q => ∃ x n, xs = [x] ∧ LenV K x H n ∧ Q (.int n) H) [.str l] (.int (l.length : Nat)) := fun F B as M H vs Q ow r q =>
  ⟨.str (tx l), (tx l).length, two_str r, ⟨by rw [tx_len]; exact Nat.le_trans h (by decide), rfl⟩, q _ B H (Gr.refl F B) ow (by rw [tx_len] <;> rfl)⟩
theorem sub_one (c : Nat) : ∀ l : List Nat, sub [c] l = decide (c ∈ l)
  | [] => rfl
  | d :: r => by
    unfold sub
    rw [sub_one c r]
    by_cases e : c = d
    · subst e
      have : pre [c] (c :: r) = true := beq_self_eq_true [c]
      rw [this]
      simp
    · have : pre [c] (d :: r) = false := TL.pre_of_head [] r (fun h => e h.symm)
      rw [this, Bool.false_or]
      simp [e]
end
end DJ
namespace DJ
open PySem PySem.Spec PyProof.Rows L2
open PySem.NumText PySem.Calls
/-! ### int(t, 8) -/
def Oct (c : Nat) : Prop := 48 ≤ c ∧ c ≤ 55
def octNum (l : List Nat) : Nat := l.foldl (fun a c => a * 8 + Hx.hv c) 0
theorem Oct.hex {c : Nat} (h : Oct c) : Hx.IsHex c := .inl ⟨h.1, by unfold Oct at h; omega⟩
theorem Oct.lt {c : Nat} (h : Oct c) : Hx.hv c < 8 := by
  unfold Oct at h
  unfold Hx.hv
  rw [if_pos (by omega)]
  omega
theorem step_oct {ds : Array Nat} {b : Bool} {c : Nat} (h : Oct c) : NumText.step 8 (ds, b) c = some (ds.push (Hx.hv c), true) := by
  have hr := (Hx.hex_rng h.hex).2.2
  unfold NumText.step
  rw [if_neg (by rw [beq_iff_eq]; exact hr)]
  rw [Hx.digit_hex h.hex]
  exact if_pos h.lt
theorem fold_oct : ∀ (cs : List Nat) (ds : Array Nat), (∀ c ∈ cs, Oct c) → cs.foldlM (NumText.step 8) (ds, true) = some (cs.foldl (fun acc c => acc.push (Hx.hv c)) ds, true)
  | [], _, _ => rfl
  | c :: cs, ds, h => by
    rw [List.foldlM_cons, step_oct (h c List.mem_cons_self)]
    exact fold_oct cs (ds.push (Hx.hv c)) fun d hd => h d (List.mem_cons_of_mem _ hd)
theorem digits_oct : ∀ {cs : List Nat}, (∀ c ∈ cs, Oct c) → cs ≠ [] → digits? 8 cs = some (cs.foldl (fun acc c => acc.push (Hx.hv c)) #[])
  | [], _, hne => absurd rfl hne
  | c :: cs, h, _ => by
    unfold digits?
    rw [List.foldlM_cons, step_oct (h c List.mem_cons_self)]
    show (cs.foldlM (NumText.step 8) ((#[] : Array Nat).push (Hx.hv c), true)).bind _ = _
    rw [fold_oct cs _ fun d hd => h d (List.mem_cons_of_mem _ hd)] <;> rfl
theorem push_oct : ∀ (cs : List Nat) (ds : Array Nat), (cs.foldl (fun acc c => acc.push (Hx.hv c)) ds).foldl (fun acc d => acc * 8 + d) 0 = cs.foldl (fun a c => a * 8 + Hx.hv c) (ds.foldl (fun acc d => acc * 8 + d) 0)
  | [], _ => rfl
  | c :: cs, ds => by
    rw [List.foldl_cons, push_oct cs (ds.push (Hx.hv c)), List.foldl_cons, Array.foldl_push]
theorem oct_cases {c : Nat} (h : Oct c) : c = 48 ∨ c = 49 ∨ c = 50 ∨ c = 51 ∨ c = 52 ∨ c = 53 ∨ c = 54 ∨ c = 55 := by
  unfold Oct at h
  omega
theorem based_oct : ∀ {cs : List Nat}, (∀ c ∈ cs, Oct c) → based 8 cs = (8, false, cs)
  | [], _ => rfl
  | [a], h => by
    rcases oct_cases (h a List.mem_cons_self) with e | e | e | e | e | e | e | e <;> subst e <;> rfl
  | a :: c :: r, h => by
    have hc := oct_cases (h c (List.mem_cons_of_mem _ List.mem_cons_self))
    rcases oct_cases (h a List.mem_cons_self) with e | e | e | e | e | e | e | e <;> subst e <;> first
      | rfl
      | (rcases hc with e | e | e | e | e | e | e | e <;> subst e <;> rfl)
theorem read_oct {cs : List Nat} (h : ∀ c ∈ cs, Oct c) (hne : cs ≠ []) : (int_private% "readNumeral") 0 8 cs = (int_private% "Numeral.value") ((octNum cs : Nat) : Int) := by
  have hr : ∀ c ∈ cs.reverse, Hx.IsHex c := fun c hc => (h c (List.mem_reverse.mp hc)).hex
  have hb : based 8 cs = (8, false, cs) := based_oct h
  refine (readNumeral_eq 0 8 cs).trans ?_
  rw [Hx.dropB fun c hc => (h c hc).hex, Hx.signH fun c hc => (h c hc).hex]
  show judge 0 false (based 8 cs).1 (based 8 cs).2.1 (digits? (based 8 cs).1 (((based 8 cs).2.2.reverse.dropWhile blank).reverse)) = _
  rw [hb]
  show judge 0 false 8 false (digits? 8 ((cs.reverse.dropWhile blank).reverse)) = _
  rw [Hx.dropB hr, List.reverse_reverse, digits_oct h hne]
  show (int_private% "Numeral.value") (((cs.foldl (fun acc c => acc.push (Hx.hv c)) (#[] : Array Nat)).foldl (fun acc d => acc * 8 + d) 0 : Nat) : Int) = _
  rw [push_oct]
  rfl
theorem gives_oct {x : PySem.Str} {u t : Tok} (hl : x.length ≤ 640) (h : ∀ c ∈ x.cps.toList, Oct c) (hne : x.cps.toList ≠ []) :
    Gives (Builtin.«int.__new__» ⟨[.type "int", .str x u, .int 8 t], []⟩) (.int ((octNum x.cps.toList : Nat) : Int)) :=
  .of_wp fun M A E s Q hQ => by
    obtain ⟨hp, g, d, tk, os⟩ := s
    have g1 := F.conv_sub_int
    have g2 := F.madeHere_int
    have g6 : typeOf (.str x u) = pure (.type "str") := rfl
    have e12 := Hx.seen_hex (x := x) fun c hc => (h c hc).hex
    have hs : (numSeenOf x).length ≤ 640 := by
      rw [e12.2, Array.length_toList]
      exact hl
    have hr : (int_private% "readNumeral") 0 8 (numSeenOf x) = (int_private% "Numeral.value") ((octNum x.cps.toList : Nat) : Int) := by
      rw [e12.2]
      exact read_oct h hne
    have ha : ((numSeenOf x).length == (numTextOf x).length) = true := by
      rw [e12.1, e12.2]
      exact beq_self_eq_true _
    have hk := Hx.Hid.mk (And.intro hs (And.intro hr ha))
    clear hs hr ha e12 hl hne h
    repeat (any_goals (first
      | assumption
      | ((with_reducible show wpAny _ _ ((int_private% "intFromText") _ _ _) _ _ _); refine Hx.wp_textB hk.out.1 hk.out.2.1 hk.out.2.2 ?_)
      | wp_step))
    all_goals first | exact ⟨_, rfl, hQ⟩ | skip
def rIntOct : List V → Hp → VK → Prop := fun xs H Q => ∃ l : List Nat, xs = [.str (SX.S l), .int 8] ∧ l ≠ [] ∧ l.length ≤ 640 ∧ (∀ c ∈ l, Oct c) ∧ Q (.int ((octNum l : Nat) : Int)) H
theorem call_int_oct {X : Cx} : CallR X (.type "int") rIntOct := by
  intro pins s σ H xs us Q I r h
  obtain ⟨l, rfl, hne, hl, hx, q⟩ := h
  obtain ⟨u, w', rfl, r1, r2⟩ := vals2 r
  obtain ⟨t1, rfl⟩ := r1
  obtain ⟨t2, rfl⟩ := r2
  exact callType_new F.called_int F.newNe_int (Hx.typeCall_int_2 _ _) (Hx.newCall_int_2 _ _) (fun obj => F.initArgs_range_2 obj _ _) F.entry_int_new (gives_oct (x := SX.S l) (by rw [SX.S_len]; exact hl) hx hne).meets
    (show (PySem.Made.int ((octNum l : Nat) : Int)).post _ s from ⟨rfl, ⟨.int ((octNum l : Nat) : Int), H, I.tok _, ⟨_, rfl⟩, q⟩⟩)
section
variable {K : PySem.W.Frag} {B : Hp} {l : List Nat}
theorem rc_intOct (hne : l ≠ []) (hl : l.length ≤ 640) (h : ∀ c ∈ l, Oct c) : RC K rIntOct [.str l, .int 8] (.int ((octNum l : Nat) : Int)) := fun F B as M H vs Q ow r q => by
  obtain ⟨v, r1, e1, h1, w, r2, e2, h2, e3⟩ := r
  have h1 : v = V.str (tx l) := h1
  have h2 : w = V.int 8 := h2
  have e3 : r2 = [] := e3
  subst e3; subst e2; subst e1; subst h1; subst h2
  exact ⟨l, rfl, hne, hl, h, q _ B H (Gr.refl F B) ow rfl⟩
theorem rc_intHex (hne : l ≠ []) (hl : l.length ≤ 640) (h : ∀ c ∈ l, Hx.IsHex c) : RC K rIntHex [.str l, .int 16] (.int ((Hx.hexNum l : Nat) : Int)) := fun F B as M H vs Q ow r q => by
  obtain ⟨v, r1, e1, h1, w, r2, e2, h2, e3⟩ := r
  have h1 : v = V.str (tx l) := h1
  have h2 : w = V.int 16 := h2
  have e3 : r2 = [] := e3
  subst e3; subst e2; subst e1; subst h1; subst h2
  exact ⟨l, rfl, hne, hl, h, q _ B H (Gr.refl F B) ow rfl⟩
end
/-- what they are worth has few figures -/
theorem hexNum_lt : ∀ (l : List Nat), (∀ c ∈ l, Hx.IsHex c) → Hx.hexNum l < 16 ^ l.length := by
  intro l
  have : ∀ (l : List Nat) (a : Nat), (∀ c ∈ l, Hx.IsHex c) → l.foldl (fun a c => a * 16 + Hx.hv c) a < (a + 1) * 16 ^ l.length := by
    intro l
    induction l with
    | nil => intro a _; simp
    | cons c l ih =>
      intro a h
      have h1 := Hx.hv_lt (h c List.mem_cons_self)
      refine Nat.lt_of_lt_of_le (ih _ fun d hd => h d (List.mem_cons_of_mem _ hd)) ?_
      rw [List.length_cons, Nat.pow_succ, Nat.mul_comm _ 16, ← Nat.mul_assoc]
      exact Nat.mul_le_mul_right _ (by dsimp only; omega)
  intro h
  have := this l 0 h
  rwa [Nat.zero_add, Nat.one_mul] at this
theorem octNum_lt : ∀ (l : List Nat), (∀ c ∈ l, Oct c) → octNum l < 8 ^ l.length := by
  intro l
  have : ∀ (l : List Nat) (a : Nat), (∀ c ∈ l, Oct c) → l.foldl (fun a c => a * 8 + Hx.hv c) a < (a + 1) * 8 ^ l.length := by
    intro l
    induction l with
    | nil => intro a _; simp
    | cons c l ih =>
      intro a h
      have h1 := (h c List.mem_cons_self).lt
      refine Nat.lt_of_lt_of_le (ih _ fun d hd => h d (List.mem_cons_of_mem _ hd)) ?_
      rw [List.length_cons, Nat.pow_succ, Nat.mul_comm _ 8, ← Nat.mul_assoc]
      exact Nat.mul_le_mul_right _ (by dsimp only; omega)
  intro h
  have := this l 0 h
  rwa [Nat.zero_add, Nat.one_mul] at this
end DJ
namespace DJ
open PySem PySem.Spec PyProof.Rows L2
theorem atI_nat {α : Type} {xs : List α} {j : Nat} (h : j < xs.length) : atI xs (j : Int) = some xs[j] := by
  have e : ixN xs.length (j : Int) = some j := by
    unfold ixN
    rw [if_pos (Int.natCast_nonneg j), if_pos (by omega), Int.toNat_natCast]
  unfold atI
  rw [e]
  exact List.getElem?_eq_getElem h
/-! ### a walk that hands back the first thing of a kind -/
def ffS {β : Type} (p : β → Bool) (f : β → Sl) (M : List MO) : Unit → β → Unit ⊕ Out := fun _ x => if p x = true then .inr (.rt (f x) M) else .inl ()
theorem ff_loop {β : Type} (p : β → Bool) (f : β → Sl) (M : List MO) : ∀ xs : List β, (∃ x, xs.find? p = some x ∧ loopF (ffS p f M) xs () = .inr (.rt (f x) M)) ∨ (xs.find? p = none ∧ loopF (ffS p f M) xs () = .inl ())
  | [] => .inr ⟨rfl, rfl⟩
  | x :: xs => by
    by_cases h : p x = true
    · have e : ffS p f M () x = .inr (.rt (f x) M) := if_pos h
      refine .inl ⟨x, List.find?_cons_of_pos h, ?_⟩
      unfold loopF
      rw [e]
    · have e : ffS p f M () x = .inl () := if_neg h
      have e2 : (x :: xs).find? p = xs.find? p := List.find?_cons_of_neg h
      have e3 : loopF (ffS p f M) (x :: xs) () = loopF (ffS p f M) xs () := by
        rw [loopF, e]
      rw [e2, e3]
      exact ff_loop p f M xs
section
variable {K : PySem.W.Frag} {G G0 : List (Option Sl)} {M : List MO} {u : TS} {r : Sl}
theorem loop_inl {α β : Type} (f : α → β → α) : ∀ (xs : List β) (a : α), loopF (fun a x => (.inl (f a x) : α ⊕ Out)) xs a = .inl (xs.foldl f a)
  | [], _ => rfl
  | x :: xs, a => loop_inl f xs (f a x)
/-- a walk that hands a state on -/
theorem es_forA {α β : Type} {wi : TI} {g : TG} {tb : TS} (xs : List β) (en : β → Dt) (enc : α → List (Option Sl)) (encM : α → List MO) (f : α → β → α) (a0 : α) (hI : EvI K wi G M (xs.map en) (encM a0)) (h0 : Lg G (enc a0))
    (turn : ∀ a x, x ∈ xs → ∃ G1, EvG K g (enc a) (.d (en x)) G1 ∧ EvS K tb G1 (encM a) (.nx (enc (f a x)) (encM (f a x)))) : EvS K (tFor wi g tb) G M (.nx (enc (xs.foldl f a0)) (encM (xs.foldl f a0))) := by
  have h := es_for (tb := tb) xs en enc encM (fun a x => .inl (f a x)) a0 hI h0 fun a x hx => by
    obtain ⟨G1, h1, h2⟩ := turn a x hx
    exact ⟨G1, h1, .inl h2⟩
  rw [loop_inl] at h
  exact h
theorem es_yes {tt : TT} {t w : TS} {b : Bool} {M1 : List MO} {o : Out} (h : EvT K tt G M b M1) (e : b = true) (h1 : EvS K t G M1 o) : EvS K (tIfS tt t w) G M o := es_if h (fun _ => h1) (fun z => by rw [e] at z; cases z)
theorem es_no {tt : TT} {t w : TS} {b : Bool} {M1 : List MO} {o : Out} (h : EvT K tt G M b M1) (e : b = false) (h1 : EvS K w G M1 o) : EvS K (tIfS tt t w) G M o := es_if h (fun z => by rw [e] at z; cases z) (fun _ => h1)
theorem es_forFind {β : Type} {wi : TI} {g : TG} {tb : TS} (xs : List β) (en : β → Dt) (p : β → Bool) (f : β → Sl) (hI : EvI K wi G M (xs.map en) M) (h0 : Lg G G0)
    (turn : ∀ x, x ∈ xs → ∃ G1, EvG K g G0 (.d (en x)) G1 ∧ (p x = true → EvS K tb G1 M (.rt (f x) M)) ∧ (p x = false → EvS K tb G1 M (.nx G0 M)))
    (hr : ∀ x, xs.find? p = some x → r = f x) (rest : xs.find? p = none → EvS K u G0 M (.rt r M)) : EvS K (tSeq (tFor wi g tb) u) G M (.rt r M) := by
  have h := es_for (α := Unit) (tb := tb) xs en (fun _ => G0) (fun _ => M) (ffS p f M) () hI h0 fun _ x hx => by
    obtain ⟨G1, h1, h2, h3⟩ := turn x hx
    refine ⟨G1, h1, ?_⟩
    cases e : p x with
    | true =>
      have e2 : ffS p f M () x = .inr (.rt (f x) M) := if_pos e
      show Turns K _ _ tb G1 M (ffS p f M () x)
      rw [e2]
      exact h2 e
    | false =>
      have e2 : ffS p f M () x = .inl () := if_neg (by rw [e]; exact Bool.false_ne_true)
      show Turns K _ _ tb G1 M (ffS p f M () x)
      rw [e2]
      exact .inl (h3 e)
  rcases ff_loop p f M xs with ⟨x, e1, e2⟩ | ⟨e1, e2⟩
  · rw [e2] at h
    rw [hr x e1]
    exact es_seqR h
  · rw [e2] at h
    exact es_seq h (rest e1)
end
end DJ
namespace DJ
open PySem PySem.Spec PyProof.Rows L2
/-! ### a display of pairs whose keys are tuples -/
abbrev KTa (H : Hp) : List (V × V) → List (List Key × V) → Prop := Paired fun p q => ∃ b, p.1 = .ref b ∧ H b = some (.tup (q.1.map kV)) ∧ p.2 = q.2
def mergeT (kvs more : List (List Key × V)) : List (List Key × V) := more.foldl (fun acc kv => putK acc kv.1 kv.2) kvs
theorem len_mergeT : ∀ (more kvs : List (List Key × V)), (mergeT kvs more).length ≤ kvs.length + more.length
  | [], kvs => Nat.le_refl _
  | p :: r, kvs => by
    have h1 := len_mergeT r (putK kvs p.1 p.2)
    have h2 := length_putK kvs p.1 p.2
    rw [List.length_cons]
    exact Nat.le_trans h1 (by omega)
theorem KT_merge {H : Hp} : ∀ {more : List (List Key × V)} {rs : List (List Key × Addr × Value)}, KT H more rs → ∀ {kvs : List (List Key × V)} {xs : List (List Key × Addr × Value)}, KT H kvs xs → KT H (mergeT kvs more) (storedAllH xs rs) := by
  intro more rs r
  induction r with
  | nil => exact fun q => q
  | @cons p q ps qs h t ih =>
    intro kvs xs r0
    obtain ⟨h1, h2, h3⟩ := h
    have e : KT H (putK kvs p.1 p.2) (storedH xs q.1 q.2.1 q.2.2) := by
      rw [← h1]
      exact r0.put p.1 h2 h3
    exact ih e
theorem carriesT {P : Program} {w : World} {H : Hp} {h : Heap} (ok : HOk P w H h) : ∀ {ps : List (V × V)} {kvs : List (List Key × V)}, KTa H ps kvs → ∀ {ws : List (Value × Value)}, VV ps ws →
    ∃ rs : List (List Key × Addr × Value), CarriesH (tupleKind (mixKind P w)) h ws rs ∧ KT H kvs rs := by
  intro ps kvs r
  induction r with
  | nil =>
    intro ws v
    cases v
    exact ⟨[], True.intro, .nil⟩
  | @cons p q ps qs hp t ih =>
    intro ws v
    cases v with
    | @cons a b as bs h1 h2 =>
      obtain ⟨rs, c, k⟩ := ih h2
      obtain ⟨x, e1, e2, e3⟩ := hp
      obtain ⟨b1, b2⟩ := b
      obtain ⟨h3, h4⟩ := h1
      have h3 : RelV p.1 b1 := h3
      have h4 : RelV p.2 b2 := h4
      rw [e1] at h3
      rw [e3] at h4
      exact ⟨(q.1, x, b2) :: rs, ⟨h3, rfl, key_of ok e2, c⟩, .cons ⟨rfl, e2, h4⟩ k⟩
def tDispT (trs : List (TE × TE)) : TE := fun σ H Q => ∀ p, H p = none → tPairs trs σ (upd H p (.dT [])) fun ps H2 => H2 p = some (.dT []) ∧ ∃ kvs : List (List Key × V), KTa H2 ps kvs ∧ kvs.length ≤ 15 ∧ Q (.ref p) (upd H2 p (.dT (mergeT [] kvs)))
theorem pe_dispT {X : Cx} {pos : Pos} {keys : List (Option Expr)} {values : List Expr} {trs : List (TE × TE)} (h : PPs X pos keys values trs) (hu : X.A.units + 1 < cLine) (hall : keys.all (·.isSome) = true) (hl : keys.length = values.length) (h0 : keys ≠ [])
    (h15 : keys.length ≤ 15) : PE X (.Dict keys values pos) (tDispT trs) := by
  refine ⟨fun pins s σ H Q I q => ?_⟩
  have hn := I.hok.fresh (Nat.le_refl s.heap.objs.size)
  have I1 := I.laid (a := s.heap.objs.size) (o := .dT []) (h' := s.heap.push { cls := .type "dict", data := .dict #[] }) (t' := s.toks) (fun _ _ q => Heap.get?_push_of_some _ q) (Nat.le_refl _) (dt_empty s.heap I.big)
  have hm := pairTrees_length keys values X.env pos hall hl
  have hz := zip_pairTrees keys values X.env pos hall hl
  have hne : pairTrees keys values X.env pos ≠ [] := fun he => by
    rw [he] at hm
    exact h0 (List.length_eq_zero_iff.mp hm.symm)
  rw [arm_eval_Dict, hz, dictDisplay_pairs (pairTrees keys values X.env pos) hne (by omega)]
  refine wpAny_bind (wpAny_standAt (wpAny_bind (wpAny_subDictH (knd := tupleKind (mixKind X.prog X.w)) (Q := fun d s' => wpAny (model X.prog X.w) X.A (pure (Value.ref d)) (EP X pins σ Q) X.xe s') (show X.A.units < cLine by omega) (by omega) ?_)))
  refine thn (h.run pins _ σ _ _ I1 (q _ hn)) fun ws s2 r2 => ?_
  obtain ⟨ps, H2, I2, rel, e, kvs, ka, lk, q2⟩ := r2
  obtain ⟨rs, c, rk⟩ := carriesT (P := X.prog) (w := X.w) I2.hok ka rel
  obtain ⟨z, hd, xs0, r0, dd⟩ := dt_of I2.hok e
  cases r0
  refine ⟨rs, c, dd, fun h' tk dd' hs => wpAny_pure ⟨.ref s.heap.objs.size, _, ?_, rfl, q2⟩⟩
  have hz : (mergeT [] kvs).length ≤ sizeLine := by
    have h1 := len_mergeT kvs []
    rw [List.length_nil] at h1
    rw [sizeLine_eq]; omega
  obtain ⟨o, es, ep, hq, h2, h3, h4, _, h5⟩ := dd'
  refine d_write I2 (by rw [e]; exact True.intro) hs ⟨o, hq⟩ ⟨hz, hd, _, (KT_merge rk .nil).keeps fun c ys ec => ?_, o, es, ep, hq, h2, h3, h4, h5⟩
  rw [upd_ne (ne_of ec e (fun z => nomatch z))]
  exact ec
end DJ
namespace DJ
open PySem PySem.Spec PyProof.Rows L2
theorem room64 {k : Nat} {A : Around} (r : Room k A) : A.units + 64 < cLine := by have := r.un; omega
theorem room1 {k : Nat} {A : Around} (r : Room k A) : A.units + 1 < cLine := by have := r.un; omega
/-! ### a thing framed while pieces are made, then kept -/
section
variable {K : PySem.W.Frag} {F B H : Hp} {as : List Addr} {M : List MO} {p : Addr}
theorem Ow.frame (h : Ow K F B as M H) (hp : H p = none) (o : HO) : Ow K (upd F p o) B as M (upd H p o) := by
  obtain ⟨h1, h2, h3⟩ := h.fresh hp
  have ne : ∀ a ∈ as, a ≠ p := fun a ha e => h3 (e ▸ ha)
  refine ⟨fun a u e => ?_, fun a u e => ?_, h.len, h.nd, fun a ha => ?_, fun a ha => ?_, fun k a m e1 e2 hm => ?_⟩
  · by_cases ea : a = p
    · subst ea; rw [upd_same] at e ⊢; exact e
    · rw [upd_ne ea] at e ⊢; exact h.fb _ _ e
  · rw [upd_ne (ne_of_none e h2)]; exact h.bb _ _ e
  · rw [upd_ne (ne a ha)]; exact h.al a ha
  · rw [upd_ne (ne a ha)]; exact h.fa a ha
  · have ha := ne a (List.mem_of_getElem? e1)
    obtain ⟨q1, q2, q3⟩ := h.own k a m e1 e2 hm
    exact ⟨by rw [upd_ne ha]; exact q1, q2, MoR.mono (Same.refl B) (upd_ne ha) q3⟩
theorem Ow.keep {o o' : HO} (h : Ow K (upd F p o) B as M H) (hF : F p = none) (hB : B p = none) : Ow K F (upd B p o') as M (upd H p o') := by
  have ne : ∀ a ∈ as, a ≠ p := fun a ha e => by
    have := h.fa a ha
    rw [e, upd_same] at this
    cases this
  have sm : Same B (upd B p o') := fun a u e => by rw [upd_ne (ne_of_none e hB)]; exact e
  refine ⟨fun a u e => ?_, fun a u e => ?_, h.len, h.nd, fun a ha => ?_, fun a ha => ?_, fun k a m e1 e2 hm => ?_⟩
  · have ea := ne_of_none e hF
    rw [upd_ne ea]
    exact h.fb a u (by rw [upd_ne ea]; exact e)
  · by_cases ea : a = p
    · subst ea; rw [upd_same] at e ⊢; exact e
    · rw [upd_ne ea] at e ⊢; exact h.bb _ _ e
  · rw [upd_ne (ne a ha)]; exact h.al a ha
  · have := h.fa a ha
    rw [upd_ne (ne a ha)] at this
    exact this
  · have ha := ne a (List.mem_of_getElem? e1)
    obtain ⟨q1, q2, q3⟩ := h.own k a m e1 e2 hm
    rw [upd_ne ha] at q1
    exact ⟨q1, by rw [upd_ne ha]; exact q2, MoR.mono sm (upd_ne ha) q3⟩
theorem Gr.frame {o : HO} {B' : Hp} (g : Gr (upd F p o) B B') (hF : F p = none) : Gr F B B' := ⟨g.1, fun a f n => g.2 a (by
  have ea : a ≠ p := fun e => f.1 (by rw [e]; exact hF)
  rw [upd_ne ea]; exact f) n⟩
theorem Gr.keep {o o' : HO} {B' : Hp} (g : Gr (upd F p o) B B') (hF : F p = none) (hB : B p = none) (hk : Kp (some o)) : Gr F B (upd B' p o') := by
  have hB' : B' p = none := g.2 p (by rw [upd_same]; exact hk) hB
  refine ⟨fun a u e => ?_, fun a f n => ?_⟩
  · rw [upd_ne (ne_of_none e hB)]; exact g.1 a u e
  · have ea : a ≠ p := fun e => f.1 (by rw [e]; exact hF)
    rw [upd_ne ea]
    exact g.2 a (by rw [upd_ne ea]; exact f) n
end
/-! ### pairs -/
def RpP (K : PySem.W.Frag) (H : Hp) : List (Dt × Dt) → List (V × V) → Prop
  | [], ps => ps = []
  | d :: ds, ps => ∃ p r, ps = p :: r ∧ (Rp K H d.1 p.1 ∧ Rp K H d.2 p.2) ∧ RpP K H ds r
def EvP (K : PySem.W.Frag) (trs : List (TE × TE)) (G : List (Option Sl)) (M : List MO) (ds : List (Dt × Dt)) : Prop :=
  ∀ F B as σ H, Ow K F B as M H → Slt K B as G σ → ∀ Q : List (V × V) → Hp → Prop, (∀ ps B' as' H', Gr F B B' → Px as as' → Ow K F B' as' M H' → RpP K B' ds ps → Q ps H') → tPairs trs σ H Q
/-- a tuple of texts, as a key -/
def keyD (ks : List (List Nat)) : Dt := .ext fun H v => ∃ a, v = .ref a ∧ H a = some (.tup ((ks.map fun k => (Sum.inr (tx k) : Key)).map kV))
abbrev encT (p : List (List Nat) × List Nat) : List Key × V := (p.1.map fun k => (Sum.inr (tx k) : Key), .str (tx p.2))
abbrev encK (p : List Nat × List Nat) : Key × V := (Sum.inr (tx p.1), .str (tx p.2))
def dicT (kvs : List (List (List Nat) × List Nat)) : Dt := .ext fun H v => ∃ a, v = .ref a ∧ H a = some (.dT (mergeT [] (kvs.map encT)))
def dicK (kvs : List (List Nat × List Nat)) : Dt := .ext fun H v => ∃ a, v = .ref a ∧ H a = some (.dK (mergeK [] (kvs.map encK)))
section
variable {K : PySem.W.Frag} {B H : Hp} {G : List (Option Sl)} {M M1 M2 M3 : List MO} {tk tv td ty : TE} {trs : List (TE × TE)} {k v : Dt}
theorem RpP.mono {H' : Hp} (e : Same H H') : ∀ {ds : List (Dt × Dt)} {ps : List (V × V)}, RpP K H ds ps → RpP K H' ds ps
  | [], _, h => h
  | d :: ds, _, ⟨p, r, e1, h1, h2⟩ => ⟨p, r, e1, ⟨Rp.mono e _ _ h1.1, Rp.mono e _ _ h1.2⟩, RpP.mono e h2⟩
theorem ep_nil : EvP K [] G M [] := fun F B as σ H ow sl Q q => q [] B as H (Gr.refl F B) (Px.refl as) ow rfl
theorem ep_cons {ds : List (Dt × Dt)} (h1 : EvE K tk G M (.d k) M) (h2 : EvE K tv G M (.d v) M) (h3 : EvP K trs G M ds) : EvP K ((tk, tv) :: trs) G M ((k, v) :: ds) := fun F B as σ H ow sl Q q =>
  h1 F B as σ H ow sl _ fun x B1 as1 H1 g1 p1 o1 r1 => h2 F B1 as1 σ H1 o1 (sl.mono g1.1 p1) _ fun y B2 as2 H2 g2 p2 o2 r2 =>
    h3 F B2 as2 σ H2 o2 ((sl.mono g1.1 p1).mono g2.1 p2) _ fun ps B3 as3 H3 g3 p3 o3 r3 =>
      q _ B3 as3 H3 ((g1.trans g2).trans g3) ((p1.trans p2).trans p3) o3 ⟨(x, y), ps, rfl, ⟨Rp.mono (g2.trans g3).1 _ _ r1, Rp.mono g3.1 _ _ r2⟩, r3⟩
theorem strs_kV : ∀ ks : List (List Nat), ((ks.map tx).map V.str) = ((ks.map fun k => (Sum.inr (tx k) : Key)).map kV)
  | [] => rfl
  | k :: ks => by
    rw [List.map_cons, List.map_cons, List.map_cons, List.map_cons, strs_kV ks] <;> rfl
theorem ev_tupK {tr : TA} {ks : List (List Nat)} (ha : EvA K tr G M (ks.map fun k => Sl.d (.str k)) M1) (hl : ks.length ≤ 1000) : EvE K (tTup tr) G M (.d (keyD ks)) M1 := fun F B as σ H o sl Q q =>
  ha F B as σ H o sl _ fun vs B1 as1 H1 g1 p1 o1 r1 => ⟨by rw [r1.len, List.length_map]; exact Nat.le_trans hl (by decide), fun p hp => by
    have e : (ks.map fun k => Sl.d (.str k)) = (ks.map Dt.str).map Sl.d := by rw [List.map_map] <;> rfl
    rw [e] at r1
    have r2 := (SlL.data r1).strs
    have g2 := o1.gr hp (.tup vs)
    refine q _ _ as1 _ (g1.trans g2) p1 (o1.new hp _) fun H' s => ⟨p, rfl, s _ _ ?_⟩
    rw [upd_same, r2, strs_kV]⟩
theorem kta_of : ∀ {kvs : List (List (List Nat) × List Nat)} {ps : List (V × V)}, RpP K B (kvs.map fun p => (keyD p.1, Dt.str p.2)) ps → KTa B ps (kvs.map encT)
  | [], _, h => by
    rw [show _ = [] from h]
    exact .nil
  | p :: kvs, _, ⟨x, r, e, ⟨h1, h2⟩, h3⟩ => by
    subst e
    obtain ⟨a, e1, e2⟩ := h1 B (Same.refl B)
    exact .cons ⟨a, e1, e2, h2⟩ (kta_of h3)
theorem KTa.mono {H' : Hp} (e : Same B H') {ps : List (V × V)} {kvs : List (List Key × V)} (r : KTa B ps kvs) : KTa H' ps kvs := Paired.mapP r fun _ _ z => let ⟨b, h1, h2, h3⟩ := z; ⟨b, h1, e _ _ h2, h3⟩
theorem ev_dispT (kvs : List (List (List Nat) × List Nat)) (h : EvP K trs G M (kvs.map fun p => (keyD p.1, Dt.str p.2))) (hl : kvs.length ≤ 15) : EvE K (tDispT trs) G M (.d (dicT kvs)) M := fun F B as σ H ow sl Q q p hp => by
  obtain ⟨f1, f2, _⟩ := ow.fresh hp
  refine h (upd F p (.dT [])) B as σ _ (ow.frame hp _) sl _ fun ps B1 as1 H1 g1 p1 o1 r1 => ?_
  refine ⟨o1.fb p _ upd_same, kvs.map encT, KTa.mono o1.bb (kta_of r1), by rw [List.length_map]; exact hl, ?_⟩
  have b1 : B1 p = none := g1.2 p (by rw [upd_same]; exact ⟨fun z => (nomatch z), fun _ z => (nomatch z)⟩) f2
  exact q _ (upd B1 p _) as1 _ (g1.keep f1 f2 ⟨fun z => (nomatch z), fun _ z => (nomatch z)⟩) p1 (o1.keep f1 b1) fun H' s => ⟨p, rfl, s _ _ upd_same⟩
theorem vk_of : ∀ {kvs : List (List Nat × List Nat)} {ps : List (V × V)}, RpP K B (kvs.map fun p => (Dt.str p.1, Dt.str p.2)) ps → ps = (kvs.map encK).map fun kv => (kV kv.1, kv.2)
  | [], _, h => h
  | p :: kvs, _, ⟨x, r, e, ⟨h1, h2⟩, h3⟩ => by
    subst e
    obtain ⟨x1, x2⟩ := x
    have h1 : x1 = V.str (tx p.1) := h1
    have h2 : x2 = V.str (tx p.2) := h2
    rw [vk_of h3, h1, h2]
    rfl
theorem ev_dispK (kvs : List (List Nat × List Nat)) (h : EvP K trs G M (kvs.map fun p => (Dt.str p.1, Dt.str p.2))) (hl : kvs.length ≤ 15) : EvE K (tDisp trs) G M (.d (dicK kvs)) M := fun F B as σ H ow sl Q q p hp => by
  obtain ⟨f1, f2, _⟩ := ow.fresh hp
  refine h (upd F p (.dK [])) B as σ _ (ow.frame hp _) sl _ fun ps B1 as1 H1 g1 p1 o1 r1 => ?_
  refine ⟨o1.fb p _ upd_same, kvs.map encK, vk_of r1, by rw [List.length_map]; exact hl, ?_⟩
  have b1 : B1 p = none := g1.2 p (by rw [upd_same]; exact ⟨fun z => (nomatch z), fun _ z => (nomatch z)⟩) f2
  exact q _ (upd B1 p _) as1 _ (g1.keep f1 f2 ⟨fun z => (nomatch z), fun _ z => (nomatch z)⟩) p1 (o1.keep f1 b1) fun H' s => ⟨p, rfl, s _ _ upd_same⟩
/-- d.get(k, x) -/
theorem ev_getT {tx' : TE} {kvs : List (List (List Nat) × List Nat)} {ks : List (List Nat)} {x z : List Nat} (hd : EvE K td G M (.d (dicT kvs)) M1) (hk : EvE K ty G M1 (.d (keyD ks)) M2) (hx : EvE K tx' G M2 (.d (.str x)) M3)
    (hz : (valV (mergeT [] (kvs.map encT)) (ks.map fun k => (Sum.inr (tx k) : Key))).getD (.str (tx x)) = .str (tx z)) : EvE K (tDGet2 td ty tx') G M (.d (.str z)) M3 := fun F B as σ H ow sl Q q =>
  hd F B as σ H ow sl _ fun v B1 as1 H1 g1 p1 o1 r1 => by
    obtain ⟨a, rfl, ha⟩ := r1 B1 (Same.refl _)
    refine ⟨a, rfl, .inr ⟨_, .inl (o1.bb _ _ ha)⟩, hk F B1 as1 σ H1 o1 (sl.mono g1.1 p1) _ fun y B2 as2 H2 g2 p2 o2 r2 => hx F B2 as2 σ H2 o2 ((sl.mono g1.1 p1).mono g2.1 p2) _ fun u B3 as3 H3 g3 p3 o3 r3 => ?_⟩
    obtain ⟨b, rfl, hb⟩ := r2 B2 (Same.refl _)
    have r3 : u = .str (tx x) := r3
    subst r3
    refine ⟨_, .inr ⟨_, _, b, .inl (o3.bb _ _ (g3.1 _ _ (g2.1 _ _ ha))), rfl, o3.bb _ _ (g3.1 _ _ hb), rfl⟩, ?_⟩
    exact q _ B3 as3 H3 ((g1.trans g2).trans g3) ((p1.trans p2).trans p3) o3 hz
theorem ev_getK {tx' : TE} {kvs : List (List Nat × List Nat)} {k x z : List Nat} (hd : EvE K td G M (.d (dicK kvs)) M1) (hk : EvE K ty G M1 (.d (.str k)) M2) (hx : EvE K tx' G M2 (.d (.str x)) M3)
    (hz : (valV (mergeK [] (kvs.map encK)) (Sum.inr (tx k))).getD (.str (tx x)) = .str (tx z)) : EvE K (tDGet2 td ty tx') G M (.d (.str z)) M3 := fun F B as σ H ow sl Q q =>
  hd F B as σ H ow sl _ fun v B1 as1 H1 g1 p1 o1 r1 => by
    obtain ⟨a, rfl, ha⟩ := r1 B1 (Same.refl _)
    refine ⟨a, rfl, .inl ⟨_, .inl (o1.bb _ _ ha)⟩, hk F B1 as1 σ H1 o1 (sl.mono g1.1 p1) _ fun y B2 as2 H2 g2 p2 o2 r2 => hx F B2 as2 σ H2 o2 ((sl.mono g1.1 p1).mono g2.1 p2) _ fun u B3 as3 H3 g3 p3 o3 r3 => ?_⟩
    have r2 : y = .str (tx k) := r2
    have r3 : u = .str (tx x) := r3
    subst r3; subst r2
    refine ⟨_, .inl ⟨_, (Sum.inr (tx k) : Key), .inl (o3.bb _ _ (g3.1 _ _ (g2.1 _ _ ha))), rfl, rfl⟩, ?_⟩
    exact q _ B3 as3 H3 ((g1.trans g2).trans g3) ((p1.trans p2).trans p3) o3 hz
end
/-! ### == of lists of texts -/
section
variable {K : PySem.W.Frag}
theorem dp_strs {H : Hp} : ∀ xs : List (List Nat), DpAll K H ((xs.map tx).map V.str) (xs.map fun x => PyData.str (tx x))
  | [] => .nil
  | x :: xs => .cons (.str _) (dp_strs xs)
theorem tx_beq (x y : List Nat) : (tx x == tx y) = decide (x = y) := by
  by_cases h : x = y
  · subst h
    rw [decide_eq_true rfl, beq_self_eq_true]
  · rw [decide_eq_false h]
    refine beq_eq_false_iff_ne.mpr fun e => h ?_
    have e2 : (tx x).cps = (tx y).cps := congrArg _ e
    simpa using congrArg Array.toList e2
theorem eqv_strs : ∀ xs ys : List (List Nat), PyData.eqvAll (xs.map fun x => PyData.str (tx x)) (ys.map fun x => PyData.str (tx x)) = decide (xs = ys)
  | [], [] => rfl
  | [], _ :: _ => rfl
  | _ :: _, [] => rfl
  | x :: xs, y :: ys => by
    show ((tx x == tx y) && PyData.eqvAll (xs.map _) (ys.map _)) = _
    rw [eqv_strs xs ys, tx_beq]
    by_cases h : x = y
    · subst h
      rw [decide_eq_true rfl, Bool.true_and]
      simp
    · rw [decide_eq_false h, Bool.false_and]
      simp [h]
def Asc (l : List Nat) : Prop := ∀ c ∈ l, c < 128
theorem lay_strs : ∀ xs : List (List Nat), (∀ x ∈ xs, Asc x) → PyData.canLayAll0 (xs.map fun x => PyData.str (tx x)) = true ∧ PyData.depthAll (xs.map fun x => PyData.str (tx x)) = 0
  | [], _ => ⟨rfl, rfl⟩
  | x :: xs, h => by
    obtain ⟨h1, h2⟩ := lay_strs xs fun y hy => h y (List.mem_cons_of_mem _ hy)
    have hx := h x List.mem_cons_self
    have h3 : PyData.strOk (tx x) = true := by
      unfold PyData.strOk
      show x.toArray.all _ = true
      rw [← Array.all_toList]
      show x.all _ = true
      rw [List.all_eq_true]
      intro c hc
      exact decide_eq_true (Nat.lt_trans (hx c hc) (by decide))
    refine ⟨?_, ?_⟩
    · show (PyData.strOk (tx x) && PyData.canLayAll0 _) = true
      rw [h3, h1] <;> rfl
    · show max 0 (PyData.depthAll _) = 0
      rw [h2] <;> rfl
theorem shp_strs {xs : List (List Nat)} (h : ∀ x ∈ xs, Asc x) : SeqAt.shaped (.list (xs.map fun x => PyData.str (tx x))) = true := by
  obtain ⟨h1, h2⟩ := lay_strs xs h
  unfold SeqAt.shaped
  rw [Bool.and_eq_true]
  refine ⟨h1, decide_eq_true ?_⟩
  show PyData.depthAll _ + 1 ≤ 64
  rw [h2]
  decide
theorem ro_eqTs {xs ys : List (List Nat)} (hx : ∀ x ∈ xs, Asc x) (hy : ∀ x ∈ ys, Asc x) : RO K (rEqD K) (.lst (xs.map .str)) (.lst (ys.map .str)) (.bl (decide (xs = ys))) := fun F B as M H v u Q ow r1 r2 q => by
  obtain ⟨a, vs, e1, h1, h2⟩ := r1
  obtain ⟨b, us, e2, h3, h4⟩ := r2
  have h2 := h2.strs
  have h4 := h4.strs
  subst h2; subst h4; subst e1; subst e2
  refine ⟨_, _, .lst (ow.bb.seq h1) (dp_strs xs), .lst (ow.bb.seq h3) (dp_strs ys), shp_strs hx, shp_strs hy, q _ B H (Gr.refl F B) ow ?_⟩
  show V.bl (PyData.eqvAll _ _) = _
  rw [eqv_strs]
end
end DJ
namespace DJ
open PySem PySem.Spec PyProof.Rows L2
/-! ### lists that are put together -/
def lstX (K : PySem.W.Frag) (xs : List Dt) : Dt := .ext fun H v => ∃ a vs, v = .ref a ∧ H a = some (.lst vs) ∧ RpL K H xs vs
section
variable {K : PySem.W.Frag} {B H : Hp} {G : List (Option Sl)} {M M1 M2 M3 : List MO} {te : TE} {x y : Dt}
theorem ev_wk (h : EvE K te G M (.d x) M1) (w : ∀ B v, Rp K B x v → Rp K B y v) : EvE K te G M (.d y) M1 := fun F B as σ H o sl Q q =>
  h F B as σ H o sl _ fun v B1 as1 H1 g1 p1 o1 r1 => q v B1 as1 H1 g1 p1 o1 (w B1 v r1)
theorem lstX_lst {xs : List Dt} (B : Hp) (v : V) (h : Rp K B (lstX K xs) v) : Rp K B (.lst xs) v := by
  obtain ⟨a, vs, e, h1, h2⟩ := h B (Same.refl B)
  exact ⟨a, vs, e, .inl (.inl h1), h2⟩
theorem ev_lstX {tr : TA} {xs : List Dt} (ha : EvA K tr G M (xs.map Sl.d) M1) (hl : xs.length ≤ 1000) : EvE K (tLst tr) G M (.d (lstX K xs)) M1 := fun F B as σ H o sl Q q =>
  ha F B as σ H o sl _ fun vs B1 as1 H1 g1 p1 o1 r1 => ⟨by rw [r1.len, List.length_map]; exact Nat.le_trans hl (by decide), fun p hp => by
    have g2 := o1.gr hp (.lst vs)
    exact q _ _ as1 _ (g1.trans g2) p1 (o1.new hp _) fun H' s => ⟨p, vs, rfl, s _ _ upd_same, RpL.mono (g2.1.trans s) _ _ (SlL.data r1)⟩⟩
theorem ro_cat {xs ys : List Dt} (h : xs.length + ys.length ≤ 100000) : RO K rCat (lstX K xs) (lstX K ys) (lstX K (xs ++ ys)) := fun F B as M H v u Q ow r1 r2 q => by
  obtain ⟨a, vs, e1, h1, h2⟩ := r1 B (Same.refl B)
  obtain ⟨b, us, e2, h3, h4⟩ := r2 B (Same.refl B)
  refine ⟨a, b, vs, us, e1, e2, ow.bb _ _ h1, ow.bb _ _ h3, by rw [h2.len, h4.len]; exact Nat.le_trans h (by decide), fun p hp => ?_⟩
  have g2 := ow.gr hp (.lst (vs ++ us))
  exact q _ _ _ g2 (ow.new hp _) fun H' s => ⟨p, _, rfl, s _ _ upd_same, RpL.append (RpL.mono (g2.1.trans s) _ _ h2) (RpL.mono (g2.1.trans s) _ _ h4)⟩
theorem RpL.rep {xs : List Dt} {vs : List V} (h : RpL K H xs vs) : ∀ n : Nat, RpL K H (List.replicate n xs).flatten (List.replicate n vs).flatten
  | 0 => rfl
  | n + 1 => by
    rw [List.replicate_succ, List.replicate_succ, List.flatten_cons, List.flatten_cons]
    exact RpL.append h (RpL.rep h n)
theorem ro_rep {xs : List Dt} {k : Nat} (h : xs.length * k ≤ 100000) (hk : k ≤ 100000) : RO K rRep (lstX K xs) (.int (k : Int)) (lstX K (List.replicate k xs).flatten) := fun F B as M H v u Q ow r1 r2 q => by
  obtain ⟨a, vs, e1, h1, h2⟩ := r1 B (Same.refl B)
  have r2 : u = .int (k : Int) := r2
  refine ⟨a, (k : Int), vs, e1, r2, ow.bb _ _ h1, by omega, by omega, by rw [h2.len, Int.toNat_natCast]; exact Nat.le_trans h (by decide), fun p hp => ?_⟩
  have g2 := ow.gr hp (.lst (List.replicate (k : Int).toNat vs).flatten)
  rw [Int.toNat_natCast] at g2 ⊢
  exact q _ _ _ g2 (ow.new hp _) fun H' s => ⟨p, _, rfl, s _ _ upd_same, RpL.mono (g2.1.trans s) _ _ (RpL.rep h2 k)⟩
/-- the one owned thing is handed on -/
theorem ev_w {E : XK} {n : Nat} {R : List Sl → List MO → Sl → List MO → Prop} {ta : TA} {ds : List Dt} {m m' : MO} {z : Dt} (h : EvA K ta G M (.o 0 :: ds.map Sl.d) [m]) (hg : m ≠ .gone) (hR : R (.o 0 :: ds.map Sl.d) [m] (.d z) [m']) (hg' : m' ≠ .gone) (hn : ds.length + 1 = n) :
    EvE K (tCall (SpR K n R) [] E ta) G M (.d z) [m'] := by
  have e : (.o 0 :: ds.map Sl.d : List Sl).map (to0 0) = .o 0 :: ds.map Sl.d := by
    rw [List.map_cons, List.map_map]
    congr 1
  have := ev_call1 (k := 0) (es := []) (dvs := []) (E := E) (n := n) (R := R) (z := z) h rfl hg (fun s hs j e => ?_) (by rw [e, List.map_nil, List.append_nil]; exact hR) hg' (by rw [List.length_cons, List.length_map]; exact hn) (fun _ => rfl)
  · exact this
  · rcases List.mem_cons.mp hs with z | z
    · rw [e] at z; cases z; rfl
    · obtain ⟨d, _, hd⟩ := List.mem_map.mp z
      rw [e] at hd; cases hd
theorem es_nM {t : TS} {o : Out} {M' : List MO} (e : M = M') (h : EvS K t G M' o) : EvS K t G M o := e ▸ h
end
/-- words of few signs -/
def Wd (n : Nat) (l : List Nat) : Prop := l.length ≤ n ∧ Asc l
theorem Wd.mono {n m : Nat} {l : List Nat} (h : Wd n l) (e : n ≤ m) : Wd m l := ⟨Nat.le_trans h.1 e, h.2⟩
theorem Wd.app {n m k : Nat} {l l' : List Nat} (h : Wd n l) (h' : Wd m l') (e : n + m ≤ k) : Wd k (l ++ l') := ⟨by rw [List.length_append]; have := h.1; have := h'.1; omega, fun c hc => (List.mem_append.mp hc).elim (h.2 c) (h'.2 c)⟩
theorem Wd.take {n : Nat} {l : List Nat} (h : Wd n l) (k : Nat) : Wd n (l.take k) := ⟨by rw [List.length_take]; have := h.1; omega, fun c hc => h.2 c (List.mem_of_mem_take hc)⟩
theorem Wd.drop {n : Nat} {l : List Nat} (h : Wd n l) (k : Nat) : Wd n (l.drop k) := ⟨by rw [List.length_drop]; have := h.1; omega, fun c hc => h.2 c (List.mem_of_mem_drop hc)⟩
instance (l : List Nat) : Decidable (Asc l) := inferInstanceAs (Decidable (∀ c ∈ l, c < 128))
instance (n : Nat) (l : List Nat) : Decidable (Wd n l) := inferInstanceAs (Decidable (l.length ≤ n ∧ ∀ c ∈ l, c < 128))
theorem Wd.flat {n : Nat} : ∀ {xs : List (List Nat)}, (∀ x ∈ xs, Wd n x) → Wd (n * xs.length) xs.flatten
  | [], _ => ⟨Nat.zero_le _, fun _ h => nomatch h⟩
  | x :: xs, h => by
    rw [List.flatten_cons]
    exact Wd.app (h x List.mem_cons_self) (Wd.flat fun y hy => h y (List.mem_cons_of_mem _ hy)) (by rw [List.length_cons, Nat.mul_succ]; omega)
theorem mapA_all {μ β γ : Type} {f : μ → β → γ × μ} {p : γ → Prop} (h : ∀ m x, p (f m x).1) : ∀ (xs : List β) (m : μ), ∀ y ∈ (mapA f xs m).1, p y
  | [], _, _, hy => nomatch hy
  | x :: xs, m, y, hy => by
    rcases List.mem_cons.mp hy with e | hy
    · rw [e]; exact h m x
    · exact mapA_all h xs _ y hy
theorem mapA_len {μ β γ : Type} {f : μ → β → γ × μ} : ∀ (xs : List β) (m : μ), (mapA f xs m).1.length = xs.length
  | [], _ => rfl
  | x :: xs, m => by
    show (mapA f xs _).1.length + 1 = _
    rw [mapA_len xs, List.length_cons]
theorem flat_one : ∀ l : List Nat, (l.map fun c => [c]).flatten = l
  | [] => rfl
  | c :: l => by
    rw [List.map_cons, List.flatten_cons, flat_one l] <;> rfl
theorem sum_one : ∀ l : List Nat, (l.map fun c => ([c] : List Nat).length).sum = l.length
  | [] => rfl
  | c :: l => by
    rw [List.map_cons, List.sum_cons, sum_one l, List.length_cons]
    exact Nat.add_comm 1 l.length
end DJ
namespace DJ
open PySem PySem.Spec PyProof.Rows L2
/-! ### called by names -/
structure CalF (P : Program) (w : World) (K : PySem.W.Frag) (mg : Str → Option Value) (base : Heap) (k : Nat) (x : Str) (st : Stmt) (ps : List Str) (sp : Sp) : Prop where
  ex : ∃ (f : Addr) (fd : FuncData), FnOk P w K mg base CX0 k f fd ps sp ∧ L2.Fun K x x st f fd ∧ mg x = some (.ref f) ∧ Binds K fd ps []
abbrev gCat (us ws : List Value) : List Value := us ++ ws
abbrev gCatV (us ws : List V) : List V := us ++ ws
structure CalK (P : Program) (w : World) (K : PySem.W.Frag) (mg : Str → Option Value) (base : Heap) (k : Nat) (x : Str) (ks : List Str) (sp : Sp) : Prop where
  ex : ∃ (f : Addr) (fd : FuncData) (ps : List Str), FnOk P w K mg base CX0 k f fd ps sp ∧ mg x = some (.ref f) ∧ PySem.W.keepIn K (.ref f) = true ∧ KBinds K fd ps ks gCat gCatV
section
variable {P : Program} {w : World} {K : PySem.W.Frag} {mg : Str → Option Value} {base : Heap}
theorem CalF.cal {k : Nat} {x : Str} {st : Stmt} {ps : List Str} {sp : Sp} (c : CalF P w K mg base k x st ps sp) : Cal P w K mg base k x sp [] := by
  obtain ⟨f, fd, F, U, hm, b⟩ := c.ex
  exact ⟨f, fd, ps, [], F, hm, U.kp, b, .nil⟩
theorem CalF.kw {k : Nat} {x y : Str} {st : Stmt} {sp : Sp} (c : CalF P w K mg base k x st [y] sp)
    (h : ∀ (kV doc pm : Value) (an : Option Addr) (cdv ct u : Value), bindArgs (PySem.W.fnOf x x (defArgs st) (defBody st) (defScope st) .none kV doc pm an cdv ct) ⟨[], [(y, u)]⟩ = pure [(y, u)]) : CalK P w K mg base k x [y] sp := by
  obtain ⟨f, fd, F, U, hm, b⟩ := c.ex
  refine ⟨f, fd, [y], F, hm, U.kp, ⟨fun s us ws hK hl => ?_, fun r1 r2 => Vals.append r1 r2⟩⟩
  have hl : (us ++ ws).length = 1 := hl
  match us, ws, hl with
  | [u], [], _ => exact b s [u] hK rfl
  | [], [u], _ =>
    obtain ⟨oc, od, kV, doc, pm, an, cdv, ct, osl, rfl, lk, hcd⟩ := U.ex
    exact .of_eq (h kV doc pm an cdv ct u)
theorem cal_mkF {x : Str} {st : Stmt} {N ps : List Str} {k n : Nat} {R : List Sl → List MO → Sl → List MO → Prop} (D : Df K mg x st ps) (S : FnScope N ps (defScope st)) (hn : ps.length = n)
    (hb : ∀ (f : Addr) (cdv : Value) (A : Around) (outer : List Env) (s : Shared) (H : Hp) (E : XK), Room k (A.deeper (envOfC x (defScope st) s.heap.objs.size f cdv)) → ∀ ss M r M', R ss M r M' →
      ∃ t X, PSs (cxOf CX0 P w K mg base N x (defScope st) f cdv A outer s H E).nox (defBody st) t ∧ EvS K t (start N.length ss) M (.rt r (M' ++ X)) ∧ M.length ≤ M'.length ∧ ∀ j, r = .o j → j < M'.length) :
    CalF P w K mg base (k + 1) x st ps (SpR K n R) := by
  obtain ⟨f, fd, F, hm, b⟩ := D.ex
  refine ⟨f, fd, F.ok S (fun vs H Q E h => ?_) (fun cdv A outer s H vs Q E hr h => ?_), F, hm, b⟩
  · obtain ⟨_, _, _, _, _, _, _, _, _, _, e, _⟩ := h
    rw [e, hn]
  · obtain ⟨F', B, as, ss, M, r, M', hR, ow, sl, _, q⟩ := h
    obtain ⟨t, X, ht, he, hl, hr'⟩ := hb f cdv A outer s H E hr ss M r M' hR
    exact ⟨t, ht, run_body (X := X) he hl hr' ow sl q⟩
end
section
variable {X : Cx} {k j : Nat} {x : Str} {ks : List Str} {sp : Sp} {p pos : Pos} {kws : List Keyword} {tk : TA}
theorem pe_cK (c : CalK X.prog X.w X.K X.mg X.base k x ks sp) (hr : Room j X.A) (hk : k ≤ j) (hg : Gl X x) (hkw : PK X kws tk)
    (hall : (backToKw pos (keywordEach kws X.env)).all (·.1.isSome) = true := by rfl) (hks : (backToKw pos (keywordEach kws X.env)).filterMap (·.1) = ks := by rfl) (hdb : (x == ("__debug__" : Str)) = false := by decide)
    (hpl : ((backTo pos (starEach [] X.env)).any (·.1) || (backToKw pos (keywordEach kws X.env)).any (·.1.isNone)) = false := by rfl) : PE X (.Call (.Name x p) [] kws pos) (tCallK sp gCatV L2.E0 tNil tk) := by
  obtain ⟨f, fd, ps, F, hm, kp, hb⟩ := c.ex
  refine ⟨fun pins s σ H Q I h => ?_⟩
  refine wpAny_Call_Name_kw (ld_glob I hg hm ?_ hdb)
  refine PySem.W.callWith_KW0 (h₀ := X.base) I.ok.mod.kin kp hall (thn (hkw.run pos pins s σ H _ I h) fun ws s2 r2 => ?_) hpl
  obtain ⟨zs, H2, I2, rz, q2⟩ := r2
  refine ⟨I2.kIn, ?_⟩
  rw [hks]
  exact run_fnk (us := []) (vs := []) F (hr.mono hk) hb L2.pass0 I2 .nil rz q2
end
section
variable {K : PySem.W.Frag} {G : List (Option Sl)} {M M1 : List MO} {sp : Sp} {E : XK} {tk : TA} {s : Sl}
theorem ev_kw (h : EvE K (tCall sp [] E tk) G M s M1) : EvE K (tCallK sp gCatV E tNil tk) G M s M1 := by
  have e : tCallK sp gCatV E tNil tk = tCall sp [] E tk := by
    funext σ H Q
    show tk σ H (fun zs H2 => sp ([] ++ zs) H2 Q E) = tk σ H (fun zs H2 => sp (zs ++ []) H2 Q E)
    simp only [List.append_nil, List.nil_append]
  rw [e]
  exact h
end
/-! ### what was made for a turn is let go -/
section
variable {K : PySem.W.Frag} {G G1 : List (Option Sl)} {M X M1 : List MO} {t : TS} {wi : TI} {te : TE}
theorem es_nxT (h : EvS K t G M (.nx G1 (M ++ X))) (hg : ∀ k, some (Sl.o k) ∉ G1) : EvS K t G M (.nx G1 M) := fun F B as σ H ow sl D gd =>
  h F B as σ H ow sl D fun B' as' σ' H' g p o' s' => by
    obtain ⟨tl, rfl⟩ := p
    refine gd B' as σ' H' g (Px.refl as) ⟨o'.fb, o'.bb, ow.len, ow.nd, fun a ha => o'.al a (List.mem_append_left _ ha), fun a ha => o'.fa a (List.mem_append_left _ ha), fun k a m e1 e2 hm => ?_⟩ ⟨s'.1, fun i s e => ?_⟩
    · refine o'.own k a m ?_ ?_ hm
      · rw [List.getElem?_append_left (List.getElem?_eq_some_iff.mp e1).1]
        exact e1
      · rw [List.getElem?_append_left (List.getElem?_eq_some_iff.mp e2).1]
        exact e2
    · obtain ⟨v, e1, r⟩ := s'.2 i s e
      refine ⟨v, e1, ?_⟩
      cases s with
      | d x => exact r
      | o k => exact absurd (List.mem_of_getElem? e) (hg k)
theorem ei_is {xs ys : List Dt} (h : EvI K wi G M xs M1) (e : xs = ys) : EvI K wi G M ys M1 := e ▸ h
end
/-- a law's promise, asked with a list of whole numbers -/
theorem sp_of {K : PySem.W.Frag} {R : List Sl → List MO → Sl → List MO → Prop} {H : Hp} {a : Addr} {ns : List Int} {E : XK} (hS : SqL K H a (ns.map V.int)) (hR : R [.d (.lst (ns.map .int))] [] (.d (.bl true)) []) : SpR K 1 R [.ref a] H (fun v _ => v = .bl true) E := by
  have ri : ∀ ns : List Int, RpL K H (ns.map Dt.int) (ns.map V.int) := fun ns => by
    induction ns with
    | nil => rfl
    | cons n ns ih => exact ⟨_, _, rfl, rfl, ih⟩
  refine ⟨fun _ => none, H, [], _, [], _, [], hR, ⟨fun _ _ e => (nomatch e), Same.refl H, rfl, List.nodup_nil, fun _ h => (nomatch h), fun _ h => (nomatch h), fun k a m e => by simp at e⟩, ⟨.ref a, [], rfl, ⟨a, _, rfl, hS, ri ns⟩, rfl⟩, rfl, fun v B' as' H' _ _ _ r => ?_⟩
  exact r
section
variable {K : PySem.W.Frag} {mg : Str → Option Value} {h : Heap}
theorem df_mk {x : Str} {st : Stmt} {ps : List Str} {f : Addr} {oc : Value} {od an : Option Addr} {osl : Array (Option Value)} {kV doc pm cdv ct : Value} (X : K.In h) (G : h.Ns mainGlobals mg) (a : PySem.W.nsIn K mainGlobals x = some (some (.ref f)))
    (l : K.lookup f = some ⟨oc, od, .func (PySem.W.fnOf x x (defArgs st) (defBody st) (defScope st) .none kV doc pm an cdv ct), osl⟩) (c : PySem.W.codeIn K cdv x = true) (k : PySem.W.keepIn K (.ref f) = true)
    (hb : ∀ (kV doc pm : Value) (an : Option Addr) (cdv ct : Value) (us : List Value), us.length = ps.length → bindArgs (PySem.W.fnOf x x (defArgs st) (defBody st) (defScope st) .none kV doc pm an cdv ct) ⟨us, []⟩ = pure (ps.zip us)) : Df K mg x st ps :=
  ⟨f, _, fun_mk l c k, PySem.W.mg_of X G a, (fun_mk l c k).binds hb⟩
theorem gc_str {x : Str} {l : List Nat} {t : Tok} (X : K.In h) (G : h.Ns mainGlobals mg) (a : PySem.W.nsIn K mainGlobals x = some (some (.str (tx l) t))) : Gc K mg x (.str l) := ⟨.str (tx l), _, PySem.W.mg_of X G a, ⟨t, rfl⟩, fun _ => rfl⟩
theorem gc_int {x : Str} {i : Int} {t : Tok} (X : K.In h) (G : h.Ns mainGlobals mg) (a : PySem.W.nsIn K mainGlobals x = some (some (.int i t))) : Gc K mg x (.int i) := ⟨.int i, _, PySem.W.mg_of X G a, ⟨t, rfl⟩, fun _ => rfl⟩
/-- these values are these texts -/
def strsOf : List (List Nat) → List Value → Bool
  | [], [] => true
  | l :: ls, .str x _ :: vs => decide (x = tx l) && strsOf ls vs
  | _, _ => false
theorem vals_strs : ∀ {ls : List (List Nat)} {vs : List Value}, strsOf ls vs = true → Vals ((ls.map tx).map V.str) vs
  | [], [], _ => .nil
  | l :: ls, .str x t :: vs, h => by
    have h : (decide (x = tx l) && strsOf ls vs) = true := h
    rw [Bool.and_eq_true, decide_eq_true_eq] at h
    exact .cons ⟨t, by rw [h.1]⟩ (vals_strs h.2)
  | [], _ :: _, h => by cases h
  | _ :: _, [], h => by cases h
  | _ :: _, .none :: _, h => by cases h
  | _ :: _, .bool _ :: _, h => by cases h
  | _ :: _, .int _ _ :: _, h => by cases h
  | _ :: _, .ref _ :: _, h => by cases h
theorem gc_tup {x : Str} {ls : List (List Nat)} {a : Addr} {oc : Value} {od : Option Addr} {its : Array Value} {n : Nat} {sl : Array (Option Value)} (X : K.In h) (G : h.Ns mainGlobals mg) (e : PySem.W.nsIn K mainGlobals x = some (some (.ref a)))
    (l : K.lookup a = some ⟨oc, od, .seq its n, sl⟩) (hc : oc = .type "tuple") (hz : its.size ≤ 1000) (hs : strsOf ls its.toList = true) : Gc K mg x (.tup (ls.map Dt.str)) :=
  ⟨.ref a, _, PySem.W.mg_of X G e, rfl, fun B => ⟨a, _, rfl, .inr ⟨_, its, n, l, hc, rfl, Nat.le_trans hz (by decide), vals_strs hs⟩, RpL.strs_of ls⟩⟩
end
end DJ
namespace DJ
open PySem PySem.W PyProof.Rows PySem.Spec L2
/-! ### the order of tuples of two texts -/
def txo : Option Value → Str
  | some (.str x _) => x
  | _ => ⟨#[]⟩
def itemsAt (h : Heap) (a : Addr) : List Value := match h.get? a with
  | some o => (match o.data with
    | .seq xs _ => xs.toList
    | _ => [])
  | none => []
def twoAt (h : Heap) : Value → Str × Str
  | .ref a => (txo (itemsAt h a)[0]?, txo (itemsAt h a)[1]?)
  | _ => (⟨#[]⟩, ⟨#[]⟩)
/-- v is a tuple of two texts -/
def Two (h : Heap) (v : Value) (e : Str × Str) : Prop := ∃ (a : Addr) (t u : Tok), v = .ref a ∧ IsTup h a #[.str e.1 t, .str e.2 u]
theorem Two.at {h : Heap} {v : Value} {e : Str × Str} (x : Two h v e) : twoAt h v = e := by
  obtain ⟨a, t, u, rfl, o, ho, hc, n, hd⟩ := x
  have z : itemsAt h a = [.str e.1 t, .str e.2 u] := by
    unfold itemsAt
    rw [ho]
    show (match o.data with
      | .seq xs _ => xs.toList
      | _ => []) = _
    rw [hd]
  show (txo (itemsAt h a)[0]?, txo (itemsAt h a)[1]?) = e
  rw [z] <;> rfl
theorem Two.keeps {h h' : Heap} {v : Value} {e : Str × Str} (x : Two h v e) (k : ∀ b o, h.get? b = some o → o.cls = .type "tuple" → h'.get? b = some o) : Two h' v e := by
  obtain ⟨a, t, u, e1, o, ho, hc, r⟩ := x
  exact ⟨a, t, u, e1, o, k _ _ ho hc, hc, r⟩
def lex2 (e f : Str × Str) : Bool := if e.1 = f.1 then decide (e.2.cps.toList < f.2.cps.toList) else decide (e.1.cps.toList < f.1.cps.toList)
theorem firsts2 {h : Heap} : ∀ vs : List Value, (∀ v ∈ vs, ∃ e, Two h v e) → ∃ fs : List Value, KatTups h vs fs ∧ fs.length = vs.length ∧ ∀ f ∈ fs, ∃ (x : Str) (t : Tok), f = Value.str x t
  | [], _ => ⟨[], KatTups.nil, rfl, fun f hf => by simp at hf⟩
  | v :: vs, x => by
    obtain ⟨fs, k, hl, hi⟩ := firsts2 vs fun u hu => x u (List.mem_cons_of_mem _ hu)
    obtain ⟨e, a, t, u, rfl, o, ho, hc, n, hd⟩ := x v List.mem_cons_self
    refine ⟨.str e.1 t :: fs, KatTups.cons ho hc hd rfl k, by rw [List.length_cons, List.length_cons, hl], fun f hf => ?_⟩
    rcases List.mem_cons.mp hf with e1 | hf
    · exact ⟨_, _, e1⟩
    · exact hi f hf
section
variable {prog : Program} {w : World} {A : Around} {E : Value → Shared → Prop} {s : Shared}
theorem kind2 {vs : List Value} {ρ : Str × Str → Int} (h2 : 2 ≤ vs.length) (x : ∀ v ∈ vs, ∃ e, Two s.heap v e)
    (hρ : ∀ v ∈ vs, ∀ u ∈ vs, lex2 (twoAt s.heap v) (twoAt s.heap u) = decide (ρ (twoAt s.heap v) < ρ (twoAt s.heap u))) (Q : SortKind → Shared → Prop)
    (h : ∀ κ, TS.Cmp prog w A s κ (pairsOf vs) (fun v => ρ (twoAt s.heap v)) → Q κ s) : wpAny (model prog w) A (keyKind' vs.toArray) Q E s := by
  obtain ⟨fs, k, hl, hi⟩ := firsts2 vs x
  refine kat_kind (T := Value.type "str") k (by omega) (fun f hf => ?_) rfl (h _ ?_)
  · obtain ⟨y, t, rfl⟩ := hi f hf
    exact PySem.W.Looks.of_pure rfl
  · have hb : (Value.type "str" != Value.type "tuple") = true := by first | rfl | decide | simp
    rw [hb]
    intro p q hp hq Q' E' hQ
    rw [pairsOf_toList] at hp hq
    have mp := (mem_zip_self hp).2
    have mq := (mem_zip_self hq).2
    obtain ⟨e, pe⟩ := x _ mp
    obtain ⟨f, pf⟩ := x _ mq
    have hr := hρ _ mp _ mq
    have hQ' : Q' (lex2 e f) s := by
      rw [pe.at, pf.at] at hr
      rw [hr]
      have hQ2 : Q' (decide (ρ (twoAt s.heap p.1) < ρ (twoAt s.heap q.1))) s := hQ
      rw [pe.at, pf.at] at hQ2
      exact hQ2
    obtain ⟨a, t, u, e1, o, ho, hc, n, hd⟩ := pe
    obtain ⟨a', t', u', e2, o', ho', hc', n', hd'⟩ := pf
    rw [e1, e2]
    refine kat_lt ho hd ho' hd' ?_
    show KatLex prog w A true false Q' [(Value.str e.1 t, Value.str f.1 t'), (Value.str e.2 u, Value.str f.2 u')] 0 s
    refine kat_cons (wpAny_eqBool_str (kat_go (fun e0 => ?_) (fun e0 => ?_)))
    · have e0 : e.1 = f.1 := of_decide_eq_true e0
      have z : lex2 e f = decide (e.2.cps.toList < f.2.cps.toList) := if_pos e0
      rw [z] at hQ'
      refine kat_yes (kat_cons (wpAny_eqBool_str (kat_go (fun e3 => ?_) (fun e3 => ?_))))
      · have e3 : e.2 = f.2 := of_decide_eq_true e3
        refine kat_yes (kat_nil ?_)
        have irr : decide (e.2.cps.toList < f.2.cps.toList) = false := by
          rw [e3]
          first | exact decide_eq_false (List.lt_irrefl _) | simp
        rw [irr] at hQ'
        exact hQ'
      · refine kat_no ?_
        show wpAny _ _ (oneLt' false _ _) _ _ _
        exact kat_one _ _ (PyProof.Rows.lt_str hQ')
    · have e0 : ¬ e.1 = f.1 := of_decide_eq_false e0
      have z : lex2 e f = decide (e.1.cps.toList < f.1.cps.toList) := if_neg e0
      rw [z] at hQ'
      refine kat_no ?_
      show wpAny _ _ (oneLt' true _ _) _ _ _
      exact oneLt_str hQ'
end
/-! ### sorted(d), the keys tuples of two texts -/
abbrev keyOf2 (e : Str × Str) : List Key := [Sum.inr e.1, Sum.inr e.2]
def rSort2 : List V → Hp → VK → Prop := fun vs H Q => ∃ (a : Addr) (kvs : List (List Key × V)) (ks : List (Str × Str)) (ρ : Str × Str → Int), vs = [.ref a] ∧ H a = some (.dT kvs) ∧ kvs.map (·.1) = ks.map keyOf2 ∧ ks.length < 64 ∧
  (∀ e ∈ ks, ∀ f ∈ ks, lex2 e f = decide (ρ e < ρ f)) ∧
  ∀ (l : Addr) (ps : List (Addr × Str × Str)), H l = none → (ps.map (·.2)).Perm ks → (ps.map (·.2)).Pairwise (fun e f => ρ e ≤ ρ f) → (∀ z ∈ ps, H z.1 = some (.tup [.str z.2.1, .str z.2.2])) → Q (.ref l) (upd H l (.lst (ps.map fun z => V.ref z.1)))
section
variable {X : Cx}
theorem cr_sort2 (hc : X.calm = true) : CallR X (.builtin "sorted") rSort2 := by
  intro pins s σ H xs us Q I r h
  obtain ⟨a, kvs, ks, ρ, rfl, ha, hks, h64, hρ, q⟩ := h
  obtain rfl := Vals.ref1 r
  obtain ⟨z, hd, xs', rel, o, es, ep, ho, hx, hdat, hes, his, hn⟩ := dt_of I.hok ha
  have l1 : kvs.length = xs'.length := Paired.length rel
  have l2 : es.size = xs'.length := size_of_entries hes
  have l3 : kvs.length = ks.length := by
    have e := congrArg List.length hks
    rw [List.length_map, List.length_map] at e
    exact e
  have hh : X.A.handled = none := I.ok.hd hc
  refine PySem.Calls.call_function_entry PyProof.Rows.kind_sorted PyProof.Rows.plain_sorted PyProof.Rows.entry_sorted (PyProof.Rows.args_sorted1 _) ?_
  unfold Builtin.«sorted»
  refine wpAny_bind (m := checkCount "sorted" 1 1 _) (wpAny_pure ?_)
  refine wpAny_bind (PySem.W.kdu_collect (A := X.A.in1) (kdl_raw (prog := X.prog) (w := X.w) hd hx hdat) hh ho (by rw [sizeLine_eq]; omega) fun h' tk acc hk hacc => ?_)
  have ea : acc.toList = (xs'.map fun x => x.2.1).map Value.ref := by
    have hl : acc.toList.length = xs'.length := by rw [Array.length_toList, hacc.1]; exact l2
    refine List.ext_getElem? fun j => ?_
    rw [List.getElem?_map, List.getElem?_map]
    cases hj : acc.toList[j]? with
    | none =>
      have h1 := List.getElem?_eq_none_iff.mp hj
      rw [List.getElem?_eq_none (by omega)] <;> rfl
    | some v =>
      obtain ⟨en, hen, hv⟩ := hacc.2 j v (by rw [← Array.getElem?_toList]; exact hj)
      have qe := entry_at hes j
      rw [hen] at qe
      cases hb : xs'[j]? with
      | none =>
        rw [hb] at qe
        exact nomatch (show some en = none from qe)
      | some b =>
        rw [hb] at qe
        have e2 : en = entryOfKey (tupleKind (mixKind X.prog X.w)) b := Option.some.inj qe
        rw [hv, e2] <;> rfl
  generalize hbs : (xs'.map fun x => x.2.1) = bs at ea
  have lb : bs.length = ks.length := by rw [← hbs, List.length_map]; omega
  -- each key's tuple
  have key : ∀ (j : Nat) (b : Addr), bs[j]? = some b → ∃ e, ks[j]? = some e ∧ H b = some (.tup [.str e.1, .str e.2]) := by
    intro j b hj
    rw [← hbs, List.getElem?_map] at hj
    cases hxj : xs'[j]? with
    | none => rw [hxj] at hj; exact nomatch (show (none : Option Addr) = some b from hj)
    | some x =>
      rw [hxj] at hj
      have eb : x.2.1 = b := Option.some.inj hj
      obtain ⟨e0, he0, r1, r2, r3⟩ := DX.pget rel hxj
      have hk0 : (kvs.map (·.1))[j]? = some e0.1 := by rw [List.getElem?_map, he0] <;> rfl
      rw [hks, List.getElem?_map] at hk0
      cases hkj : ks[j]? with
      | none => rw [hkj] at hk0; exact nomatch (show (none : Option (List Key)) = some e0.1 from hk0)
      | some e =>
        rw [hkj] at hk0
        have ee : keyOf2 e = e0.1 := Option.some.inj hk0
        rw [← ee, eb] at r2
        exact ⟨e, rfl, r2⟩
  have two : ∀ (h2 : Heap), (∀ b ob, s.heap.get? b = some ob → ob.cls = .type "tuple" → h2.get? b = some ob) → ∀ (j : Nat) (b : Addr), bs[j]? = some b → ∃ e, ks[j]? = some e ∧ Two h2 (.ref b) e := by
    intro h2 kp j b hj
    obtain ⟨e, he, hb⟩ := key j b hj
    obtain ⟨_, its, rv, ot, hot, hct, nt, hdt⟩ := (show ObjOk X.prog X.w H s.heap b (.tup [.str e.1, .str e.2]) from I.hok b _ hb)
    obtain ⟨t, u, rfl⟩ : ∃ t u, its = [Value.str e.1 t, Value.str e.2 u] := by
      cases rv with
      | cons r1 r2 =>
        cases r2 with
        | cons r2 r3 =>
          cases r3
          obtain ⟨t, rfl⟩ := r1
          obtain ⟨u, rfl⟩ := r2
          exact ⟨t, u, rfl⟩
    exact ⟨e, he, b, t, u, rfl, ot, kp _ _ hot hct, hct, nt, hdt⟩
  rw [ea]
  refine wpAny_bind (wpAny_newList ?_ (by rw [List.length_map, sizeLine_eq]; omega))
  have hob : (h'.push (seqObj "list" (bs.map Value.ref).toArray 0)).get? h'.objs.size = some (seqObj "list" (bs.map Value.ref).toArray 0) := Heap.get?_push_size _ rfl
  show wpAny _ _ _ _ _ { s with heap := h'.push (seqObj "list" (bs.map Value.ref).toArray 0), toks := tk }
  have kb : ∀ b o, s.heap.get? b = some o → (h'.push (seqObj "list" (bs.map Value.ref).toArray 0)).get? b = some o := fun b o e => Heap.get?_push_of_some _ (hk b o e)
  have ne0 : ∀ b o, s.heap.get? b = some o → b ≠ h'.objs.size := fun b o e => Nat.ne_of_lt (Heap.lt_size (hk b o e))
  generalize hh2 : h'.push (seqObj "list" (bs.map Value.ref).toArray 0) = h2 at hob kb ⊢
  have mid : ∀ b ob, s.heap.get? b = some ob → ob.cls = .type "tuple" → (TS.midHeap h2 h'.objs.size (bs.map Value.ref)).get? b = some ob := fun b ob e _ => TS.midHeap_old (ne0 _ _ e) (kb _ _ e)
  have at_ : ∀ v ∈ bs.map Value.ref, ∃ (j : Nat) (b : Addr) (e : Str × Str), v = .ref b ∧ bs[j]? = some b ∧ ks[j]? = some e ∧ Two (TS.midHeap h2 h'.objs.size (bs.map Value.ref)) (.ref b) e := by
    intro v hv'
    obtain ⟨b, hb, rfl⟩ := List.mem_map.mp hv'
    obtain ⟨j, hj⟩ := List.mem_iff_getElem?.mp hb
    obtain ⟨e, he, ht⟩ := two _ mid j b hj
    exact ⟨j, b, e, rfl, hj, he, ht⟩
  refine wpAny_bind (wpAny_holding (wpAny_call_entry PyProof.Rows.slot_list_sort ⟨_, hob, rfl⟩ PyProof.Rows.entry_list_sort
    (SK.plain_sort (s := { s with heap := h2, toks := tk }) (r := fun v => ρ (twoAt (TS.midHeap h2 h'.objs.size (bs.map Value.ref)) v)) hob (by rw [List.length_map]; omega) (fun h2' Qk hQk => ?_) fun ps out o1 o2 o3 => ⟨.none, rfl, ?_⟩) (PyProof.Rows.args_list_sort _)))
  · refine kind2 (s := { s with heap := TS.midHeap h2 h'.objs.size (bs.map Value.ref), toks := tk }) (ρ := ρ) h2' (fun v hv' => ?_) (fun v hv' u hu' => ?_) Qk hQk
    · obtain ⟨j, b, e, rfl, hj, he, ht⟩ := at_ v hv'
      exact ⟨e, ht⟩
    · obtain ⟨j, b, e, rfl, hj, he, ht⟩ := at_ v hv'
      obtain ⟨j2, b2, e2, rfl, hj2, he2, ht2⟩ := at_ u hu'
      show lex2 (twoAt (TS.midHeap h2 h'.objs.size (bs.map Value.ref)) (.ref b)) (twoAt (TS.midHeap h2 h'.objs.size (bs.map Value.ref)) (.ref b2)) = decide (ρ (twoAt (TS.midHeap h2 h'.objs.size (bs.map Value.ref)) (.ref b)) < ρ (twoAt (TS.midHeap h2 h'.objs.size (bs.map Value.ref)) (.ref b2)))
      rw [ht.at, ht2.at]
      exact hρ e (List.mem_of_getElem? he) e2 (List.mem_of_getElem? he2)
  · obtain ⟨zs, pz, ez⟩ := perm_lift (fun z : Addr × Str × Str => (Value.ref z.1, Value.ref z.1)) o2 (bs.zip ks) (DX.zip_self Value.ref bs ks lb)
    have idx : ∀ z ∈ zs, ∃ j : Nat, bs[j]? = some z.1 ∧ ks[j]? = some z.2 := by
      intro z' hz'
      obtain ⟨j, hj⟩ := List.mem_iff_getElem?.mp (pz.mem_iff.mp hz')
      exact ⟨j, List.getElem?_zip_eq_some.mp hj⟩
    have tw : ∀ z ∈ zs, twoAt (TS.midHeap h2 h'.objs.size (bs.map Value.ref)) (.ref z.1) = z.2 := by
      intro z' hz'
      obtain ⟨j, j1, j2⟩ := idx z' hz'
      obtain ⟨e, he, ht⟩ := two _ mid j z'.1 j1
      rw [ht.at]
      exact Option.some.inj (he.symm.trans j2)
    have hout : out.toList = zs.map fun z => Value.ref z.1 := by
      rw [o1, ← ez, List.map_map] <;> rfl
    have hperm : (zs.map (·.2)).Perm ks := by
      have e := pz.map (·.2)
      have m2 : (bs.zip ks).map (·.2) = ks := List.map_snd_zip (by rw [lb]; exact Nat.le_refl _)
      rw [m2] at e
      exact e
    have hsort : (zs.map (·.2)).Pairwise (fun e f => ρ e ≤ ρ f) := by
      rw [← ez, List.pairwise_map] at o3
      rw [List.pairwise_map]
      refine List.Pairwise.imp_of_mem (fun {x y} hx hy h => ?_) o3
      have h' : ρ (twoAt (TS.midHeap h2 h'.objs.size (bs.map Value.ref)) (.ref x.1)) ≤ ρ (twoAt (TS.midHeap h2 h'.objs.size (bs.map Value.ref)) (.ref y.1)) := h
      rw [tw x hx, tw y hy] at h'
      exact h'
    have kS : ∀ b o, s.heap.get? b = some o → (sortedHeap h2 h'.objs.size (bs.map Value.ref) out).get? b = some o := fun b o e => (PyProof.Rows.sortedHeap_old (ne0 b o e) (Heap.lt_size (kb b o e))).trans (kb b o e)
    obtain ⟨eF, heF⟩ := PyProof.Rows.sortedHeap_at (vs := bs.map Value.ref) (out := out) hob
    have I1 : Inv X pins σ H { s with heap := h', toks := tk } := I.kept (t' := tk) hk
    have kS' : ∀ b o, h'.get? b = some o → (sortedHeap h2 h'.objs.size (bs.map Value.ref) out).get? b = some o := fun b o e => by
      have e2 : h2.get? b = some o := by rw [← hh2]; exact Heap.get?_push_of_some _ e
      exact (PyProof.Rows.sortedHeap_old (Nat.ne_of_lt (Heap.lt_size e)) (Heap.lt_size e2)).trans e2
    have hlen : (zs.map fun z => V.ref z.1).length ≤ sizeLine := by
      have e := hperm.length_eq
      rw [List.length_map] at e
      rw [List.length_map, sizeLine_eq]
      omega
    have rv : Vals (zs.map fun z => V.ref z.1) out.toList := by
      rw [hout]
      exact vals_maps (fun z : Addr × Str × Str => V.ref z.1) (fun z => Value.ref z.1) zs fun _ _ => rfl
    have I2 : Inv X pins σ (upd H h'.objs.size (.lst (zs.map fun z => V.ref z.1))) { s with heap := sortedHeap h2 h'.objs.size (bs.map Value.ref) out, toks := tk } :=
      I1.laid (t' := tk) kS' (Nat.le_refl _) (show ObjOk X.prog X.w _ _ _ (.lst (zs.map fun z => V.ref z.1)) from ⟨hlen, out.toList, eF, rv, heF⟩)
    refine wpAny_pure ⟨_, rfl, .ref h'.objs.size, _, I2, rfl, q _ zs (I1.hok.fresh (Nat.le_refl _)) hperm hsort fun z' hz' => ?_⟩
    obtain ⟨j, j1, j2⟩ := idx z' hz'
    obtain ⟨e, he, hH⟩ := key j z'.1 j1
    have ee : e = z'.2 := Option.some.inj (he.symm.trans j2)
    rw [ee] at hH
    exact hH
end
end DJ
namespace DJ
open PySem PySem.Spec PyProof.Rows L2
/-! ### a dict that is filled, keys tuples of texts -/
abbrev Tb := List (List (List Nat) × List Nat)
abbrev encTb (kvs : Tb) : List (List Key × V) := kvs.map encT
def dcO (kvs : Tb) : MO := .hob (.dT (encTb kvs))
/-- the same, when it stands -/
def dicD (kvs : Tb) : Dt := .ext fun H v => ∃ a, v = .ref a ∧ H a = some (.dT (encTb kvs))
def putTb (kvs : Tb) (k : List (List Nat)) (v : List Nat) : Tb := if kvs.any (fun kv => decide (kv.1 = k)) then kvs.map (fun kv => if kv.1 = k then (kv.1, v) else kv) else kvs ++ [(k, v)]
theorem keys_inj : ∀ {a b : List (List Nat)}, (a.map fun k => (Sum.inr (tx k) : Key)) = (b.map fun k => (Sum.inr (tx k) : Key)) → a = b
  | [], [], _ => rfl
  | [], _ :: _, e => by simp at e
  | _ :: _, [], e => by simp at e
  | x :: xs, y :: ys, e => by
    rw [List.map_cons, List.map_cons] at e
    injection e with e1 e2
    have e3 : tx x = tx y := Sum.inr.inj e1
    have e4 : (tx x).cps.toList = (tx y).cps.toList := by rw [e3]
    have e5 : x = y := by simpa using e4
    rw [e5, keys_inj e2]
theorem key_dec (a b : List (List Nat)) : decide ((a.map fun k => (Sum.inr (tx k) : Key)) = (b.map fun k => (Sum.inr (tx k) : Key))) = decide (a = b) := by
  by_cases h : a = b
  · subst h
    rw [decide_eq_true rfl, decide_eq_true rfl]
  · rw [decide_eq_false h, decide_eq_false fun e => h (keys_inj e)]
theorem any_tb (kvs : Tb) (k : List (List Nat)) : ((encTb kvs).any fun kv => decide (kv.1 = (k.map fun k => (Sum.inr (tx k) : Key)))) = kvs.any fun kv => decide (kv.1 = k) := by
  rw [List.any_map]
  congr 1
  funext kv
  exact key_dec kv.1 k
theorem put_tb (kvs : Tb) (k : List (List Nat)) (v : List Nat) : putK (encTb kvs) (k.map fun k => (Sum.inr (tx k) : Key)) (.str (tx v)) = encTb (putTb kvs k v) := by
  unfold putK putTb
  rw [any_tb]
  cases h : kvs.any fun kv => decide (kv.1 = k) with
  | false =>
    rw [if_neg Bool.false_ne_true, if_neg Bool.false_ne_true]
    show _ = (kvs ++ [(k, v)]).map encT
    rw [List.map_append] <;> rfl
  | true =>
    rw [if_pos rfl, if_pos rfl]
    show (kvs.map encT).map _ = (kvs.map _).map encT
    rw [List.map_map, List.map_map]
    refine List.map_congr_left fun kv _ => ?_
    show (if (encT kv).1 = _ then _ else _) = encT (if kv.1 = k then (kv.1, v) else kv)
    by_cases e : kv.1 = k
    · rw [if_pos e, if_pos (by rw [← e])]
    · rw [if_neg e, if_neg (fun z => e (keys_inj z))]
def getTb (kvs : Tb) (k : List (List Nat)) : Option (List Nat) := (kvs.find? fun kv => decide (kv.1 = k)).map (·.2)
theorem get_tb (k : List (List Nat)) : ∀ kvs : Tb, valV (encTb kvs) (k.map fun k => (Sum.inr (tx k) : Key)) = (getTb kvs k).map fun z => V.str (tx z)
  | [] => rfl
  | kv :: kvs => by
    by_cases e : kv.1 = k
    · have e1 : getTb (kv :: kvs) k = some kv.2 := by
        unfold getTb
        rw [List.find?_cons_of_pos (by exact decide_eq_true e)] <;> rfl
      rw [e1]
      exact valV_pos (p := encT kv) (by rw [← e])
    · have e1 : getTb (kv :: kvs) k = getTb kvs k := by
        unfold getTb
        rw [List.find?_cons_of_neg (by rw [decide_eq_true_eq]; exact e)]
      rw [e1, ← get_tb k kvs]
      exact valV_neg (p := encT kv) fun z => e (keys_inj z)
section
variable {K : PySem.W.Frag} {B H : Hp} {G G1 : List (Option Sl)} {M M1 M2 M3 : List MO} {te td ty : TE}
theorem ev_dnewT : EvE K tDNewT G M (.o M.length) (M ++ [dcO []]) := fun F B as σ H ow sl Q q p hp => by
  refine q _ B (as ++ [p]) _ (Gr.refl F B) ⟨[p], rfl⟩ (ow.newO hp (show MoR K B _ p (dcO []) from ⟨upd_same, fun _ z => (nomatch z)⟩)) ⟨p, ?_, rfl⟩
  rw [← ow.len, List.getElem?_append_right (Nat.le_refl _), Nat.sub_self] <;> rfl
/-- d[k] = v -/
theorem es_put {k : Nat} {kvs : Tb} {ks : List (List Nat)} {v : List Nat} (hv : EvE K te G M (.d (.str v)) M1) (hd : EvE K td G M1 (.o k) M2) (hk : EvE K ty G M2 (.d (keyD ks)) M3) (hm : M3[k]? = some (dcO kvs)) (hl : kvs.length < 100000) :
    EvS K (sDPut td ty te) G M (.nx G (M3.set k (dcO (putTb kvs ks v)))) := fun F B as σ H ow sl D gd =>
  hv F B as σ H ow sl _ fun w B1 as1 H1 g1 p1 o1 r1 => hd F B1 as1 σ H1 o1 (sl.mono g1.1 p1) _ fun x B2 as2 H2 g2 p2 o2 r2 => hk F B2 as2 σ H2 o2 ((sl.mono g1.1 p1).mono g2.1 p2) _ fun y B3 as3 H3 g3 p3 o3 r3 => by
    obtain ⟨a, ha, rfl⟩ := r2
    obtain ⟨b, rfl, hb⟩ := r3 B3 (Same.refl _)
    have r1 : w = .str (tx v) := r1
    subst r1
    have ha3 : as3[k]? = some a := by
      obtain ⟨t, rfl⟩ := p3
      rw [List.getElem?_append_left (List.getElem?_eq_some_iff.mp ha).1]
      exact ha
    obtain ⟨f0, b0, hH, _⟩ := o3.own k a _ ha3 hm (fun z => nomatch z)
    have hH : H3 a = some (.dT (encTb kvs)) := hH
    refine ⟨a, _, rfl, .inr ⟨encTb kvs, _, b, hH, rfl, o3.bb _ _ hb, ?_, rfl⟩, ?_⟩
    · rw [List.length_map, sizeLine_eq]
      omega
    · rw [put_tb]
      refine gd B3 as3 σ _ ((g1.trans g2).trans g3) ((p1.trans p2).trans p3) (o3.put ha3 hm (fun z => nomatch z) (show MoR K B3 _ a (dcO _) from ⟨upd_same, fun _ z => (nomatch z)⟩)) (((sl.mono g1.1 p1).mono g2.1 p2).mono g3.1 p3)
theorem ev_freezeT {k : Nat} {kvs : Tb} (h : EvE K te G M (.o k) M1) (hm : M1[k]? = some (dcO kvs)) : EvE K te G M (.d (dicD kvs)) (M1.set k .gone) := fun F B as σ H ow sl Q q =>
  h F B as σ H ow sl _ fun v B1 as1 H1 g p o1 r => by
    obtain ⟨a, ha, rfl⟩ := r
    obtain ⟨g', ow'⟩ := o1.freezeO ha hm
    exact q _ _ as1 H1 (g.trans g') p ow' fun H' s => ⟨a, rfl, s _ _ upd_same⟩
/-- d[k], d.get(k) -/
theorem ev_atT {kvs : Tb} {ks : List (List Nat)} {z : List Nat} (hd : EvE K td G M (.d (dicD kvs)) M1) (hk : EvE K ty G M1 (.d (keyD ks)) M2) (hz : getTb kvs ks = some z) : EvE K (tDGet td ty) G M (.d (.str z)) M2 := fun F B as σ H ow sl Q q =>
  hd F B as σ H ow sl _ fun v B1 as1 H1 g1 p1 o1 r1 => hk F B1 as1 σ H1 o1 (sl.mono g1.1 p1) _ fun y B2 as2 H2 g2 p2 o2 r2 => by
    obtain ⟨a, rfl, ha⟩ := r1 B1 (Same.refl _)
    obtain ⟨b, rfl, hb⟩ := r2 B2 (Same.refl _)
    refine ⟨a, .str (tx z), rfl, .inr ⟨_, _, b, .inl (o2.bb _ _ (g2.1 _ _ ha)), rfl, o2.bb _ _ hb, ?_⟩, q _ B2 as2 H2 (g1.trans g2) (p1.trans p2) o2 rfl⟩
    rw [get_tb, hz] <;> rfl
theorem ev_get1T {kvs : Tb} {ks : List (List Nat)} (hd : EvE K td G M (.d (dicD kvs)) M1) (hk : EvE K ty G M1 (.d (keyD ks)) M2) : EvE K (tDGet1 td ty) G M (.d (oS (getTb kvs ks))) M2 := fun F B as σ H ow sl Q q =>
  hd F B as σ H ow sl _ fun v B1 as1 H1 g1 p1 o1 r1 => by
    obtain ⟨a, rfl, ha⟩ := r1 B1 (Same.refl _)
    refine ⟨a, rfl, .inr ⟨_, .inl (o1.bb _ _ ha)⟩, hk F B1 as1 σ H1 o1 (sl.mono g1.1 p1) _ fun y B2 as2 H2 g2 p2 o2 r2 => ?_⟩
    obtain ⟨b, rfl, hb⟩ := r2 B2 (Same.refl _)
    refine ⟨_, .inr ⟨_, _, b, .inl (o2.bb _ _ (g2.1 _ _ ha)), rfl, o2.bb _ _ hb, rfl⟩, q _ B2 as2 H2 (g1.trans g2) (p1.trans p2) o2 ?_⟩
    rw [get_tb]
    cases getTb kvs ks with
    | none => rfl
    | some z => rfl
end
/-- tuples that stand are taken into the base -/
theorem Ow.tups {K : PySem.W.Frag} {F H : Hp} {as : List Addr} {M : List MO} : ∀ (ts : List (Addr × List V)) {B : Hp}, Ow K F B as M H → (∀ z ∈ ts, H z.1 = some (.tup z.2)) → ∃ B', Gr F B B' ∧ Ow K F B' as M H ∧ ∀ z ∈ ts, B' z.1 = some (.tup z.2)
  | [], B, h, _ => ⟨B, Gr.refl F B, h, fun _ z => (nomatch z)⟩
  | t :: ts, B, h, ht => by
    have h0 := ht t List.mem_cons_self
    have sm : Same B (upd B t.1 (.tup t.2)) := fun c u e => by
      by_cases z : c = t.1
      · rw [z, upd_same]
        rw [z] at e
        exact h0.symm.trans (h.bb _ _ e)
      · rw [upd_ne z]; exact e
    have g : Gr F B (upd B t.1 (.tup t.2)) := ⟨sm, fun c k n => by
      by_cases z : c = t.1
      · have k2 := Kp.same k h.fb
        rw [z] at k2
        exact absurd h0 (k2.2 _)
      · rw [upd_ne z]; exact n⟩
    have o : Ow K F (upd B t.1 (.tup t.2)) as M H := by
      refine ⟨h.fb, fun c u e => ?_, h.len, h.nd, h.al, h.fa, fun k a m e1 e2 hm => ?_⟩
      · by_cases z : c = t.1
        · subst z; rw [upd_same] at e; rw [← e]; exact h0
        · rw [upd_ne z] at e; exact h.bb _ _ e
      · obtain ⟨q1, q2, q3⟩ := h.own k a m e1 e2 hm
        have ne : a ≠ t.1 := fun z => by
          have k2 := kp_mor hm q3
          rw [z] at k2
          exact k2.2 _ h0
        exact ⟨q1, by rw [upd_ne ne]; exact q2, MoR.mono sm rfl q3⟩
    obtain ⟨B', g2, o2, hb⟩ := Ow.tups ts o fun z hz => ht z (List.mem_cons_of_mem _ hz)
    refine ⟨B', g.trans g2, o2, fun z hz => ?_⟩
    rcases List.mem_cons.mp hz with e | hz
    · rw [e]; exact g2.1 _ _ upd_same
    · exact hb z hz
/-! ### one order of things that a rank tells apart -/
theorem perm_one {α : Type} (ρ : α → Int) : ∀ (l m : List α), l.Perm m → l.Pairwise (fun x y => ρ x ≤ ρ y) → m.Pairwise (fun x y => ρ x ≤ ρ y) → (∀ x ∈ l, ∀ y ∈ l, ρ x = ρ y → x = y) → l = m
  | [], m, p, _, _, _ => by rw [List.nil_perm.mp p]
  | x :: l, m, p, h1, h2, hi => by
    cases m with
    | nil => exact absurd p.length_eq (by simp)
    | cons y m =>
      have hy : y ∈ x :: l := p.mem_iff.mpr List.mem_cons_self
      have hx : x ∈ y :: m := p.mem_iff.mp List.mem_cons_self
      have e : x = y := by
        refine hi x List.mem_cons_self y hy (Int.le_antisymm ?_ ?_)
        · rcases List.mem_cons.mp hy with e | h
          · rw [e]; exact Int.le_refl _
          · exact (List.pairwise_cons.mp h1).1 y h
        · rcases List.mem_cons.mp hx with e | h
          · rw [e]; exact Int.le_refl _
          · exact (List.pairwise_cons.mp h2).1 x h
      subst e
      rw [perm_one ρ l m (List.Perm.cons_inv p) (List.pairwise_cons.mp h1).2 (List.pairwise_cons.mp h2).2 fun a ha b hb => hi a (List.mem_cons_of_mem _ ha) b (List.mem_cons_of_mem _ hb)]
/-- sorted(d) -/
abbrev P2 := List Nat × List Nat
abbrev key2 (e : P2) : Str × Str := (tx e.1, tx e.2)
def lexL (e f : P2) : Bool := if e.1 = f.1 then decide (e.2 < f.2) else decide (e.1 < f.1)
theorem lex_key (e f : P2) : lex2 (key2 e) (key2 f) = lexL e f := by
  unfold lex2 lexL
  have h : (key2 e).1 = (key2 f).1 ↔ e.1 = f.1 := ⟨fun h => by
    have h2 : (tx e.1).cps.toList = (tx f.1).cps.toList := congrArg (fun x : Str => x.cps.toList) h
    simpa using h2, fun h => by show tx e.1 = tx f.1; rw [h]⟩
  by_cases z : e.1 = f.1
  · rw [if_pos z, if_pos (h.mpr z)]
  · rw [if_neg z, if_neg (fun y => z (h.mp y))]
section
variable {K : PySem.W.Frag} {B H : Hp} {G G1 : List (Option Sl)} {M M1 M2 M3 : List MO} {te td ty : TE} {ta : TA}
theorem ev_sort2 {kvs : Tb} {ks so : List P2} (rk : P2 → Int) (hd : EvE K td G M (.d (dicD kvs)) M1) (hk : kvs.map (·.1) = ks.map fun e => [e.1, e.2]) (hl : ks.length < 64) (hr : ∀ e ∈ ks, ∀ f ∈ ks, lexL e f = decide (rk e < rk f)) (hp : so.Perm ks)
    (hs : so.Pairwise fun e f => rk e ≤ rk f) (hi : ∀ e ∈ ks, ∀ f ∈ ks, rk e = rk f → e = f) : EvE K (tCB rSort2 (tCons td tNil)) G M (.d (.lst (so.map fun e => .tup [.str e.1, .str e.2]))) M1 := fun F B as σ H ow sl Q q =>
  hd F B as σ H ow sl _ fun v B1 as1 H1 g1 p1 o1 r1 => by
    obtain ⟨a, rfl, ha⟩ := r1 B1 (Same.refl _)
    have un : ∀ e : P2, rk ((key2 e).1.cps.toList, (key2 e).2.cps.toList) = rk e := fun e => by
      show rk (e.1.toArray.toList, e.2.toArray.toList) = rk e
      rw [List.toList_toArray, List.toList_toArray]
    refine ⟨a, encTb kvs, ks.map key2, fun k => rk (k.1.cps.toList, k.2.cps.toList), rfl, o1.bb _ _ ha, ?_, by rw [List.length_map]; exact hl, fun x hx y hy => ?_, fun l ps hn hperm hsort hz => ?_⟩
    · have e1 : (encTb kvs).map (·.1) = (kvs.map (·.1)).map fun k => k.map fun x => (Sum.inr (tx x) : Key) := by rw [List.map_map, List.map_map] <;> rfl
      rw [e1, hk, List.map_map, List.map_map] <;> rfl
    · obtain ⟨e, he, rfl⟩ := List.mem_map.mp hx
      obtain ⟨f, hf, rfl⟩ := List.mem_map.mp hy
      show _ = decide (rk ((key2 e).1.cps.toList, (key2 e).2.cps.toList) < rk ((key2 f).1.cps.toList, (key2 f).2.cps.toList))
      rw [lex_key, un e, un f]
      exact hr e he f hf
    · have eq : ps.map (·.2) = so.map key2 := by
        refine perm_one (fun k : Str × Str => rk (k.1.cps.toList, k.2.cps.toList)) _ _ (hperm.trans (hp.map key2).symm) hsort ?_ fun x hx y hy e => ?_
        · rw [List.pairwise_map]
          refine hs.imp fun {e f} h => ?_
          show rk ((key2 e).1.cps.toList, (key2 e).2.cps.toList) ≤ rk ((key2 f).1.cps.toList, (key2 f).2.cps.toList)
          rw [un e, un f]
          exact h
        · obtain ⟨e1, he, rfl⟩ := List.mem_map.mp (hperm.mem_iff.mp hx)
          obtain ⟨f1, hf, rfl⟩ := List.mem_map.mp (hperm.mem_iff.mp hy)
          have e : rk ((key2 e1).1.cps.toList, (key2 e1).2.cps.toList) = rk ((key2 f1).1.cps.toList, (key2 f1).2.cps.toList) := e
          rw [un e1, un f1] at e
          rw [hi e1 he f1 hf e]
      obtain ⟨B2, g2, o2, hB⟩ := o1.tups (ps.map fun z => (z.1, [V.str z.2.1, V.str z.2.2])) fun z hz' => by
        obtain ⟨y, hy, rfl⟩ := List.mem_map.mp hz'
        exact hz y hy
      have g3 := o2.gr hn (.lst (ps.map fun z => V.ref z.1))
      refine q _ _ as1 _ ((g1.trans g2).trans g3) p1 (o2.new hn _) ⟨l, _, rfl, .inl (.inl upd_same), ?_⟩
      have all : ∀ (ps : List (Addr × Str × Str)) (so : List P2), ps.map (·.2) = so.map key2 → (∀ z ∈ ps, B2 z.1 = some (.tup [V.str z.2.1, V.str z.2.2])) → RpL K B2 (so.map fun e => Dt.tup [.str e.1, .str e.2]) (ps.map fun z => V.ref z.1) := by
        intro ps
        induction ps with
        | nil =>
          intro so e _
          cases so with
          | nil => rfl
          | cons x xs => cases e
        | cons z ps ih =>
          intro so e hb
          cases so with
          | nil => cases e
          | cons x xs =>
            rw [List.map_cons, List.map_cons] at e
            injection e with e1 e2
            refine ⟨_, _, rfl, ⟨z.1, _, rfl, .inl (.inl (hb z List.mem_cons_self)), ?_⟩, ih xs e2 fun y hy => hb y (List.mem_cons_of_mem _ hy)⟩
            rw [e1]
            exact ⟨_, _, rfl, rfl, _, _, rfl, rfl, rfl⟩
      exact RpL.mono g3.1 _ _ (all ps so eq fun z hz' => hB (z.1, [V.str z.2.1, V.str z.2.2]) (List.mem_map.mpr ⟨z, hz', rfl⟩))
end
end DJ
namespace DJ
open PySem PySem.Spec PyProof.Rows L2
/-! ### two arguments by names, the last one first -/
abbrev gRev (us ws : List Value) : List Value := us ++ ws.reverse
abbrev gRevV (us ws : List V) : List V := us ++ ws.reverse
structure CalR2 (P : Program) (w : World) (K : PySem.W.Frag) (mg : Str → Option Value) (base : Heap) (k : Nat) (x : Str) (ks : List Str) (sp : Sp) : Prop where
  ex : ∃ (f : Addr) (fd : FuncData) (ps : List Str), FnOk P w K mg base CX0 k f fd ps sp ∧ mg x = some (.ref f) ∧ PySem.W.keepIn K (.ref f) = true ∧ KBinds K fd ps ks gRev gRevV
theorem vals_rev {vs : List V} {us : List Value} (r : Vals vs us) : Vals vs.reverse us.reverse := by
  induction r with
  | nil => exact .nil
  | @cons a b as bs h t ih =>
    rw [List.reverse_cons, List.reverse_cons]
    exact Vals.append ih (.cons h .nil)
section
variable {P : Program} {w : World} {K : PySem.W.Frag} {mg : Str → Option Value} {base : Heap}
theorem CalF.kw2 {k : Nat} {x y z : Str} {st : Stmt} {sp : Sp} (c : CalF P w K mg base k x st [y, z] sp)
    (h1 : ∀ (kV doc pm : Value) (an : Option Addr) (cdv ct u v : Value), bindArgs (PySem.W.fnOf x x (defArgs st) (defBody st) (defScope st) .none kV doc pm an cdv ct) ⟨[u], [(z, v)]⟩ = pure [(y, u), (z, v)])
    (h2 : ∀ (kV doc pm : Value) (an : Option Addr) (cdv ct u v : Value), bindArgs (PySem.W.fnOf x x (defArgs st) (defBody st) (defScope st) .none kV doc pm an cdv ct) ⟨[], [(z, v), (y, u)]⟩ = pure [(y, u), (z, v)]) : CalR2 P w K mg base k x [z, y] sp := by
  obtain ⟨f, fd, F, U, hm, b⟩ := c.ex
  refine ⟨f, fd, [y, z], F, hm, U.kp, ⟨fun s us ws hK hl => ?_, fun r1 r2 => Vals.append r1 (vals_rev r2)⟩⟩
  have hl : us.length + ws.length = 2 := by
    have : (us ++ ws.reverse).length = 2 := hl
    rw [List.length_append, List.length_reverse] at this
    exact this
  obtain ⟨oc, od, kV, doc, pm, an, cdv, ct, osl, e, lk, hcd⟩ := U.ex
  match us, ws, hl with
  | [u, v], [], _ => exact b s [u, v] hK rfl
  | [u], [v], _ => subst e; exact .of_eq (h1 kV doc pm an cdv ct u v)
  | [], [v, u], _ => subst e; exact .of_eq (h2 kV doc pm an cdv ct u v)
  | a :: b :: c :: d, _, hl => simp at hl; omega
  | a :: b :: [], _ :: _, hl => simp at hl
  | [_], _ :: _ :: _, hl => simp at hl; omega
  | [_], [], hl => simp at hl
  | [], [], hl => simp at hl
  | [], [_], hl => simp at hl
  | [], _ :: _ :: _ :: _, hl => simp at hl
end
section
variable {X : Cx} {k j : Nat} {x : Str} {ks : List Str} {sp : Sp} {p pos : Pos} {kws : List Keyword} {tk : TA}
theorem pe_cKr (c : CalR2 X.prog X.w X.K X.mg X.base k x ks sp) (hr : Room j X.A) (hk : k ≤ j) (hg : Gl X x) (hkw : PK X kws tk)
    (hall : (backToKw pos (keywordEach kws X.env)).all (·.1.isSome) = true := by rfl) (hks : (backToKw pos (keywordEach kws X.env)).filterMap (·.1) = ks := by rfl) (hdb : (x == ("__debug__" : Str)) = false := by decide)
    (hpl : ((backTo pos (starEach [] X.env)).any (·.1) || (backToKw pos (keywordEach kws X.env)).any (·.1.isNone)) = false := by rfl) : PE X (.Call (.Name x p) [] kws pos) (tCallK sp gRevV L2.E0 tNil tk) := by
  obtain ⟨f, fd, ps, F, hm, kp, hb⟩ := c.ex
  refine ⟨fun pins s σ H Q I h => ?_⟩
  refine wpAny_Call_Name_kw (ld_glob I hg hm ?_ hdb)
  refine PySem.W.callWith_KW0 (h₀ := X.base) I.ok.mod.kin kp hall (thn (hkw.run pos pins s σ H _ I h) fun ws s2 r2 => ?_) hpl
  obtain ⟨zs, H2, I2, rz, q2⟩ := r2
  refine ⟨I2.kIn, ?_⟩
  rw [hks]
  exact run_fnk (us := []) (vs := []) F (hr.mono hk) hb L2.pass0 I2 .nil rz q2
end
section
variable {K : PySem.W.Frag} {G : List (Option Sl)} {M M1 : List MO} {E : XK} {tk : TA} {a b z : Dt}
theorem ev_kwr {R : List Sl → List MO → Sl → List MO → Prop} (h : EvA K tk G M [.d b, .d a] M1) (hR : R [.d a, .d b] [] (.d z) []) : EvE K (tCallK (SpR K 2 R) gRevV E tNil tk) G M (.d z) M1 := fun F B as σ H ow sl Q q =>
  h F B as σ H ow sl _ fun vs B1 as1 H1 g1 p1 o1 r1 => by
    obtain ⟨v, r, e, h1, u, r', e', h2, e3⟩ := r1
    have e3 : r' = [] := e3
    subst e3; subst e'; subst e
    refine call_core (ds := [a, b]) (vs := [u, v]) hR rfl o1 ⟨u, _, rfl, h2, v, _, rfl, h1, rfl⟩ fun v B' as' H' g o' r' => ?_
    obtain ⟨g2, o2⟩ := back0 o1 g o'
    exact q v B' as1 H' (g1.trans g2) p1 o2 r'
end
theorem es_nxM {K : PySem.W.Frag} {G G1 : List (Option Sl)} {M M1 M2 : List MO} {t : TS} (h : EvS K t G M (.nx G1 M1)) (e : M1 = M2) : EvS K t G M (.nx G1 M2) := e ▸ h
end DJ
namespace DJ
open PySem PySem.Spec PyProof.Rows L2
/-! ### isinstance(x, str), of things of many kinds -/
/-- a dict without entries -/
def dic0 : Dt := .ext fun H v => ∃ a, v = .ref a ∧ H a = some (.dK [])
/-- what is looked at: texts, and things that are none -/
inductive Kd : Dt → Bool → Prop where
  | non : Kd .non false
  | bl (b : Bool) : Kd (.bl b) false
  | int (i : Int) : Kd (.int i) false
  | str (x : List Nat) : Kd (.str x) true
  | lst (xs : List Dt) : Kd (.lst xs) false
  | tup (xs : List Dt) : Kd (.tup xs) false
  | dic : Kd dic0 false
abbrev tyStr : Dt := .raw (.ty "str")
section
variable {K : PySem.W.Frag} {B : Hp} {d : Dt} {b : Bool}
theorem Kd.at (k : Kd d b) {F : Hp} {as : List Addr} {M : List MO} {H : Hp} {v : V} (ow : Ow K F B as M H) (r : Rp K B d v) : ∃ t : String, TyX K H v (.type t) ∧ kitB t "str" = some b := by
  cases k with
  | non =>
    have r : v = .non := r
    subst r
    exact ⟨"NoneType", .base .non, by decide +kernel⟩
  | bl x =>
    have r : v = .bl x := r
    subst r
    exact ⟨"bool", .base (.bl x), by decide +kernel⟩
  | int x =>
    have r : v = .int x := r
    subst r
    exact ⟨"int", .base (.int x), by decide +kernel⟩
  | str x =>
    have r : v = .str (tx x) := r
    subst r
    exact ⟨"str", .base (.str _), by decide +kernel⟩
  | lst xs =>
    obtain ⟨a, vs, rfl, h1, h2⟩ := r
    refine ⟨"list", ?_, by decide +kernel⟩
    rcases h1 with (h | ⟨o, h⟩) | ⟨o, its, n, h, hc, _⟩
    · exact .base (.lst (ow.bb _ _ h))
    · exact .base (.frz (ow.bb _ _ h))
    · exact .kList h hc
  | tup xs =>
    obtain ⟨a, vs, rfl, h1, h2⟩ := r
    refine ⟨"tuple", ?_, by decide +kernel⟩
    rcases h1 with (h | ⟨o, h⟩) | ⟨o, its, n, h, hc, _⟩
    · exact .base (.tup (ow.bb _ _ h))
    · exact .fTuple (ow.bb _ _ h)
    · exact .kTuple h hc
  | dic =>
    obtain ⟨a, rfl, h⟩ := r B (Same.refl B)
    exact ⟨"dict", .base (.dK (ow.bb _ _ h)), by decide +kernel⟩
theorem rc_isStr (k : Kd d b) : RC K (rIsi K) [d, tyStr] (.bl b) := fun F B as M H vs Q ow r q => by
  obtain ⟨v, r1, e1, h1, w, r2, e2, h2, e3⟩ := r
  have h2 : w = V.ty "str" := h2
  have e3 : r2 = [] := e3
  subst e3; subst e2; subst e1; subst h2
  obtain ⟨t, ht, hb⟩ := k.at ow h1
  exact ⟨v, _, _, _, b, rfl, .ty "str", ht, kit_ty hb, q _ B H (Gr.refl F B) ow rfl⟩
theorem ev_ty {G : List (Option Sl)} {M : List MO} {n : String} : EvE K (tC (.ty n)) G M (.d (.raw (.ty n))) M := fun F B as σ H ow sl Q q => q _ B as H (Gr.refl F B) (Px.refl as) ow rfl
theorem ev_dic0 {G : List (Option Sl)} {M : List MO} : EvE K tDNewK G M (.d dic0) M := fun F B as σ H ow sl Q q p hp =>
  q _ _ as _ (ow.gr hp _) (Px.refl as) (ow.new hp _) fun H' s => ⟨p, rfl, s _ _ upd_same⟩
end
end DJ
namespace DJ
open PySem PySem.Spec PyProof.Rows L2
/-! ### is, is not of truth values -/
theorem is_bools (a b : Bool) : compareOp .Is (.bool a) (.bool b) = pure (.bool (decide (a = b))) := by cases a <;> cases b <;> rfl
theorem isnot_bools (a b : Bool) : compareOp .IsNot (.bool a) (.bool b) = pure (.bool (!decide (a = b))) := by cases a <;> cases b <;> rfl
def rIsB (n : Bool) : R2 := fun x y H Q => ∃ a b, x = .bl a ∧ y = .bl b ∧ Q (.bl (if n = true then !decide (a = b) else decide (a = b))) H
section
variable {X : Cx}
theorem op_isB : OpR X (compareOp .Is) (rIsB false) := by
  intro pins s σ H x y v u Q I rx ry h
  obtain ⟨a, b, rfl, rfl, q⟩ := h
  cases rx
  cases ry
  exact wpAny_of_eq (is_bools a b) ⟨.bl (decide (a = b)), H, I, rfl, q⟩
theorem op_notB : OpR X (compareOp .IsNot) (rIsB true) := by
  intro pins s σ H x y v u Q I rx ry h
  obtain ⟨a, b, rfl, rfl, q⟩ := h
  cases rx
  cases ry
  exact wpAny_of_eq (isnot_bools a b) ⟨.bl (!decide (a = b)), H, I, rfl, q⟩
end
section
variable {K : PySem.W.Frag} {a b : Bool}
theorem ro_isB : RO K (rIsB false) (.bl a) (.bl b) (.bl (decide (a = b))) := fun F B as M H v u Q ow r1 r2 q => ⟨a, b, r1, r2, q _ B H (Gr.refl F B) ow rfl⟩
theorem ro_notB : RO K (rIsB true) (.bl a) (.bl b) (.bl (!decide (a = b))) := fun F B as M H v u Q ow r1 r2 q => ⟨a, b, r1, r2, q _ B H (Gr.refl F B) ow rfl⟩
end
/-! ### text * number -/
def rRepS : R2 := fun x y H Q => ∃ (l : List Nat) (n : Nat), x = .str (tx l) ∧ y = .int (n : Int) ∧ 2 ≤ n ∧ n ≤ 1000 ∧ l ≠ [] ∧ l.length ≤ 1000 ∧ Q (.str (tx (List.replicate n l).flatten)) H
theorem fold_rep (l : List Nat) : ∀ (n : Nat) (a : Array Nat), ((List.replicate n l.toArray).foldl (· ++ ·) a).toList = a.toList ++ (List.replicate n l).flatten
  | 0, a => by simp
  | n + 1, a => by
    rw [List.replicate_succ, List.replicate_succ, List.foldl_cons, fold_rep l n, List.flatten_cons, Array.toList_append, List.append_assoc]
theorem op_repS {X : Cx} : OpR X (binaryOp .Mult) rRepS := by
  intro pins s σ H x y v u Q I rx ry h
  obtain ⟨l, n, rfl, rfl, h1, h2, hne, hl, q⟩ := h
  obtain ⟨t, rfl⟩ := rx
  obtain ⟨t', rfl⟩ := ry
  have hp : 0 < l.length := List.length_pos_iff.mpr hne
  have hm : l.length * n ≤ 1000000 := Nat.le_trans (Nat.mul_le_mul hl h2) (by decide)
  have e1 : ((n : Int) == 1 || (tx l).length == 0) = false := by
    rw [tx_len]
    refine Bool.or_eq_false_iff.mpr ⟨beq_eq_false_iff_ne.mpr (by omega), beq_eq_false_iff_ne.mpr (by omega)⟩
  have er : (⟨(List.replicate (n : Int).toNat (tx l).cps).foldl (· ++ ·) #[]⟩ : Str) = tx (List.replicate n l).flatten := by
    rw [Int.toNat_natCast]
    show (⟨_⟩ : Str) = ⟨_⟩
    congr 1
    apply Array.toList_inj.mp
    rw [fold_rep] <;> simp
  refine P.mul_str (Bool.or_eq_false_iff.mpr ⟨decide_eq_false (by omega), decide_eq_false (by omega)⟩) (fun _ _ => ?_) (fun _ _ => ?_) ?_
  · rw [tx_len]
    rw [show (2 ^ 63 - 1 : Int) = 9223372036854775807 by decide]
    have : (9223372036854775807 : Int) / (n : Int) ≥ 1000 := by
      rw [ge_iff_le, Int.le_ediv_iff_mul_le (by omega)]
      omega
    omega
  · rw [tx_len, Int.toNat_natCast]
    unfold Builtin.Str.tooLong
    refine decide_eq_false ?_
    rw [sizeLine_eq]
    omega
  · rw [if_neg (by omega), if_neg (by rw [e1]; exact Bool.false_ne_true), er]
    refine ⟨?_, .str _, H, I.tok _, ⟨_, rfl⟩, q⟩
    have el : ∀ n : Nat, (List.replicate n l).flatten.length = l.length * n := fun n => by
      induction n with
      | zero => rfl
      | succ n ih => rw [List.replicate_succ, List.flatten_cons, List.length_append, ih, Nat.mul_succ, Nat.add_comm]
    rw [tx_len, el, sizeLine_eq]
    omega
theorem ro_repS {K : PySem.W.Frag} {l : List Nat} {n : Nat} (h1 : 2 ≤ n) (h2 : n ≤ 1000) (hne : l ≠ []) (hl : l.length ≤ 1000) : RO K rRepS (.str l) (.int (n : Int)) (.str (List.replicate n l).flatten) := fun F B as M H v u Q ow r1 r2 q => ⟨l, n, r1, r2, h1, h2, hne, hl, q _ B H (Gr.refl F B) ow rfl⟩
end DJ
namespace DJ
open PySem PySem.Spec PyProof.Rows L2
/-! ### == of plain data of any kind -/
mutual
def toP : Dt → PyData
  | .non => .none
  | .bl b => .bool b
  | .int i => .int i
  | .str x => .str (tx x)
  | .lst xs => .list (toPs xs)
  | .tup xs => .tuple (toPs xs)
  | .raw _ => .none
  | .ext _ => .none
def toPs : List Dt → List PyData
  | [] => []
  | d :: ds => toP d :: toPs ds
end
mutual
def plD : Dt → Bool
  | .non => true
  | .bl _ => true
  | .int _ => true
  | .str x => x.all (· < 128)
  | .lst xs => plDs xs
  | .tup xs => plDs xs
  | .raw _ => false
  | .ext _ => false
def plDs : List Dt → Bool
  | [] => true
  | d :: ds => plD d && plDs ds
end
mutual
def dpD : Dt → Nat
  | .lst xs => dpDs xs + 1
  | .tup xs => dpDs xs + 1
  | _ => 0
def dpDs : List Dt → Nat
  | [] => 0
  | d :: ds => max (dpD d) (dpDs ds)
end
section
variable {K : PySem.W.Frag} {H : Hp}
mutual
theorem dp_of : ∀ (d : Dt) (v : V), plD d = true → Rp K H d v → Dp K H v (toP d)
  | .non, v, _, h => by rw [show v = .non from h]; exact .non
  | .bl b, v, _, h => by rw [show v = .bl b from h]; exact .bl b
  | .int i, v, _, h => by rw [show v = .int i from h]; exact .int i
  | .str x, v, _, h => by rw [show v = .str (tx x) from h]; exact .str _
  | .lst xs, v, p, h => by
    obtain ⟨a, vs, rfl, h1, h2⟩ := h
    exact .lst h1 (dp_ofs xs vs p h2)
  | .tup xs, v, p, h => by
    obtain ⟨a, vs, rfl, h1, h2⟩ := h
    exact .tup h1 (dp_ofs xs vs p h2)
  | .raw _, _, p, _ => nomatch p
  | .ext _, _, p, _ => nomatch p
theorem dp_ofs : ∀ (ds : List Dt) (vs : List V), plDs ds = true → RpL K H ds vs → DpAll K H vs (toPs ds)
  | [], vs, _, h => by rw [show vs = [] from h]; exact .nil
  | d :: ds, vs, p, h => by
    obtain ⟨v, r, rfl, h1, h2⟩ := h
    have p : (plD d && plDs ds) = true := p
    rw [Bool.and_eq_true] at p
    exact .cons (dp_of d v p.1 h1) (dp_ofs ds r p.2 h2)
end
end
theorem strOk_asc {x : List Nat} (h : x.all (· < 128) = true) : (PyData.str (tx x)).canLay0 = true := by
  have := (lay_strs [x] (fun y hy c hc => by
    rw [List.mem_singleton] at hy
    subst hy
    exact of_decide_eq_true (List.all_eq_true.mp h c hc))).1
  simpa [PyData.canLayAll0] using this
mutual
theorem lay_of : ∀ d : Dt, plD d = true → (toP d).canLay0 = true ∧ (toP d).depth = dpD d
  | .non, _ => ⟨by simp [toP, PyData.canLay0], by simp [toP, PyData.depth, dpD]⟩
  | .bl b, _ => ⟨by simp [toP, PyData.canLay0], by simp [toP, PyData.depth, dpD]⟩
  | .int i, _ => ⟨by simp [toP, PyData.canLay0], by simp [toP, PyData.depth, dpD]⟩
  | .str x, p => ⟨strOk_asc p, by simp [toP, PyData.depth, dpD]⟩
  | .lst xs, p => by
    obtain ⟨h1, h2⟩ := lay_ofs xs p
    exact ⟨by simpa [toP, PyData.canLay0] using h1, by simp [toP, PyData.depth, dpD, h2]⟩
  | .tup xs, p => by
    obtain ⟨h1, h2⟩ := lay_ofs xs p
    exact ⟨by simpa [toP, PyData.canLay0] using h1, by simp [toP, PyData.depth, dpD, h2]⟩
  | .raw _, p => nomatch p
  | .ext _, p => nomatch p
theorem lay_ofs : ∀ ds : List Dt, plDs ds = true → PyData.canLayAll0 (toPs ds) = true ∧ PyData.depthAll (toPs ds) = dpDs ds
  | [], _ => ⟨by simp [toPs, PyData.canLayAll0], by simp [toPs, PyData.depthAll, dpDs]⟩
  | d :: ds, p => by
    have p : (plD d && plDs ds) = true := p
    rw [Bool.and_eq_true] at p
    obtain ⟨h1, h2⟩ := lay_of d p.1
    obtain ⟨h3, h4⟩ := lay_ofs ds p.2
    exact ⟨by simp [toPs, PyData.canLayAll0, h1, h3], by simp [toPs, PyData.depthAll, dpDs, h2, h4]⟩
end
theorem shp_of {d : Dt} (h : plD d = true) (hd : dpD d ≤ 64) : SeqAt.shaped (toP d) = true := by
  obtain ⟨h1, h2⟩ := lay_of d h
  unfold SeqAt.shaped
  rw [Bool.and_eq_true]
  exact ⟨h1, decide_eq_true (by rw [h2]; exact hd)⟩
def eqD (d e : Dt) : Bool := PyData.eqv (toP d) (toP e)
def eqDs (d e : List Dt) : Bool := PyData.eqvAll (toPs d) (toPs e)
mutual
theorem eqD_self : ∀ d : Dt, plD d = true → eqD d d = true
  | .non, _ => rfl
  | .bl b, _ => by simp [eqD, toP, PyData.eqv]
  | .int i, _ => by simp [eqD, toP, PyData.eqv]
  | .str x, _ => by
    show (tx x == tx x) = true
    rw [tx_beq, decide_eq_true rfl]
  | .lst xs, p => by
    have := eqDs_self xs p
    simpa [eqD, toP, PyData.eqv, eqDs] using this
  | .tup xs, p => by
    have := eqDs_self xs p
    simpa [eqD, toP, PyData.eqv, eqDs] using this
  | .raw _, p => nomatch p
  | .ext _, p => nomatch p
theorem eqDs_self : ∀ ds : List Dt, plDs ds = true → eqDs ds ds = true
  | [], _ => by simp [eqDs, toPs, PyData.eqvAll]
  | d :: ds, p => by
    have p : (plD d && plDs ds) = true := p
    rw [Bool.and_eq_true] at p
    have h1 := eqD_self d p.1
    have h2 := eqDs_self ds p.2
    unfold eqD at h1
    unfold eqDs at h2 ⊢
    simp [toPs, PyData.eqvAll, h1, h2]
end
section
variable {K : PySem.W.Frag} {d e : Dt}
theorem ro_eqDt (h1 : plD d = true) (h2 : plD e = true) (n1 : dpD d ≤ 64) (n2 : dpD e ≤ 64) : RO K (rEqD K) d e (.bl (eqD d e)) := fun F B as M H v u Q ow r1 r2 q =>
  ⟨_, _, dp_of d v h1 (Rp.mono ow.bb _ _ r1), dp_of e u h2 (Rp.mono ow.bb _ _ r2), shp_of h1 n1, shp_of h2 n2, q _ B H (Gr.refl F B) ow rfl⟩
theorem ro_neDt (h1 : plD d = true) (h2 : plD e = true) (n1 : dpD d ≤ 64) (n2 : dpD e ≤ 64) : RO K (rNeD K) d e (.bl (!eqD d e)) := fun F B as M H v u Q ow r1 r2 q =>
  ⟨_, _, dp_of d v h1 (Rp.mono ow.bb _ _ r1), dp_of e u h2 (Rp.mono ow.bb _ _ r2), shp_of h1 n1, shp_of h2 n2, q _ B H (Gr.refl F B) ow rfl⟩
theorem ro_eqSelf (h1 : plD d = true) (n1 : dpD d ≤ 64) : RO K (rEqD K) d d (.bl true) := by
  have := ro_eqDt (K := K) h1 h1 n1 n1
  rw [eqD_self d h1] at this
  exact this
theorem ro_neSelf (h1 : plD d = true) (n1 : dpD d ≤ 64) : RO K (rNeD K) d d (.bl false) := by
  have := ro_neDt (K := K) h1 h1 n1 n1
  rw [eqD_self d h1] at this
  exact this
end
/-! ### four arguments by names, the last one first -/
section
variable {P : Program} {w : World} {K : PySem.W.Frag} {mg : Str → Option Value} {base : Heap}
theorem CalF.kw4 {k : Nat} {x a b c d : Str} {st : Stmt} {sp : Sp} (cf : CalF P w K mg base k x st [a, b, c, d] sp)
    (h1 : ∀ (kV doc pm : Value) (an : Option Addr) (cdv ct u v y z : Value), bindArgs (PySem.W.fnOf x x (defArgs st) (defBody st) (defScope st) .none kV doc pm an cdv ct) ⟨[u, v, y], [(d, z)]⟩ = pure [(a, u), (b, v), (c, y), (d, z)])
    (h2 : ∀ (kV doc pm : Value) (an : Option Addr) (cdv ct u v y z : Value), bindArgs (PySem.W.fnOf x x (defArgs st) (defBody st) (defScope st) .none kV doc pm an cdv ct) ⟨[u, v], [(d, z), (c, y)]⟩ = pure [(a, u), (b, v), (c, y), (d, z)])
    (h3 : ∀ (kV doc pm : Value) (an : Option Addr) (cdv ct u v y z : Value), bindArgs (PySem.W.fnOf x x (defArgs st) (defBody st) (defScope st) .none kV doc pm an cdv ct) ⟨[u], [(d, z), (c, y), (b, v)]⟩ = pure [(a, u), (b, v), (c, y), (d, z)])
    (h4 : ∀ (kV doc pm : Value) (an : Option Addr) (cdv ct u v y z : Value), bindArgs (PySem.W.fnOf x x (defArgs st) (defBody st) (defScope st) .none kV doc pm an cdv ct) ⟨[], [(d, z), (c, y), (b, v), (a, u)]⟩ = pure [(a, u), (b, v), (c, y), (d, z)]) : CalR2 P w K mg base k x [d, c, b, a] sp := by
  obtain ⟨f, fd, F, U, hm, bb⟩ := cf.ex
  refine ⟨f, fd, [a, b, c, d], F, hm, U.kp, ⟨fun s us ws hK hl => ?_, fun r1 r2 => Vals.append r1 (vals_rev r2)⟩⟩
  have hl : us.length + ws.length = 4 := by
    have : (us ++ ws.reverse).length = 4 := hl
    rw [List.length_append, List.length_reverse] at this
    exact this
  obtain ⟨oc, od, kV, doc, pm, an, cdv, ct, osl, e, lk, hcd⟩ := U.ex
  rcases us with _ | ⟨u, _ | ⟨v, _ | ⟨y, _ | ⟨z, _ | ⟨o, us⟩⟩⟩⟩⟩
  · rcases ws with _ | ⟨z, _ | ⟨y, _ | ⟨v, _ | ⟨u, _ | ⟨o, ws⟩⟩⟩⟩⟩ <;> first | (exfalso; simp at hl; done) | (exfalso; simp at hl; omega) | skip
    · subst e; exact .of_eq (h4 kV doc pm an cdv ct u v y z)
  · rcases ws with _ | ⟨z, _ | ⟨y, _ | ⟨v, _ | ⟨o, ws⟩⟩⟩⟩ <;> first | (exfalso; simp at hl; done) | (exfalso; simp at hl; omega) | skip
    · subst e; exact .of_eq (h3 kV doc pm an cdv ct u v y z)
  · rcases ws with _ | ⟨z, _ | ⟨y, _ | ⟨o, ws⟩⟩⟩ <;> first | (exfalso; simp at hl; done) | (exfalso; simp at hl; omega) | skip
    · subst e; exact .of_eq (h2 kV doc pm an cdv ct u v y z)
  · rcases ws with _ | ⟨z, _ | ⟨o, ws⟩⟩ <;> first | (exfalso; simp at hl; done) | (exfalso; simp at hl; omega) | skip
    · subst e; exact .of_eq (h1 kV doc pm an cdv ct u v y z)
  · rcases ws with _ | ⟨o, ws⟩ <;> first | (exfalso; simp at hl; done) | (exfalso; simp at hl; omega) | skip
    · exact bb s [u, v, y, z] hK rfl
  · first | (simp at hl; done) | (simp at hl; omega)
end
section
variable {K : PySem.W.Frag} {G : List (Option Sl)} {M M1 : List MO} {E : XK} {tk : TA} {a b c d z : Dt}
theorem ev_kwr4 {R : List Sl → List MO → Sl → List MO → Prop} (h : EvA K tk G M [.d d, .d c, .d b, .d a] M1) (hR : R [.d a, .d b, .d c, .d d] [] (.d z) []) : EvE K (tCallK (SpR K 4 R) gRevV E tNil tk) G M (.d z) M1 := fun F B as σ H ow sl Q q =>
  h F B as σ H ow sl _ fun vs B1 as1 H1 g1 p1 o1 r1 => by
    obtain ⟨v1, r1, e1, h1, v2, r2, e2, h2, v3, r3, e3, h3, v4, r4, e4, h4, e5⟩ := r1
    have e5 : r4 = [] := e5
    subst e5; subst e4; subst e3; subst e2; subst e1
    refine call_core (ds := [a, b, c, d]) (vs := [v4, v3, v2, v1]) hR rfl o1 ⟨v4, _, rfl, h4, v3, _, rfl, h3, v2, _, rfl, h2, v1, _, rfl, h1, rfl⟩ fun v B' as' H' g o' r' => ?_
    obtain ⟨g2, o2⟩ := back0 o1 g o'
    exact q v B' as1 H' (g1.trans g2) p1 o2 r'
end
end DJ
namespace DJ
open PySem PySem.Spec PyProof.Rows L2
/-! ### enumerate(text) -/
def Itx (x : Str) : It := ⟨fun i _ => i < x.cps.size, fun i H v H' => ∃ T c, v = .ref T ∧ H T = none ∧ H' = upd H T (.tup [.int (i : Nat), .str ⟨#[c]⟩]) ∧ x.cps[i]? = some c, fun i _ => x.cps.size ≤ i⟩
section
variable {prog : Program} {w : World} {A : Around} {E : Value → Shared → Prop} {s : Shared}
theorem nextOf_text_end {it : Addr} {x : Str} {t : Tok} {i : Nat} {Q : Value → Shared → Prop} (hh : A.handled = none)
    (hit : s.heap.IsStrIter it (strIterType x) x t i) (hx : x.cps[i]? = none)
    (hE : ∀ h' e, Heap.ExtBut it s.heap h' → (∃ o, h'.get? e = some o ∧ o.cls = .type "StopIteration") → E (.ref e) { s with heap := h' }) :
    wpAny (model prog w) A (Builtin.SmallTypes.nextOf (.ref it)) Q E s := by
  cases ha : x.cps.all (· < 128) with
  | true =>
    have e : strIterType x = "str_ascii_iterator" := by simp [strIterType, ha]
    rw [e] at hit
    exact wpAny_nextOf_ascii_end hh hit hx hE
  | false =>
    have e : strIterType x = "str_iterator" := by simp [strIterType, ha]
    rw [e] at hit
    exact wpAny_nextOf_wide_end hh hit hx hE
theorem pyNext_enum_text_end {e it : Addr} {x : Str} {t : Tok} {i : Nat} {old : Value} {Q : Option Value → Shared → Prop} (hh : A.handled = none)
    (he : IsEnum s.heap e it ((i : Nat) : Int) old) (hit : s.heap.IsStrIter it (strIterType x) x t i) (hx : x.cps[i]? = none)
    (hQ : ∀ h', Heap.ExtBut it s.heap h' → Q none { s with heap := h' }) : wpAny (model prog w) A (pyNext (.ref e)) Q E s := by
  have hT : s.TypeIs (.ref e) "enumerate" := ⟨_, he, rfl⟩
  unfold pyNext
  refine wpAny_bind (wpAny_attempt (wpAny_callSpecial?_slot (name := Str.ofString "__next__") hT F.slot_enumerate_next
    (wpAny_call_entry F.slot_enumerate_next hT F.entry_enumerate_next ?_ (F.args_enumerate_next_1 _))))
  show wpAny _ _ (field (.ref e) 2 >>= _) _ _ _
  refine wpAny_bind (wpAny_field he rfl (x := .ref it) rfl ?_)
  refine wpAny_bind (nextOf_text_end (show A.in1.handled = none from hh) hit hx fun h' x he' hx' => ?_)
  obtain ⟨o, ho, hc⟩ := hx'
  refine wpAny_bind (wpAny_isInstance (T := "StopIteration") (b := true) ⟨o, ho, hc⟩ isSubtype_stop ?_)
  exact wpAny_pure (hQ _ he')
end
theorem turn_enumS {P : Program} {w : World} {K : PySem.W.Frag} {elts : List Expr} {kk : Nat} {tpos : Pos} (x : Str) (t : Tok) (e it : Addr) :
    Turn P w K (.Tuple elts kk tpos) (Itx x) [e, it] e (fun i h => (∃ old, IsEnum h e it ((i : Nat) : Int) old) ∧ h.IsStrIter it (strIterType x) x t i ∧ e ≠ it) where
  mem := by simp
  obj := fun i h st b hb => by
    obtain ⟨⟨old, he⟩, ⟨o, ho, hc, hd⟩, _⟩ := st
    have e' : b = e ∨ b = it := by simpa using hb
    rcases e' with z | z
    · rw [z]; exact ⟨_, he, fun v q => nomatch q⟩
    · rw [z]; exact ⟨o, ho, fun v q => by rw [hd] at q; cases q⟩
  keep := fun i h h' st k => let ⟨⟨old, he⟩, ⟨o, ho, r⟩, hne⟩ := st; ⟨⟨old, k e (by simp) _ he⟩, ⟨o, k it (by simp) o ho, r⟩, hne⟩
  item := by
    intro X hP hw hK hc i pins s σ H E I hf st hg
    subst hP hw hK
    obtain ⟨⟨old, he⟩, hit, hne⟩ := st
    have hlt : i < x.cps.size := hg
    have hel : e < s.heap.objs.size := Heap.lt_size he
    have hil : it < s.heap.objs.size := by obtain ⟨_, q, _⟩ := hit; exact Heap.lt_size q
    refine wpAny_pyNext_enum_itemD (PySem.Draws.text (show X.A.in1.handled = none from I.ok.hd hc) it x t) he hit hlt hne (by simp [hne]) fun v h' tk hv ho hit' hT hsz hk => ?_
    obtain ⟨c, u, hx, rfl⟩ := hv
    refine ⟨_, rfl, wpAny_letOwnedTupleGo_enum (s := { s with heap := h', toks := tk + 1 }) ho fun h'' he' sb => ?_⟩
    have hT2 : h''.get? s.heap.objs.size = some { cls := .type "tuple", data := .seq #[.int i tk, .str ⟨#[c]⟩ u] } := (sb.2 _ (Nat.ne_of_gt hel)).trans hT
    have new : ObjOk X.prog X.w (upd H s.heap.objs.size (.tup [.int (i : Nat), .str ⟨#[c]⟩])) h'' s.heap.objs.size (.tup [.int (i : Nat), .str ⟨#[c]⟩]) :=
      ⟨by show 2 ≤ sizeLine; decide, [.int i tk, .str ⟨#[c]⟩ u], .cons ⟨_, rfl⟩ (.cons ⟨_, rfl⟩ .nil), ⟨_, hT2, rfl, _, rfl⟩⟩
    have I1 : Inv X pins σ (upd H s.heap.objs.size (.tup [.int (i : Nat), .str ⟨#[c]⟩])) { s with heap := h'', toks := tk + 1 } :=
      I.turnedNew (ch := [e, it]) (fun b ob hb q => (sb.2 b (fun z => hb (by simp [z]))).trans (hk b ob (fun z => hb (by simp [z])) (fun z => hb (by simp [z])) q)) hf (Nat.le_refl _) new
    refine ⟨.ref s.heap.objs.size, _, I1, rfl, ⟨_, c, rfl, I.hok.fresh (Nat.le_refl _), rfl, hx⟩, ⟨⟨.str ⟨#[c]⟩ u, ?_⟩, ?_, hne⟩, fun b hb => ?_⟩
    · have e1 : ((i + 1 : Nat) : Int) = (i : Int) + 1 := by omega
      rw [e1]; exact he'
    · obtain ⟨o, ho2, r⟩ := hit'
      exact ⟨o, (sb.2 it (Ne.symm hne)).trans ho2, r⟩
    · have hb' : b < s.heap.objs.size := by
        have e' : b = e ∨ b = it := by simpa using hb
        rcases e' with z | z
        · rw [z]; exact hel
        · rw [z]; exact hil
      rw [upd_ne (Nat.ne_of_lt hb')]
      exact (hf b hb).1
  done := by
    intro X hP hw hK hc i pins s σ H E I hf st hg
    subst hP hw hK
    obtain ⟨⟨old, he⟩, hit, hne⟩ := st
    have hx : x.cps.size ≤ i := hg
    obtain ⟨f0, f1, f2, f3, f4, f5⟩ := hf it (by simp)
    exact pyNext_enum_text_end (I.ok.hd hc) he hit (by simp; omega) fun h' eb => ⟨rfl, I.turned (t' := s.toks) (fun b o hb q => eb b o hb q) f0 f1 f3 f4 f5⟩
  self := fun A i s Q E st h => let ⟨⟨_, he⟩, _⟩ := st; wpAny_pyIter_enum he h
def iEnumS (ta : TA) : TI := fun σ H R => ta σ H fun vs H1 => ∃ x, vs = [.str x] ∧ R (Itx x) H1
theorem pi_enumS {X : Cx} {e : Expr} {ta : TA} {p pos tpos : Pos} {elts : List Expr} {kk : Nat} (hg : Gl X "enumerate") (hm : X.mg "enumerate" = none) (ha : PA X [e] ta) (hs : starEach [e] X.env = [(false, eval e X.env)] := by rfl) :
    PI X (.Tuple elts kk tpos) (.Call (.Name "enumerate" p) [e] [] pos) (iEnumS ta) := by
  refine ⟨fun pins s σ H R I h => ?_⟩
  refine Call_ (ld_blt I hg hm boot_enumerate (PyProof.Rows.callWith_type1 (thn (ha.run pos pins s σ H _ I h) fun us s1 ⟨vs, H1, I1, r1, q1⟩ => ?_) hs rfl))
  obtain ⟨x, ex, q⟩ := q1
  subst ex
  obtain ⟨u, rfl, t, rfl⟩ := vals1 r1
  refine call_enumerate_str fun h' he hit hsz hk => wpAny_pyIter_enum he ?_
  have I2 : Inv X pins σ H1 { s1 with heap := h' } := I1.kept (t' := s1.toks) hk
  refine ⟨s1.heap.objs.size + 1, [s1.heap.objs.size + 1, s1.heap.objs.size], _, _, H1, rfl, I2, turn_enumS x t (s1.heap.objs.size + 1) s1.heap.objs.size, ⟨⟨.none, he⟩, hit, Nat.succ_ne_self _⟩, fun b hb => ?_, q⟩
  have e' : b = s1.heap.objs.size + 1 ∨ b = s1.heap.objs.size := by simpa using hb
  have hle : s1.heap.objs.size ≤ b := by
    rcases e' with z | z
    · rw [z]; exact Nat.le_add_right _ _
    · rw [z]; exact Nat.le_refl _
  exact I1.fpOk hle (I1.hok.fresh hle)
section
variable {K : PySem.W.Frag} {B : Hp} {G G1 : List (Option Sl)} {M M1 M2 M3 : List MO} {te ta tb : TE} {tr : TA} {i j : Int} {l m : List Nat} {b : Bool} {x z : Dt}
theorem yl_enumS {l : List Nat} : Yl K B (Itx (tx l)) (enumD 0 (l.map fun c => .str [c])) := fun F B' as M H i e ow => by
  refine ⟨fun x hx => ?_, fun hi => ?_⟩
  · rw [enumD_get, List.getElem?_map] at hx
    cases hc : l[i]? with
    | none => rw [hc] at hx; cases hx
    | some c =>
      rw [hc] at hx
      have hx : Dt.tup [.int ((0 + i : Nat) : Nat), .str [c]] = x := Option.some.inj hx
      subst hx
      refine ⟨?_, fun v H' y => ?_⟩
      · show i < l.toArray.size
        rw [List.size_toArray]
        exact (List.getElem?_eq_some_iff.mp hc).1
      · obtain ⟨T, c', rfl, hT, rfl, h1⟩ := y
        have h2 : l[i]? = some c' := by
          rw [show (tx l).cps = l.toArray from rfl, List.getElem?_toArray] at h1
          exact h1
        rw [hc] at h2
        cases h2
        have hg := ow.gr hT (.tup [.int (i : Nat), .str ⟨#[c]⟩])
        refine ⟨_, hg, ow.new hT _, T, _, rfl, .inl (.inl upd_same), _, _, rfl, ?_, _, _, rfl, rfl, rfl⟩
        rw [Nat.zero_add]
        rfl
  · show l.toArray.size ≤ i
    rw [List.size_toArray]
    rw [enumD_len, List.length_map] at hi
    exact hi
theorem ei_enumS (h : EvA K tr G M [.d (.str l)] M1) : EvI K (iEnumS tr) G M (enumD 0 (l.map fun c => .str [c])) M1 := fun F B as σ H ow sl R q =>
  h F B as σ H ow sl _ fun vs B' as' H' g p o' r => ⟨tx l, two_str (SlL.data (ds := [.str l]) r), q _ B' as' H' g p o' yl_enumS⟩
/-! ### slices of lists -/
theorem ev_slL {tl th : TO} {lo hi : Option Int} {xs : List Dt} (h : EvE K te G M (.d (.lst xs)) M1) (h1 : EvO K tl G M1 lo M2) (h2 : EvO K th G M2 hi M3) : EvE K (tSl (rSlL K) te tl th) G M (.d (lstX K (cutL xs lo hi))) M3 := fun F B as σ H ow sl Q q =>
  h F B as σ H ow sl _ fun v B1 as1 H1 g1 p1 o1 r1 => h1 F B1 as1 σ H1 o1 (sl.mono g1.1 p1) _ fun B2 as2 H2 g2 p2 o2 => h2 F B2 as2 σ H2 o2 ((sl.mono g1.1 p1).mono g2.1 p2) _ fun B3 as3 H3 g3 p3 o3 => by
    obtain ⟨a, vs, e, h3, h4⟩ := r1
    refine ⟨a, vs, e, o3.bb.seq (g3.1.seq (g2.1.seq h3)), fun p hp => ?_⟩
    have g4 := o3.gr hp (.lst (L2.cutV vs lo hi))
    refine q _ _ as3 _ (g1.trans (g2.trans (g3.trans g4))) (p1.trans (p2.trans p3)) (o3.new hp _) fun H' s => ⟨p, _, rfl, s _ _ upd_same, ?_⟩
    have r := RpL.mono (g2.1.trans (g3.1.trans (g4.1.trans s))) _ _ h4
    unfold L2.cutV cutL
    rw [h4.len]
    exact RpL.take _ (RpL.drop _ r)
/-! ### xs.extend(ys) -/
theorem es_extO {to : TE} {k : Nat} {xs ys : List Dt} (ho : EvE K to G M (.o k) M1) (h : EvE K te G M1 (.d (lstX K ys)) M2) (hk : ∃ zs, M1[k]? = some (.lst zs)) (hm : M2[k]? = some (.lst xs)) (hz : xs.length + ys.length < 1000000) :
    EvS K (tDrop (tBM K "list" rExtend to (tCons te tNil))) G M (.nx G (M2.set k (.lst (xs ++ ys)))) := fun F B as σ H ow sl D gd =>
  ho F B as σ H ow sl _ fun w B1 as1 H1 g1 p1 o1 r1 => by
    obtain ⟨a, ha, rfl⟩ := r1
    obtain ⟨zs, hy⟩ := hk
    obtain ⟨_, _, vs1, hv1, _⟩ := o1.own k a _ ha hy (fun z => nomatch z)
    refine ⟨.inl ⟨rfl, vs1, .inl (.inl hv1)⟩, h F B1 as1 σ H1 o1 (sl.mono g1.1 p1) _ fun v B2 as2 H2 g2 p2 o2 r2 => ?_⟩
    obtain ⟨b, us, rfl, hb, hu⟩ := r2 B2 (Same.refl _)
    have ha := p2.get ha
    obtain ⟨_, _, vs, hv, hr⟩ := o2.own k a _ ha hm (fun z => nomatch z)
    refine ⟨a, b, vs, us, rfl, rfl, hv, o2.bb _ _ hb, by rw [hr.len, hu.len]; exact Nat.le_trans (Nat.le_of_lt hz) (by decide), gd B2 as2 σ _ (g1.trans g2) (p1.trans p2) (o2.put ha hm (fun z => nomatch z) ⟨_, upd_same, RpL.append hr hu⟩) ((sl.mono g1.1 p1).mono g2.1 p2)⟩
/-! ### repr of truth values -/
def rReprB : List V → Hp → VK → Prop := fun xs H Q => ∃ b, xs = [.bl b] ∧ Q (.str (if b = true then "True" else "False")) H
theorem call_repr_bool {X : Cx} : CallR X (.builtin "repr") rReprB := by
  intro pins s σ H xs us Q I r h
  obtain ⟨b, rfl, q⟩ := h
  obtain ⟨u, rfl, ru⟩ := vals1 r
  cases ru
  cases b with
  | true => exact PySem.P.repr_of_bool ⟨.str _, H, I.tok _, ⟨_, rfl⟩, q⟩
  | false => exact PySem.P.repr_of_bool ⟨.str _, H, I.tok _, ⟨_, rfl⟩, q⟩
abbrev boolL (b : Bool) : List Nat := if b = true then [84, 114, 117, 101] else [70, 97, 108, 115, 101]
theorem rc_reprB : RC K rReprB [.bl b] (.str (boolL b)) := fun F B as M H vs Q ow r q => by
  obtain ⟨v, r1, e, h1, h2⟩ := r
  have h1 : v = V.bl b := h1
  have h2 : r1 = [] := h2
  subst h2; subst h1; subst e
  refine ⟨b, rfl, q _ B H (Gr.refl F B) ow ?_⟩
  cases b <;> rfl
theorem boolL_inj (a b : Bool) : decide (boolL a = boolL b) = decide (a = b) := by cases a <;> cases b <;> rfl
/-! ### split -/
abbrev splL (m l : List Nat) : List (List Nat) := TL.spl m 0 [] l
theorem RpL.strsX {H : Hp} (xs : List (List Nat)) : RpL K H (xs.map Dt.str) ((xs.map tx).map V.str) := RpL.strs_of xs
theorem rm_split (h : l.length ≤ 1000000) (hm : m ≠ []) (hk : m.all (· < 256) = true) : RM K (fun x xs H Q => ∃ a b, x = .str a ∧ xs = [.str b] ∧ (b.length == 0) = false ∧ a.length + 2 ≤ sizeLine ∧ rNewStrs (Txt.split a b) H Q) (.str l) [.str m] (lstX K ((splL m l).map Dt.str)) := fun F B as M H v vs Q ow r1 r2 q =>
  ⟨tx l, tx m, r1, two_str r2, by rw [tx_len]; exact beq_eq_false_iff_ne.mpr (fun e => hm (List.length_eq_zero_iff.mp e)), by rw [tx_len]; exact Nat.le_trans (Nat.add_le_add_right h 2) (by decide), fun p hp => by
    refine q _ _ _ (ow.gr hp _) (ow.new hp _) fun H' s => ⟨p, _, rfl, s _ _ upd_same, ?_⟩
    rw [show Txt.split (tx l) (tx m) = (splL m l).map tx from SX.split_S hm hk]
    exact RpL.strs_of _⟩
/-! ### in, not in of lists of texts, of truth values -/
theorem ro_inL {xs : List (List Nat)} : RO K (rIn K false) (.str l) (.lst (xs.map Dt.str)) (.bl (decide (l ∈ xs))) := fun F B as M H v u Q ow r1 r2 q => by
  obtain ⟨a, vs, e, h1, h2⟩ := r2
  have e2 := h2.strs
  subst e2; subst e
  have r1 : v = .str (tx l) := r1
  subst r1
  refine ⟨a, _, rfl, .inl (ow.bb.seq h1), rfl, flat_strs xs, q _ B H (Gr.refl F B) ow ?_⟩
  show V.bl (inV _ _) = _
  rw [inV_strs]
theorem ro_ninL {xs : List (List Nat)} : RO K (rIn K true) (.str l) (.lst (xs.map Dt.str)) (.bl (!decide (l ∈ xs))) := fun F B as M H v u Q ow r1 r2 q => by
  obtain ⟨a, vs, e, h1, h2⟩ := r2
  have e2 := h2.strs
  subst e2; subst e
  have r1 : v = .str (tx l) := r1
  subst r1
  refine ⟨a, _, rfl, .inl (ow.bb.seq h1), rfl, flat_strs xs, q _ B H (Gr.refl F B) ow ?_⟩
  show V.bl (!inV _ _) = _
  rw [inV_strs]
theorem flat_bls : ∀ xs : List Bool, (xs.map V.bl).all flatV = true
  | [] => rfl
  | x :: xs => by rw [List.map_cons, List.all_cons, flat_bls xs] <;> rfl
theorem inV_bls (b : Bool) : ∀ xs : List Bool, inV (.bl b) (xs.map V.bl) = decide (b ∈ xs)
  | [] => rfl
  | x :: xs => by
    show (eqV (.bl x) (.bl b) || inV (.bl b) (xs.map V.bl)) = _
    rw [inV_bls b xs]
    cases x <;> cases b <;> simp [eqV]
theorem ro_ninB {xs : List Bool} : RO K (rIn K true) (.bl b) (.lst (xs.map Dt.bl)) (.bl (!decide (b ∈ xs))) := fun F B as M H v u Q ow r1 r2 q => by
  obtain ⟨a, vs, e, h1, h2⟩ := r2
  have e2 := h2.bls
  subst e2; subst e
  have r1 : v = .bl b := r1
  subst r1
  refine ⟨a, _, rfl, .inl (ow.bb.seq h1), rfl, flat_bls xs, q _ B H (Gr.refl F B) ow ?_⟩
  show V.bl (!inV _ _) = _
  rw [inV_bls]
end
/-! ### dicts with text keys, values any data -/
abbrev Dk := List (List Nat × Dt)
def RpK (K : PySem.W.Frag) (H : Hp) : Dk → List (Key × V) → Prop
  | [], ks => ks = []
  | d :: ds, ks => ∃ v r, ks = (Sum.inr (tx d.1), v) :: r ∧ Rp K H d.2 v ∧ RpK K H ds r
def putD (ds : Dk) (k : List Nat) (x : Dt) : Dk := if (ds.any fun d => decide (d.1 = k)) = true then ds.map (fun d => if d.1 = k then (d.1, x) else d) else ds ++ [(k, x)]
def getD' (ds : Dk) (k : List Nat) : Option Dt := (ds.find? fun d => decide (d.1 = k)).map (·.2)
section
variable {K : PySem.W.Frag} {B H : Hp}
theorem RpK.mono {H' : Hp} (e : Same H H') : ∀ {ds : Dk} {ks : List (Key × V)}, RpK K H ds ks → RpK K H' ds ks
  | [], _, h => h
  | d :: ds, _, ⟨v, r, e1, h1, h2⟩ => ⟨v, r, e1, Rp.mono e _ _ h1, RpK.mono e h2⟩
theorem RpK.len : ∀ {ds : Dk} {ks : List (Key × V)}, RpK K H ds ks → ks.length = ds.length
  | [], _, h => by rw [show _ = [] from h]; rfl
  | d :: ds, _, ⟨v, r, e, _, h⟩ => by rw [e, List.length_cons, List.length_cons, RpK.len h]
theorem keyd (a b : List Nat) : decide ((Sum.inr (tx a) : Key) = Sum.inr (tx b)) = decide (a = b) := by
  by_cases h : a = b
  · subst h; rw [decide_eq_true rfl, decide_eq_true rfl]
  · rw [decide_eq_false h, decide_eq_false fun e => h (tx_inj (Sum.inr.inj e))]
theorem RpK.any {k : List Nat} : ∀ {ds : Dk} {ks : List (Key × V)}, RpK K H ds ks → (ks.any fun kv => decide (kv.1 = Sum.inr (tx k))) = ds.any fun d => decide (d.1 = k)
  | [], _, h => by rw [show _ = [] from h]; rfl
  | d :: ds, _, ⟨v, r, e, _, h⟩ => by
    subst e
    rw [List.any_cons, List.any_cons, RpK.any h]
    congr 1
    exact keyd d.1 k
theorem RpK.app {k : List Nat} {x : Dt} {u : V} (hx : Rp K H x u) : ∀ {ds : Dk} {ks : List (Key × V)}, RpK K H ds ks → RpK K H (ds ++ [(k, x)]) (ks ++ [(Sum.inr (tx k), u)])
  | [], _, h => by rw [show _ = [] from h]; exact ⟨u, [], rfl, hx, rfl⟩
  | d :: ds, _, ⟨v, r, e, h1, h⟩ => by subst e; exact ⟨v, _, rfl, h1, RpK.app hx h⟩
theorem RpK.mp {k : List Nat} {x : Dt} {u : V} (hx : Rp K H x u) : ∀ {ds : Dk} {ks : List (Key × V)}, RpK K H ds ks → RpK K H (ds.map fun d => if d.1 = k then (d.1, x) else d) (ks.map fun kv => if kv.1 = Sum.inr (tx k) then (kv.1, u) else kv)
  | [], _, h => by rw [show _ = [] from h]; rfl
  | d :: ds, _, ⟨v, r, e, h1, h⟩ => by
    subst e
    by_cases z : d.1 = k
    · refine ⟨u, _, ?_, ?_, RpK.mp hx h⟩
      · show (if (Sum.inr (tx d.1) : Key) = Sum.inr (tx k) then _ else _) :: _ = (Sum.inr (tx (if d.1 = k then (d.1, x) else d).1), u) :: _
        rw [if_pos z, if_pos (by rw [z])]
      · show Rp K H (if d.1 = k then (d.1, x) else d).2 u
        rw [if_pos z]; exact hx
    · have z2 : ¬ (Sum.inr (tx d.1) : Key) = Sum.inr (tx k) := fun e => z (tx_inj (Sum.inr.inj e))
      refine ⟨v, _, ?_, ?_, RpK.mp hx h⟩
      · show (if (Sum.inr (tx d.1) : Key) = Sum.inr (tx k) then _ else _) :: _ = (Sum.inr (tx (if d.1 = k then (d.1, x) else d).1), v) :: _
        rw [if_neg z, if_neg z2]
      · show Rp K H (if d.1 = k then (d.1, x) else d).2 v
        rw [if_neg z]; exact h1
theorem RpK.put {k : List Nat} {x : Dt} {u : V} (hx : Rp K H x u) {ds : Dk} {ks : List (Key × V)} (h : RpK K H ds ks) : RpK K H (putD ds k x) (putK ks (Sum.inr (tx k)) u) := by
  unfold putD putK
  rw [RpK.any h]
  split
  · exact RpK.mp hx h
  · exact RpK.app hx h
theorem RpK.get {k : List Nat} {x : Dt} : ∀ {ds : Dk} {ks : List (Key × V)}, RpK K H ds ks → getD' ds k = some x → ∃ v, valV ks (Sum.inr (tx k)) = some v ∧ Rp K H x v
  | [], _, _, e => by cases e
  | d :: ds, _, ⟨v, r, e, h1, h⟩, g => by
    subst e
    by_cases z : d.1 = k
    · have e1 : getD' (d :: ds) k = some d.2 := by
        unfold getD'
        rw [List.find?_cons_of_pos (by exact decide_eq_true z)] <;> rfl
      rw [e1] at g
      cases g
      exact ⟨v, valV_pos (by rw [z]), h1⟩
    · have e1 : getD' (d :: ds) k = getD' ds k := by
        unfold getD'
        rw [List.find?_cons_of_neg (by rw [decide_eq_true_eq]; exact z)]
      rw [e1] at g
      obtain ⟨v', h2, h3⟩ := RpK.get h g
      exact ⟨v', (valV_neg fun e => z (tx_inj (Sum.inr.inj e))).trans h2, h3⟩
end
def dkO (K : PySem.W.Frag) (ds : Dk) : MO := .box fun B o => ∃ ks, o = .dK ks ∧ RpK K B ds ks
def dkD (K : PySem.W.Frag) (ds : Dk) : Dt := .ext fun H v => ∃ a ks, v = .ref a ∧ H a = some (.dK ks) ∧ RpK K H ds ks
section
variable {K : PySem.W.Frag} {F B H : Hp} {as : List Addr} {G G1 : List (Option Sl)} {M M1 M2 M3 : List MO} {te td ty : TE} {x : Dt}
theorem mor_dk {ds : Dk} {a : Addr} {ks : List (Key × V)} (e : H a = some (.dK ks)) (r : RpK K B ds ks) : MoR K B H a (dkO K ds) := ⟨_, e, fun _ z => (nomatch z), fun B' s => ⟨ks, rfl, RpK.mono s r⟩⟩
theorem ev_dnewK : EvE K tDNewK G M (.o M.length) (M ++ [dkO K []]) := fun F B as σ H ow sl Q q p hp => by
  refine q _ B (as ++ [p]) _ (Gr.refl F B) ⟨[p], rfl⟩ (ow.newO hp (mor_dk upd_same rfl)) ⟨p, ?_, rfl⟩
  rw [← ow.len, List.getElem?_append_right (Nat.le_refl _), Nat.sub_self] <;> rfl
theorem es_putK {k : Nat} {ds : Dk} {kk : List Nat} (hv : EvE K te G M (.d x) M1) (hd : EvE K td G M1 (.o k) M2) (hk : EvE K ty G M2 (.d (.str kk)) M3) (hm : M3[k]? = some (dkO K ds)) (hl : ds.length < 100000) :
    EvS K (sDPut td ty te) G M (.nx G (M3.set k (dkO K (putD ds kk x)))) := fun F B as σ H ow sl D gd =>
  hv F B as σ H ow sl _ fun w B1 as1 H1 g1 p1 o1 r1 => hd F B1 as1 σ H1 o1 (sl.mono g1.1 p1) _ fun y B2 as2 H2 g2 p2 o2 r2 => hk F B2 as2 σ H2 o2 ((sl.mono g1.1 p1).mono g2.1 p2) _ fun z B3 as3 H3 g3 p3 o3 r3 => by
    obtain ⟨a, ha, rfl⟩ := r2
    have r3 : z = .str (tx kk) := r3
    subst r3
    have ha3 : as3[k]? = some a := p3.get ha
    obtain ⟨f0, b0, o, hH, _, hb⟩ := o3.own k a _ ha3 hm (fun z => nomatch z)
    obtain ⟨ks, rfl, hr⟩ := hb B3 (Same.refl _)
    refine ⟨a, _, rfl, .inl ⟨ks, Sum.inr (tx kk), hH, rfl, by rw [hr.len, sizeLine_eq]; omega, rfl⟩, ?_⟩
    exact gd B3 as3 σ _ ((g1.trans g2).trans g3) ((p1.trans p2).trans p3) (o3.put ha3 hm (fun z => nomatch z) (mor_dk upd_same (RpK.put (Rp.mono (g2.1.trans g3.1) _ _ r1) hr))) (((sl.mono g1.1 p1).mono g2.1 p2).mono g3.1 p3)
theorem ev_atKO {k : Nat} {ds : Dk} {kk : List Nat} (hd : EvE K td G M (.o k) M1) (hk : EvE K ty G M1 (.d (.str kk)) M2) (hm : M2[k]? = some (dkO K ds)) (hz : getD' ds kk = some x) : EvE K (tDGet td ty) G M (.d x) M2 := fun F B as σ H ow sl Q q =>
  hd F B as σ H ow sl _ fun v B1 as1 H1 g1 p1 o1 r1 => hk F B1 as1 σ H1 o1 (sl.mono g1.1 p1) _ fun z B2 as2 H2 g2 p2 o2 r2 => by
    obtain ⟨a, ha, rfl⟩ := r1
    have r2 : z = .str (tx kk) := r2
    subst r2
    obtain ⟨f0, b0, o, hH, _, hb⟩ := o2.own k a _ (p2.get ha) hm (fun z => nomatch z)
    obtain ⟨ks, rfl, hr⟩ := hb B2 (Same.refl _)
    obtain ⟨v, h1, h2⟩ := RpK.get hr hz
    exact ⟨a, v, rfl, .inl ⟨ks, Sum.inr (tx kk), .inl hH, rfl, h1.symm⟩, q v B2 as2 H2 (g1.trans g2) (p1.trans p2) o2 h2⟩
theorem ev_atKD {ds : Dk} {kk : List Nat} (hd : EvE K td G M (.d (dkD K ds)) M1) (hk : EvE K ty G M1 (.d (.str kk)) M2) (hz : getD' ds kk = some x) : EvE K (tDGet td ty) G M (.d x) M2 := fun F B as σ H ow sl Q q =>
  hd F B as σ H ow sl _ fun v B1 as1 H1 g1 p1 o1 r1 => hk F B1 as1 σ H1 o1 (sl.mono g1.1 p1) _ fun z B2 as2 H2 g2 p2 o2 r2 => by
    obtain ⟨a, ks, rfl, ha, hr⟩ := r1 B2 g2.1
    have r2 : z = .str (tx kk) := r2
    subst r2
    obtain ⟨v, h1, h2⟩ := RpK.get hr hz
    exact ⟨a, v, rfl, .inl ⟨ks, Sum.inr (tx kk), .inl (o2.bb _ _ ha), rfl, h1.symm⟩, q v B2 as2 H2 (g1.trans g2) (p1.trans p2) o2 h2⟩
end
end DJ
namespace DJ
open PySem PySem.Spec PyProof.Rows L2
section
variable {K : PySem.W.Frag} {G : List (Option Sl)} {M M1 M2 M3 : List MO} {ta tb tc : TE} {x y z : Dt} {r r' : R2} {a b : Bool}
/-- a op b op c -/
theorem ev_chain (ha : EvE K ta G M (.d x) M1) (hb : EvE K tb G M1 (.d y) M2) (hr : RO K r x y (.bl a)) (hc : a = true → EvE K tc G M2 (.d z) M3) (hr' : a = true → RO K r' y z (.bl b)) (hf : a = false → M2 = M3) :
    EvE K (tChain r r' ta tb tc) G M (.d (.bl (a && b))) M3 := fun F B as σ H o sl Q q =>
  ha F B as σ H o sl _ fun v B1 as1 H1 g1 p1 o1 r1 => hb F B1 as1 σ H1 o1 (sl.mono g1.1 p1) _ fun u B2 as2 H2 g2 p2 o2 r2 =>
    hr F B2 as2 M2 H2 v u _ o2 (Rp.mono g2.1 _ _ r1) r2 fun w B3 H3 g3 o3 r3 => ⟨a, r3, by
      cases a with
      | true =>
        rw [if_pos rfl]
        exact hc rfl F B3 as2 σ H3 o3 (((sl.mono g1.1 p1).mono g2.1 p2).mono g3.1 (Px.refl as2)) _ fun w' B4 as4 H4 g4 p4 o4 r4 =>
          hr' rfl F B4 as4 M3 H4 u w' Q o4 (Rp.mono (g3.1.trans g4.1) _ _ r2) r4 fun w2 B5 H5 g5 o5 r5 => q w2 B5 as4 H5 (g1.trans (g2.trans (g3.trans (g4.trans g5)))) ((p1.trans p2).trans p4) o5 r5
      | false =>
        rw [if_neg Bool.false_ne_true]
        exact q _ B3 as2 H3 (g1.trans (g2.trans g3)) (p1.trans p2) (hf rfl ▸ o3) rfl⟩
theorem ro_eqBl : RO K rEq (.bl a) (.bl b) (.bl (decide (a = b))) := fun F B as M H v u Q ow r1 r2 q => by
  subst r1; subst r2
  exact ⟨rfl, q _ B H (Gr.refl F B) ow (by cases a <;> cases b <;> rfl)⟩
theorem ro_neBl : RO K rNe (.bl a) (.bl b) (.bl (!decide (a = b))) := fun F B as M H v u Q ow r1 r2 q => by
  subst r1; subst r2
  exact ⟨rfl, q _ B H (Gr.refl F B) ow (by cases a <;> cases b <;> rfl)⟩
end
/-- the signs of a text with their places -/
def plc : Nat → List Nat → List (Nat × Nat)
  | _, [] => []
  | n, c :: l => (n, c) :: plc (n + 1) l
abbrev plcD (p : Nat × Nat) : Dt := .tup [.int (p.1 : Nat), .str [p.2]]
theorem plc_enum : ∀ (l : List Nat) (n : Nat), enumD n (l.map fun c => .str [c]) = (plc n l).map plcD
  | [], _ => rfl
  | c :: l, n => by
    rw [List.map_cons, enumD, plc, List.map_cons, plc_enum l (n + 1)]
theorem plc_at : ∀ {l : List Nat} {n : Nat} {p : Nat × Nat}, p ∈ plc n l → ∃ i, p.1 = n + i ∧ l[i]? = some p.2
  | [], _, _, h => nomatch h
  | c :: l, n, p, h => by
    rcases List.mem_cons.mp h with e | h
    · subst e; exact ⟨0, rfl, rfl⟩
    · obtain ⟨i, h1, h2⟩ := plc_at h
      exact ⟨i + 1, by rw [h1]; omega, h2⟩
/-! ### three arguments by names, the last one first -/
section
variable {P : Program} {w : World} {K : PySem.W.Frag} {mg : Str → Option Value} {base : Heap}
theorem CalF.kw3 {k : Nat} {x a b c : Str} {st : Stmt} {sp : Sp} (cf : CalF P w K mg base k x st [a, b, c] sp)
    (h1 : ∀ (kV doc pm : Value) (an : Option Addr) (cdv ct u v y : Value), bindArgs (PySem.W.fnOf x x (defArgs st) (defBody st) (defScope st) .none kV doc pm an cdv ct) ⟨[u, v], [(c, y)]⟩ = pure [(a, u), (b, v), (c, y)])
    (h2 : ∀ (kV doc pm : Value) (an : Option Addr) (cdv ct u v y : Value), bindArgs (PySem.W.fnOf x x (defArgs st) (defBody st) (defScope st) .none kV doc pm an cdv ct) ⟨[u], [(c, y), (b, v)]⟩ = pure [(a, u), (b, v), (c, y)])
    (h3 : ∀ (kV doc pm : Value) (an : Option Addr) (cdv ct u v y : Value), bindArgs (PySem.W.fnOf x x (defArgs st) (defBody st) (defScope st) .none kV doc pm an cdv ct) ⟨[], [(c, y), (b, v), (a, u)]⟩ = pure [(a, u), (b, v), (c, y)]) : CalR2 P w K mg base k x [c, b, a] sp := by
  obtain ⟨f, fd, F, U, hm, bb⟩ := cf.ex
  refine ⟨f, fd, [a, b, c], F, hm, U.kp, ⟨fun s us ws hK hl => ?_, fun r1 r2 => Vals.append r1 (vals_rev r2)⟩⟩
  have hl : us.length + ws.length = 3 := by
    have : (us ++ ws.reverse).length = 3 := hl
    rw [List.length_append, List.length_reverse] at this
    exact this
  obtain ⟨oc, od, kV, doc, pm, an, cdv, ct, osl, e, lk, hcd⟩ := U.ex
  rcases us with _ | ⟨u, _ | ⟨v, _ | ⟨y, _ | ⟨o, us⟩⟩⟩⟩
  · rcases ws with _ | ⟨y, _ | ⟨v, _ | ⟨u, _ | ⟨o, ws⟩⟩⟩⟩ <;> first | (exfalso; simp at hl; done) | (exfalso; simp at hl; omega) | skip
    · subst e; exact .of_eq (h3 kV doc pm an cdv ct u v y)
  · rcases ws with _ | ⟨y, _ | ⟨v, _ | ⟨o, ws⟩⟩⟩ <;> first | (exfalso; simp at hl; done) | (exfalso; simp at hl; omega) | skip
    · subst e; exact .of_eq (h2 kV doc pm an cdv ct u v y)
  · rcases ws with _ | ⟨y, _ | ⟨o, ws⟩⟩ <;> first | (exfalso; simp at hl; done) | (exfalso; simp at hl; omega) | skip
    · subst e; exact .of_eq (h1 kV doc pm an cdv ct u v y)
  · rcases ws with _ | ⟨o, ws⟩ <;> first | (exfalso; simp at hl; done) | (exfalso; simp at hl; omega) | skip
    · exact bb s [u, v, y] hK rfl
  · exfalso
    first | (simp at hl; done) | (simp at hl; omega)
end
section
variable {K : PySem.W.Frag} {G : List (Option Sl)} {M M1 : List MO} {E : XK} {tk : TA} {a b c z : Dt}
theorem ev_kwr3 {R : List Sl → List MO → Sl → List MO → Prop} (h : EvA K tk G M [.d c, .d b, .d a] M1) (hR : R [.d a, .d b, .d c] [] (.d z) []) : EvE K (tCallK (SpR K 3 R) gRevV E tNil tk) G M (.d z) M1 := fun F B as σ H ow sl Q q =>
  h F B as σ H ow sl _ fun vs B1 as1 H1 g1 p1 o1 r1 => by
    obtain ⟨v1, r1, e1, h1, v2, r2, e2, h2, v3, r3, e3, h3, e5⟩ := r1
    have e5 : r3 = [] := e5
    subst e5; subst e3; subst e2; subst e1
    refine call_core (ds := [a, b, c]) (vs := [v3, v2, v1]) hR rfl o1 ⟨v3, _, rfl, h3, v2, _, rfl, h2, v1, _, rfl, h1, rfl⟩ fun v B' as' H' g o' r' => ?_
    obtain ⟨g2, o2⟩ := back0 o1 g o'
    exact q v B' as1 H' (g1.trans g2) p1 o2 r'
end
end DJ
namespace DJ
open PySem PySem.Spec PyProof.Rows L2
section
variable {K : PySem.W.Frag} {G G1 : List (Option Sl)} {M M' X : List MO} {t : TS}
/-- what was made for a turn is let go, what is owned stays -/
theorem es_nxU (h : EvS K t G M (.nx G1 (M' ++ X))) (hl : M.length = M'.length) (hg : ∀ k, some (Sl.o k) ∈ G1 → k < M'.length) : EvS K t G M (.nx G1 M') := fun F B as σ H ow sl D gd =>
  h F B as σ H ow sl D fun B' as' σ' H' g p o' s' => by
    obtain ⟨tl, rfl⟩ := p
    refine gd B' as σ' H' g (Px.refl as) ⟨o'.fb, o'.bb, ow.len.trans hl, ow.nd, fun a ha => o'.al a (List.mem_append_left _ ha), fun a ha => o'.fa a (List.mem_append_left _ ha), fun k a m e1 e2 hm => ?_⟩ ⟨s'.1, fun i s e => ?_⟩
    · refine o'.own k a m ?_ ?_ hm
      · rw [List.getElem?_append_left (List.getElem?_eq_some_iff.mp e1).1]
        exact e1
      · rw [List.getElem?_append_left (List.getElem?_eq_some_iff.mp e2).1]
        exact e2
    · obtain ⟨v, e1, r⟩ := s'.2 i s e
      refine ⟨v, e1, ?_⟩
      cases s with
      | d x => exact r
      | o k =>
        obtain ⟨a, ha, rfl⟩ := r
        have hk := hg k (List.mem_of_getElem? e)
        rw [List.getElem?_append_left (by rw [ow.len, hl]; exact hk)] at ha
        exact ⟨a, ha, rfl⟩
end
theorem get_putD (ds : Dk) (k : List Nat) (x : Dt) : getD' (putD ds k x) k = some x := by
  unfold getD' putD
  split
  · rename_i h
    induction ds with
    | nil => cases h
    | cons d ds ih =>
      by_cases z : d.1 = k
      · rw [List.map_cons, List.find?_cons_of_pos (by rw [if_pos z]; exact decide_eq_true z), if_pos z] <;> rfl
      · rw [List.any_cons, decide_eq_false z, Bool.false_or] at h
        rw [List.map_cons, List.find?_cons_of_neg (by rw [if_neg z, decide_eq_true_eq]; exact z)]
        exact ih h
  · rename_i h
    induction ds with
    | nil => rw [List.nil_append, List.find?_cons_of_pos (by exact decide_eq_true rfl)] <;> rfl
    | cons d ds ih =>
      rw [List.any_cons] at h
      have z : ¬ d.1 = k := fun e => h (by rw [decide_eq_true e] <;> rfl)
      rw [List.cons_append, List.find?_cons_of_neg (by rw [decide_eq_true_eq]; exact z)]
      exact ih (fun e => h (by rw [e, Bool.or_true]))
theorem map_take {α β : Type} (f : α → β) (l : List α) (n : Nat) : (l.map f).take n = (l.take n).map f := (List.map_take).symm
end DJ
namespace DJ
open PySem PySem.Spec PyProof.Rows L2
/-! ### text * number, any number -/
theorem rep_len (l : List Nat) : ∀ n : Nat, (List.replicate n l).flatten.length = l.length * n
  | 0 => rfl
  | n + 1 => by rw [List.replicate_succ, List.flatten_cons, List.length_append, rep_len l n, Nat.mul_succ, Nat.add_comm]
def rRepN : R2 := fun x y H Q => ∃ (l : List Nat) (n : Int), x = .str (tx l) ∧ y = .int n ∧ -100000 ≤ n ∧ n ≤ 100000 ∧ l.length * n.toNat ≤ 1000000 ∧ Q (.str (tx (List.replicate n.toNat l).flatten)) H
theorem rep_made (l : List Nat) (n : Nat) : (⟨(List.replicate n (tx l).cps).foldl (· ++ ·) #[]⟩ : Str) = tx (List.replicate n l).flatten := by
  show (⟨_⟩ : Str) = ⟨_⟩
  congr 1
  apply Array.toList_inj.mp
  rw [fold_rep] <;> simp
theorem op_repN {X : Cx} : OpR X (binaryOp .Mult) rRepN := by
  intro pins s σ H x y v u Q I rx ry h
  obtain ⟨l, n, rfl, rfl, h1, h2, hm, q⟩ := h
  obtain ⟨t, rfl⟩ := rx
  obtain ⟨t', rfl⟩ := ry
  have size : (tx (List.replicate n.toNat l).flatten).length ≤ sizeLine := by
    rw [tx_len, rep_len, sizeLine_eq]
    omega
  refine P.mul_str (Bool.or_eq_false_iff.mpr ⟨decide_eq_false (by omega), decide_eq_false (by omega)⟩) (fun z1 z2 => ?_) (fun z1 z2 => ?_) ?_
  · rw [tx_len, Bool.or_eq_false_iff] at *
    have hn1 : n ≠ 1 := by simpa using z2.1
    rw [show (2 ^ 63 - 1 : Int) = 9223372036854775807 by decide]
    have hl0 : (l.length : Int) ≤ 1000000 := by
      have : 1 ≤ n.toNat := by omega
      have : l.length * 1 ≤ l.length * n.toNat := Nat.mul_le_mul_left _ this
      omega
    have : (9223372036854775807 : Int) / n ≥ 1000000 := by
      rw [ge_iff_le, Int.le_ediv_iff_mul_le (by omega)]
      omega
    omega
  · rw [tx_len]
    unfold Builtin.Str.tooLong
    refine decide_eq_false ?_
    rw [sizeLine_eq]
    omega
  · by_cases z : n < 1
    · rw [if_pos z]
      have e : n.toNat = 0 := by omega
      rw [e] at q
      exact ⟨by decide, .str _, H, I.tok _, ⟨_, rfl⟩, q⟩
    · rw [if_neg z]
      by_cases y : (n == 1 || (tx l).length == 0) = true
      · rw [if_pos y]
        have e : (List.replicate n.toNat l).flatten = l := by
          rw [Bool.or_eq_true, tx_len] at y
          rcases y with y | y
          · have : n = 1 := by simpa using y
            subst this
            simp
          · have : l = [] := List.length_eq_zero_iff.mp (by simpa using y)
            subst this
            simp
        rw [e] at q
        exact ⟨.str _, H, I, ⟨t, rfl⟩, q⟩
      · rw [if_neg y, rep_made]
        exact ⟨size, .str _, H, I.tok _, ⟨_, rfl⟩, q⟩
theorem ro_repN {K : PySem.W.Frag} {l : List Nat} {n : Int} (h1 : -100000 ≤ n) (h2 : n ≤ 100000) (hm : l.length * n.toNat ≤ 1000000) : RO K rRepN (.str l) (.int n) (.str (List.replicate n.toNat l).flatten) := fun F B as M H v u Q ow r1 r2 q => ⟨l, n, r1, r2, h1, h2, hm, q _ B H (Gr.refl F B) ow rfl⟩
section
variable {K : PySem.W.Frag} {G G1 : List (Option Sl)} {M M1 : List MO} {te : TE}
/-- a comprehension whose list is joined on -/
theorem ev_lcX {μ β : Type} {wi : TI} {g : TG} {tt : TT} {vs : List Nat} (xs : List β) (en : β → Dt) (encM : μ → List MO) (p : μ → β → Option (Dt × μ)) (q : μ → β → μ) (m0 : μ)
    (hI : EvI K wi G M (xs.map en) (encM m0)) (hx : xs.length ≤ 100000) (hw : ∀ v σ H Q, g v (wipe σ vs) H (fun σ2 H2 => wipe σ2 vs = wipe σ vs → Q σ2 H2) → g v (wipe σ vs) H Q)
    (turn : ∀ m x, x ∈ xs → ∃ G1, EvG K g (wipeG G vs) (.d (en x)) G1 ∧ (match p m x with
      | some (y, m') => ∃ M1, EvT K tt G1 (encM m) true M1 ∧ EvE K te G1 M1 (.d y) (encM m')
      | none => EvT K tt G1 (encM m) false (encM (q m x)))) :
    EvE K (tLc wi g tt te vs) G M (.d (lstX K (mapS p q xs m0).1)) (encM (mapS p q xs m0).2) := fun F B as σ H ow sl Q k =>
  ev_lcAny xs en encM p q m0 hI hx hw turn F B as σ H ow sl Q fun D us B' as' H' g' p' fD bD o' hD r' => by
    have sm : Same B' (upd B' D (.lst us)) := fun c u e => by rw [upd_ne (ne_of_none e bD)]; exact e
    refine k _ (upd B' D (.lst us)) as' H' ⟨g'.1.trans sm, fun c z n => ?_⟩ p' ⟨?_, ?_, o'.len, o'.nd, o'.al, ?_, ?_⟩ (fun H2 s2 => ⟨D, us, rfl, s2 _ _ upd_same, RpL.mono (sm.trans s2) _ _ r'⟩)
    · rw [upd_ne (fun e : c = D => z.1 (by rw [e]; exact fD))]; exact g'.2 c z n
    · exact fun c u e => o'.fb c u (by rw [upd_ne (ne_of_none e fD)]; exact e)
    · intro c u e
      by_cases z : c = D
      · rw [z, upd_same] at e; rw [z, ← e]; exact hD
      · rw [upd_ne z] at e; exact o'.bb c u e
    · intro c hc
      have q1 := o'.fa c hc
      rw [upd_ne (fun e : c = D => o'.out (e ▸ hc))] at q1
      exact q1
    · intro k a m e1 e2 hm
      obtain ⟨q1, q2, q3⟩ := o'.own k a m e1 e2 hm
      have ne : a ≠ D := fun e => by rw [e, upd_same] at q1; cases q1
      rw [upd_ne ne] at q1
      exact ⟨q1, by rw [upd_ne ne]; exact q2, MoR.mono sm rfl q3⟩
theorem ev_lcAX {μ β γ : Type} {wi : TI} {g : TG} {vs : List Nat} (xs : List β) (en : β → Dt) (ec : γ → Dt) (encM : μ → List MO) (f : μ → β → γ × μ) (m0 : μ) (hI : EvI K wi G M (xs.map en) (encM m0)) (hx : xs.length ≤ 100000)
    (hw : ∀ v σ H Q, g v (wipe σ vs) H (fun σ2 H2 => wipe σ2 vs = wipe σ vs → Q σ2 H2) → g v (wipe σ vs) H Q) (turn : ∀ m x, x ∈ xs → ∃ G1, EvG K g (wipeG G vs) (.d (en x)) G1 ∧ EvE K te G1 (encM m) (.d (ec (f m x).1)) (encM (f m x).2)) :
    EvE K (tLc wi g tYes te vs) G M (.d (lstX K ((mapA f xs m0).1.map ec))) (encM (mapA f xs m0).2) := by
  have h := ev_lcX (te := te) xs en encM (fun m x => some (ec (f m x).1, (f m x).2)) (fun m _ => m) m0 hI hx hw fun m x hm => by
    obtain ⟨G1, h1, h2⟩ := turn m x hm
    exact ⟨G1, h1, encM m, et_yes, h2⟩
  rw [mapS_acc] at h
  exact h
end
/-! ### repr of data, where no guard is up -/
def rReprD (K : PySem.W.Frag) : List V → Hp → VK → Prop := fun xs H Q => ∃ (a : Addr) (d : PyData), xs = [.ref a] ∧ Dp K H (.ref a) d ∧ d.showable = true ∧ d.canLay0 = true ∧ d.depth ≤ 64 ∧ d.shown.length ≤ sizeLine ∧ Q (.str d.shown) H
theorem call_repr_data {X : Cx} (hg : X.A.guards = some []) (hu : X.A.units + 66 < cLine) : CallR X (.builtin "repr") (rReprD X.K) := by
  intro pins s σ H xs us Q I r h
  obtain ⟨a, d, rfl, hd, h1, h2, h3, h4, q⟩ := h
  obtain ⟨u, rfl, ru⟩ := vals1 r
  obtain ⟨as, hr⟩ := Dp.reads I d (.ref a) u hd ru
  cases ru
  exact repr_of_reads' hr h1 (PyData.noDict_hsm (PyData.hasDict_of_canLay d h2)) hg (by omega) (fun _ _ e => e) (fun h' u tk hk => ⟨.str _, H, I.kept hk, ⟨u, rfl⟩, q⟩) h4
def shL (d : Dt) : List Nat := (toP d).shown.cps.toList
theorem tx_shL (d : Dt) : tx (shL d) = (toP d).shown := by
  show (⟨_⟩ : Str) = _
  unfold shL
  rw [Array.toArray_toList]
theorem rc_reprD {K : PySem.W.Frag} {xs : List Dt} (h1 : plD (.lst xs) = true) (h2 : (toP (.lst xs)).showable = true) (h3 : dpD (.lst xs) ≤ 64) (h4 : (toP (.lst xs)).shown.length ≤ sizeLine) : RC K (rReprD K) [.lst xs] (.str (shL (.lst xs))) := fun F B as M H vs Q ow r q => by
  obtain ⟨v, r1, e, hv, h5⟩ := r
  have h5 : r1 = [] := h5
  subst h5; subst e
  have hv2 := Rp.mono ow.bb _ _ hv
  obtain ⟨a, us, rfl, _⟩ := hv
  obtain ⟨l1, l2⟩ := lay_of (.lst xs) h1
  refine ⟨a, toP (.lst xs), rfl, dp_of (.lst xs) _ h1 hv2, h2, l1, by rw [l2]; exact h3, h4, q _ B H (Gr.refl F B) ow ?_⟩
  show V.str _ = V.str _
  rw [tx_shL]
/-! ### the outermost call: no guard is up there -/
structure FnA (P : Program) (w : World) (K : PySem.W.Frag) (mg : Str → Option Value) (base : Heap) (f : Addr) (fd : FuncData) (ps : List Str) (sp : Sp) : Prop where
  go : ∀ (outer : List Env) (s : Shared) (H : Hp) (args : Args) (us : List Value) (vs : List V) (Q : VK) (E : XK), Env0 P w K mg base callerA outer s H → BindsTo s fd args (ps.zip us) → Vals vs us → sp vs H Q E →
    codeAny (model P w) callerA (.call (.ref f) args) (CR CX0 outer P w H s Q E) s
section
variable {P : Program} {w : World} {K : PySem.W.Frag} {mg : Str → Option Value} {base : Heap}
theorem fn_outer {k : Nat} {f : Addr} {nm ql : Str} {pr : Arguments} {bd : List Stmt} {sc : Scope} {dV kV dc pm cv ct oc : Value} {an od : Option Addr} {sl : Array (Option Value)} {N ps : List Str} {sp : Sp}
    (lk : K.lookup f = some ⟨oc, od, .func (PySem.W.fnOf nm ql pr bd sc dV kV dc pm an cv ct), sl⟩) (hcd : PySem.W.codeIn K cv ql = true) (S : FnScope N ps sc) (hrm : Room (k + 1) callerA) (len : ∀ vs H Q E, sp vs H Q E → vs.length = ps.length)
    (body : ∀ (outer : List Env) (s : Shared) (H : Hp) (vs : List V) (Q : VK) (E : XK), Room k (callerA.deeper (envOfC ql sc s.heap.objs.size f cv)) → sp vs H Q E →
      ∃ t, PSs (cxOf CX0 P w K mg base N ql sc f cv callerA outer s H E) bd t ∧ t { nx := fun _ H' => Q .non H', rt := Q } (L2.start N vs) H) :
    FnA P w K mg base f (PySem.W.fnOf nm ql pr bd sc dV kV dc pm an cv ct) ps sp := by
  constructor
  intro outer s H args us vs Q E e0 bnd rel want
  have nvs := len _ _ _ _ want
  have inH : K.In s.heap := e0.mod.kin.keeps fun b o z => (e0.bs b o z).1
  have noLim : s.heap.NoLimit := e0.mod.nolimit.keeps fun b o z => (e0.bs b o z).1
  have kinds : ∀ y ∈ ps.zip us, sc.names.lookup y.1 = some .local ∨ (sc.names.lookup y.1 = some .cell ∧ ((cellsFrom (s.heap.objs.size + 1) sc.names []).lookup y.1).isSome = true) := by
    rintro ⟨n, v⟩ hy
    rcases S.par n (List.of_mem_zip hy).1 with z | z
    · exact Or.inl z
    · exact Or.inr ⟨z, PySem.W.cellsFrom_some _ _ _ (Or.inl z)⟩
  refine codeAny_call_function hrm.depth (inH _ _ lk) rfl S.co S.gen rfl (PySem.W.codeRec_of inH hcd) (bnd _ _ _ _ (wpAny_newFunctionEnv_cells S.kind kinds fun env henv s1 st => ?_))
  subst henv
  obtain ⟨t, ht, run⟩ := body outer s H vs Q E (hrm.deeper _) want
  have inv0 : L2.Inv (cxOf CX0 P w K mg base N ql sc f cv callerA outer s H E) [] (L2.start N vs) H s1 := inv_start S hrm.hd e0 nvs rel st
  refine ⟨noLim.keeps st.toInCall.keep, codeAny_func (wpAny_mono (ht.run [] s1 (L2.start N vs) H _ inv0 run) (fun fl s2 hs => ?_) fun _ _ z => z)⟩
  cases fl with
  | ret u =>
    obtain ⟨v, σ', H', J, rv, q⟩ := hs
    exact ⟨v, H', J.os, J.bare, J.base, J.hok, rv, q⟩
  | next =>
    obtain ⟨σ', H', J, q⟩ := hs
    exact ⟨.non, H', J.os, J.bare, J.base, J.hok, rfl, q⟩
  | brk => exact (let ⟨_, _, _, q⟩ := hs; q.elim)
  | cont => exact (let ⟨_, _, _, q⟩ := hs; q.elim)
end
theorem outer_call {P : Program} {w : World} {K : PySem.W.Frag} {mg mb : Str → Option Value} {fa a : Addr} {fd : FuncData} {x : Str} {sp : Sp} {s1 : Shared} {vs : List Value} {ns : List Int}
    (inS : K.In s1.heap) (nsM : s1.heap.Ns mainGlobals mg) (nsB : s1.heap.Ns builtinsNs mb) (boot : ∀ y : Str, y ≠ "__name__" → mb y = bootBuiltins y) (noLim : s1.heap.NoLimit) (gens : s1.gens = #[])
    (obj : s1.heap.get? a = some { cls := .type "list", data := .seq vs.toArray }) (rin : IntsAre vs ns) (few : ns.length ≤ sizeLine)
    (F : ∀ base : Heap, K.In base → base.Ns mainGlobals mg → FnA P w K mg base fa fd [x] sp) (bind : ∀ (s : Shared) (u : Value), BindsTo s fd ⟨[u], []⟩ [(x, u)])
    (want : ∀ H : Hp, Only H → SqL K H a (ns.map V.int) → sp [.ref a] H (fun v _ => v = .bl true) fun _ _ _ => False) :
    codeAny (model P w) callerA (.call (.ref fa) ⟨[.ref a], []⟩) (fun r s' => r = .ok (.ret (.bool true)) ∧ OldK s1.heap s'.heap ∧ s'.os = s1.os ∧ AllBare s'.gens) s1 := by
  have rel := vals_ints rin
  have nv := rin.length
  have main : ∀ H : Hp, Only H → SqL K H a (ns.map V.int) → HOk P w H s1.heap → (∀ b, H b ≠ none → b = a) → (H a ≠ none → K.lookup a = none) →
      codeAny (model P w) callerA (.call (.ref fa) ⟨[.ref a], []⟩) (fun r s' => r = .ok (.ret (.bool true)) ∧ OldK s1.heap s'.heap ∧ s'.os = s1.os ∧ AllBare s'.gens) s1 := by
    intro H only sq ok onlyA outK
    have keep : ∀ {b : Addr} {o : Obj}, s1.heap.get? b = some o → H b = none → (hidT s1.heap H).get? b = some o := fun z n => hidT_get z n
    have dictFree : ∀ {b : Addr} {o : Obj} {es : Array DictEntry} {ep : Nat}, s1.heap.get? b = some o → o.data = .dict es ep → H b = none := by
      intro b o es ep z hd
      rcases hq : H b with _ | u
      · rfl
      · have z2 := onlyA b (by rw [hq]; simp)
        subst z2
        rw [obj] at z
        cases z
        exact absurd hd (fun y => nomatch y)
    have space : ∀ {b : Addr} {m : Str → Option Value}, s1.heap.Ns b m → (hidT s1.heap H).Ns b m := by
      rintro b m ⟨o, es, ep, z, hd, r⟩
      exact ⟨o, es, ep, keep z (dictFree z hd), hd, r⟩
    have inB : K.In (hidT s1.heap H) := by
      intro b o z
      refine keep (inS b o z) ?_
      rcases hq : H b with _ | u
      · rfl
      · have z2 := onlyA b (by rw [hq]; simp)
        subst z2
        rw [outK (by rw [hq]; simp)] at z
        cases z
    have modl : Mod K mg (hidT s1.heap H) := by
      refine ⟨inB, space nsM, ⟨mb, space nsB, boot⟩, ?_⟩
      obtain ⟨mc, y1, y2⟩ := noLim
      exact ⟨mc, space y1, y2⟩
    have env : Env0 P w K mg (hidT s1.heap H) callerA [] s1 H := ⟨rfl, modl, fun b o z => of_hidT z, Nat.le_of_eq (hidT_size _ _), trivial, fun b hb => (nomatch hb), ok, .of_eq gens⟩
    refine codeAny_mono ((F _ inB (space nsM)).go [] s1 H ⟨[.ref a], []⟩ [.ref a] [.ref a] _ _ env (bind s1 (.ref a)) (.cons rfl .nil) (want H only sq)) fun r s' res => ?_
    rcases r with e | fl
    · exact absurd res (fun y => y)
    · cases fl with
      | next => exact res.elim
      | brk => exact res.elim
      | cont => exact res.elim
      | ret u =>
        obtain ⟨v, H', os, bare, un, ok', rv, qv⟩ := res
        have qv : v = .bl true := qv
        subst qv
        have ru : u = Value.bool true := rv
        subst ru
        refine ⟨rfl, OldK.of_keep fun b o z => ?_, os, bare⟩
        rcases hq : H b with _ | u
        · exact un.keep b o z hq (fun y => nomatch y) (by simp)
        · rcases only b with y | ⟨ob, xs, y⟩
          · rw [hq] at y; cases y
          · obtain ⟨e1, _⟩ := ok b _ y
            obtain ⟨e2, _⟩ := ok' b _ (un.frzs b ob _ y)
            rw [z] at e1
            cases e1
            exact e2
  rcases hk : K.lookup a with _ | o
  · have at1 : ∀ b : Addr, b = a → (if b = a then some (HO.frz { cls := .type "list", data := .seq vs.toArray } (.lst (ns.map V.int))) else none) = some (HO.frz { cls := .type "list", data := .seq vs.toArray } (.lst (ns.map V.int))) := fun b z => if_pos z
    have at0 : ∀ b : Addr, b ≠ a → (if b = a then some (HO.frz { cls := .type "list", data := .seq vs.toArray } (.lst (ns.map V.int))) else none) = none := fun b z => if_neg z
    refine main (fun b => if b = a then some (.frz { cls := .type "list", data := .seq vs.toArray } (.lst (ns.map V.int))) else none) (fun b => ?_) (.inl (.inr ⟨_, at1 a rfl⟩)) (fun b u z => ?_) (fun b z => ?_) fun _ => hk
    · by_cases y : b = a
      · exact .inr ⟨_, _, at1 b y⟩
      · exact .inl (at0 b y)
    · by_cases y : b = a
      · have z2 := (at1 b y).symm.trans z
        cases z2
        subst y
        exact ⟨obj, by rw [List.length_map]; exact few, vs, _, rel, obj⟩
      · have z2 := (at0 b y).symm.trans z
        cases z2
    · by_cases y : b = a
      · exact y
      · exact absurd (at0 b y) z
  · have z := inS a o hk
    rw [obj] at z
    cases z
    exact main (fun _ => none) (fun _ => .inl rfl) (.inr ⟨_, vs.toArray, _, hk, rfl, rfl, rfl, by rw [List.size_toArray, nv]; exact few, by simpa using rel⟩) (fun b u z => by have z2 : (none : Option HO) = some u := z; cases z2) (fun b z => absurd rfl z) fun z => absurd rfl z
theorem walk_outer {l : PySem.W.OpenLaw} {n : Nat} {q : Program} {loose : List Str} {XP : (Str → Option Value) → Heap → Prop} {YP : World → Heap → Prop} {d : DefRec} {K : Params → PySem.W.Frag} {sp : World → Sp} {x : Str}
    (hn : l.most = some n) (hn2 : n ≤ sizeLine) (hdf : d.params.defaults = []) (hY : ∀ (w : World) (h : Heap), YP w h → (K w.params).In h)
    (F : ∀ (w : World) (mg : Str → Option Value) (fa : Addr) (h : Heap), (K w.params).In h → h.Ns mainGlobals mg → mg d.name = some (.ref fa) →
      ∃ fd : FuncData, (∀ (s : Shared) (u : Value), BindsTo s fd ⟨[u], []⟩ [(x, u)]) ∧ ∀ base : Heap, (K w.params).In base → base.Ns mainGlobals mg → FnA l.prog w (K w.params) mg base fa fd [x] (sp w))
    (hsp : ∀ (w : World) (H : Hp) (a : Addr) (ns : List Int), ns.length ≤ n → Only H → SqL (K w.params) H a (ns.map V.int) → sp w [.ref a] H (fun v _ => v = .bl true) fun _ _ _ => False) :
    PySem.W.WalkO q loose XP YP l.row.toRowW d [] (fun f vs => PySem.call f vs) := by
  refine Att.attach_call hn hdf fun w s0 s1 mg mb fa o pm cd doc a vs ns G Y ho hd hcd hmg hobj hints hlen hg => ?_
  have inS := hY w _ Y
  obtain ⟨fd, hb, hF⟩ := F w mg fa _ inS G.T.g hmg
  exact outer_call inS G.T.g G.T.b G.T.builtins G.T.nolimit hg hobj hints (Nat.le_trans hlen hn2) hF hb (fun H hO hS => hsp w H a ns hlen hO hS)
/-- a law's own def, at the outermost call -/
structure CalA (P : Program) (w : World) (K : PySem.W.Frag) (mg : Str → Option Value) (base : Heap) (x : Str) (st : Stmt) (ps : List Str) (sp : Sp) : Prop where
  ex : ∃ (f : Addr) (fd : FuncData), FnA P w K mg base f fd ps sp ∧ L2.Fun K x x st f fd ∧ mg x = some (.ref f)
theorem cal_mkA {P : Program} {w : World} {K : PySem.W.Frag} {mg : Str → Option Value} {base : Heap} {x : Str} {st : Stmt} {N ps : List Str} {k n : Nat} {R : List Sl → List MO → Sl → List MO → Prop} (D : Df K mg x st ps) (S : FnScope N ps (defScope st)) (hn : ps.length = n) (hrm : Room (k + 1) callerA)
    (hb : ∀ (f : Addr) (cdv : Value) (outer : List Env) (s : Shared) (H : Hp) (E : XK), Room k (callerA.deeper (envOfC x (defScope st) s.heap.objs.size f cdv)) → ∀ ss M r M', R ss M r M' →
      ∃ t X, PSs (cxOf CX0 P w K mg base N x (defScope st) f cdv callerA outer s H E).nox (defBody st) t ∧ EvS K t (start N.length ss) M (.rt r (M' ++ X)) ∧ M.length ≤ M'.length ∧ ∀ j, r = .o j → j < M'.length) :
    CalA P w K mg base x st ps (SpR K n R) := by
  obtain ⟨f, fd, F, hm, b⟩ := D.ex
  obtain ⟨oc, od, kV, doc, pm, an, cdv, ct, osl, rfl, lk, hcd⟩ := F.ex
  refine ⟨f, _, fn_outer lk hcd S hrm (fun vs H Q E h => ?_) (fun outer s H vs Q E hr h => ?_), F, hm⟩
  · obtain ⟨_, _, _, _, _, _, _, _, _, _, e, _⟩ := h
    rw [e, hn]
  · obtain ⟨F', B, as, ss, M, r, M', hR, ow, sl, _, q⟩ := h
    obtain ⟨t, X, ht, he, hl, hr'⟩ := hb f cdv outer s H E hr ss M r M' hR
    exact ⟨t, ht.nox, run_body (X := X) he hl hr' ow sl q⟩
end DJ
namespace DJ
open PySem PySem.Spec PyProof.Rows L2
section
variable {K : PySem.W.Frag} {F B H : Hp} {as : List Addr} {G G1 : List (Option Sl)} {M M1 : List MO} {te : TE}
/-! ### two clauses in one comprehension, nothing owned changes -/
theorem flat_take {β γ : Type} (f : β → List γ) (xs : List β) (i : Nat) (h : i < xs.length) : (xs.take (i + 1)).flatMap f = (xs.take i).flatMap f ++ f xs[i] := by
  rw [← List.take_append_getElem h, List.flatMap_append, List.flatMap_cons, List.flatMap_nil, List.append_nil]
theorem flat_len {β γ : Type} (f : β → List γ) (xs : List β) (i : Nat) : ((xs.take i).flatMap f).length ≤ (xs.flatMap f).length := by
  have h : xs.flatMap f = (xs.take i).flatMap f ++ (xs.drop i).flatMap f := by rw [← List.flatMap_append, List.take_append_drop]
  rw [h, List.length_append]
  omega
theorem yes_ite {σ : L2.St} {H : Hp} {p q : Hp → Prop} (h : p H) : tYes σ H (fun b H' => if b = true then p H' else q H') := h
theorem ev_lc2 {β γ : Type} {wi wi1 : TI} {g g1 : TG} {vs vs1 : List Nat} (xs : List β) (en : β → Dt) (ys : β → List γ) (en1 : γ → Dt) (f : β → γ → Dt) (hI : EvI K wi G M (xs.map en) M) (hx : (xs.flatMap fun x => (ys x).map (f x)).length ≤ 100000)
    (hw : ∀ v σ H Q, g v (wipe σ vs) H (fun σ2 H2 => wipe σ2 vs = wipe σ vs → Q σ2 H2) → g v (wipe σ vs) H Q) (hw1 : ∀ v σ H Q, g1 v (wipe σ vs1) H (fun σ2 H2 => wipe σ2 vs1 = wipe σ vs1 → Q σ2 H2) → g1 v (wipe σ vs1) H Q)
    (turn : ∀ x, x ∈ xs → ∃ G1, EvG K g (wipeG G vs) (.d (en x)) G1 ∧ EvI K wi1 G1 M ((ys x).map en1) M ∧ ∀ y, y ∈ ys x → ∃ G2, EvG K g1 (wipeG G1 vs1) (.d (en1 y)) G2 ∧ EvE K te G2 M (.d (f x y)) M) :
    EvE K (tLc2 wi g tYes wi1 g1 tYes te vs vs1) G M (.d (.lst (xs.flatMap fun x => (ys x).map (f x)))) M := fun F B as σ H ow sl Q k => by
  refine hI F B as σ H ow sl _ fun J B1 as1 H1 g1' p1 o1 yl => fun D hD => ?_
  obtain ⟨fD, bD, aD⟩ := o1.fresh hD
  have kD : ∀ us : List V, Kp ((upd F D (.lst us)) D) := fun us => by rw [upd_same]; exact kp_lst
  have ow0 : Ow K (upd F D (.lst [])) B1 as1 M (upd H1 D (.lst [])) := o1.frame hD _
  refine ⟨fun i n H' => ∃ B' as' us, n = xs.length - i ∧ i ≤ xs.length ∧ Gr F B1 B' ∧ B' D = none ∧ Px as1 as' ∧ Ow K (upd F D (.lst us)) B' as' M H' ∧ H' D = some (.lst us) ∧ RpL K B' ((xs.take i).flatMap fun x => (ys x).map (f x)) us,
    ⟨xs.length, B1, as1, [], by simp, Nat.zero_le _, Gr.refl F B1, bD, Px.refl as1, ow0, upd_same, rfl⟩, fun i n H' w => ?_⟩
  obtain ⟨B', as', us, rfl, hi, g', bD', p', o', hD', r'⟩ := w
  obtain ⟨y1, y2⟩ := yl _ B' as' _ H' i g'.1 o'
  by_cases hlt : i < xs.length
  · have hxi : xs[i]? = some xs[i] := List.getElem?_eq_getElem hlt
    obtain ⟨go, yld⟩ := y1 (en xs[i]) (by rw [List.getElem?_map, hxi] <;> rfl)
    refine .inr ⟨go, fun H2 => ∃ B' as' us, i + 1 ≤ xs.length ∧ Gr F B1 B' ∧ B' D = none ∧ Px as1 as' ∧ Ow K (upd F D (.lst us)) B' as' M H2 ∧ H2 D = some (.lst us) ∧ RpL K B' ((xs.take (i + 1)).flatMap fun x => (ys x).map (f x)) us, fun H2 n2 => ?_, fun v H2 yv => ?_⟩
    · obtain ⟨B2, as2, us2, q1, q2, q3, q4, q5, q6, q7⟩ := n2
      exact ⟨xs.length - (i + 1), by omega, B2, as2, us2, rfl, q1, q2, q3, q4, q5, q6, q7⟩
    · obtain ⟨B2, g2, o2, r2⟩ := yld v H2 yv
      obtain ⟨G1, hg, hI1, ht⟩ := turn xs[i] (List.getElem_mem hlt)
      have bD2 : B2 D = none := g2.2 D (kD us) bD'
      refine hw v σ H2 _ ?_
      refine hg _ B2 as' M (wipe σ vs) H2 v o2 ((slt_wipe (sl.mono ((g1'.1.trans g'.1).trans g2.1) (p1.trans p')) vs)) r2 _ fun B3 as3 σ3 H3 g3 p3 o3 s3 => fun hwp => ⟨hwp, ?_⟩
      refine yes_ite ?_
      have bD3 : B3 D = none := g3.2 D (kD us) bD2
      refine hI1 _ B3 as3 σ3 H3 o3 s3 _ fun J1 B4 as4 H4 g4 p4 o4 yl4 => ?_
      have bD4 : B4 D = none := g4.2 D (kD us) bD3
      have gg : Gr F B' B4 := (g2.trans (g3.trans g4)).of_side
      refine ⟨fun j m H' => ∃ B' as' us', m = (ys xs[i]).length - j ∧ j ≤ (ys xs[i]).length ∧ Gr F B4 B' ∧ B' D = none ∧ Px as4 as' ∧ Ow K (upd F D (.lst us')) B' as' M H' ∧ H' D = some (.lst us') ∧ RpL K B' (((xs.take i).flatMap fun x => (ys x).map (f x)) ++ ((ys xs[i]).take j).map (f xs[i])) us',
        ⟨(ys xs[i]).length, B4, as4, us, by simp, Nat.zero_le _, Gr.refl F B4, bD4, Px.refl as4, o4, o4.fb D _ upd_same, by rw [List.take_zero, List.map_nil, List.append_nil]; exact RpL.mono gg.1 _ _ r'⟩, fun j m H5 w5 => ?_⟩
      obtain ⟨B5, as5, us5, rfl, hj, g5, bD5, p5, o5, hD5, r5⟩ := w5
      obtain ⟨z1, z2⟩ := yl4 _ B5 as5 _ H5 j g5.1 o5
      by_cases hjl : j < (ys xs[i]).length
      · have hyj : (ys xs[i])[j]? = some (ys xs[i])[j] := List.getElem?_eq_getElem hjl
        obtain ⟨go1, yld1⟩ := z1 (en1 (ys xs[i])[j]) (by rw [List.getElem?_map, hyj] <;> rfl)
        refine .inr ⟨go1, fun H2 => ∃ B' as' us', j + 1 ≤ (ys xs[i]).length ∧ Gr F B4 B' ∧ B' D = none ∧ Px as4 as' ∧ Ow K (upd F D (.lst us')) B' as' M H2 ∧ H2 D = some (.lst us') ∧ RpL K B' (((xs.take i).flatMap fun x => (ys x).map (f x)) ++ ((ys xs[i]).take (j + 1)).map (f xs[i])) us', fun H2 n2 => ?_, fun v5 H6 yv5 => ?_⟩
        · obtain ⟨B2, as2, us2, q1, q2, q3, q4, q5, q6, q7⟩ := n2
          exact ⟨(ys xs[i]).length - (j + 1), by omega, B2, as2, us2, rfl, q1, q2, q3, q4, q5, q6, q7⟩
        · obtain ⟨B6, g6, o6, r6⟩ := yld1 v5 H6 yv5
          obtain ⟨G2, hg1, hte⟩ := ht (ys xs[i])[j] (List.getElem_mem hjl)
          have bD6 : B6 D = none := g6.2 D (kD us5) bD5
          refine hw1 v5 σ3 H6 _ ?_
          refine hg1 _ B6 as5 M (wipe σ3 vs1) H6 v5 o6 (slt_wipe (s3.mono ((g4.1.trans g5.1).trans g6.1) (p4.trans p5)) vs1) r6 _ fun B7 as7 σ7 H7 g7 p7 o7 s7 => fun hwp1 => ⟨hwp1, ?_⟩
          refine yes_ite ?_
          have bD7 : B7 D = none := g7.2 D (kD us5) bD6
          refine hte _ B7 as7 σ7 H7 o7 s7 _ fun w8 B8 as8 H8 g8 p8 o8 r8 => ?_
          have bD8 : B8 D = none := g8.2 D (kD us5) bD7
          have sm := (g6.1.trans g7.1).trans g8.1
          have hl : us5.length < sizeLine := by
            rw [r5.len, List.length_append, List.length_map, List.length_take]
            have e1 := flat_len (fun x => (ys x).map (f x)) xs (i + 1)
            rw [flat_take _ xs i hlt, List.length_append, List.length_map] at e1
            exact Nat.lt_of_le_of_lt (show _ ≤ 100000 by omega) (by decide)
          have on : Ow K F B8 as8 M (upd H8 D (.lst (us5 ++ [w8]))) := o8.aside fD bD8
          have on2 : Ow K (upd F D (.lst (us5 ++ [w8]))) B8 as8 M (upd H8 D (.lst (us5 ++ [w8]))) := on.side upd_same fD o8.out
          refine ⟨us5, o8.fb D _ upd_same, hl, B8, as8, us5 ++ [w8], hjl, g5.trans ((g6.trans (g7.trans g8)).of_side), bD8, p5.trans (p7.trans p8), on2, upd_same, ?_⟩
          rw [← List.take_append_getElem hjl, List.map_append, List.map_cons, List.map_nil, ← List.append_assoc]
          exact RpL.append (RpL.mono sm _ _ r5) (RpL.one r8)
      · have e : j = (ys xs[i]).length := by omega
        subst e
        refine .inl ⟨z2 (by rw [List.length_map]; exact Nat.le_refl _), B5, as5, us5, hlt, g'.trans (gg.trans g5), bD5, p'.trans (p3.trans (p4.trans p5)), o5, hD5, ?_⟩
        rw [flat_take _ xs i hlt]
        rw [List.take_length] at r5
        exact r5
  · have e : i = xs.length := by omega
    subst e
    rw [List.take_length] at r'
    have sm : Same B' (upd B' D (.lst us)) := fun c u e => by rw [upd_ne (ne_of_none e bD')]; exact e
    refine .inl ⟨y2 (by rw [List.length_map]; exact Nat.le_refl _), k _ (upd B' D (.lst us)) as' H' ⟨(g1'.trans g').1.trans sm, fun c z n => ?_⟩ (p1.trans p') ⟨?_, ?_, o'.len, o'.nd, o'.al, ?_, ?_⟩ ⟨D, us, rfl, .inl (.inl upd_same), RpL.mono sm _ _ r'⟩⟩
    · rw [upd_ne (fun e : c = D => z.1 (by rw [e]; exact fD))]; exact (g1'.trans g').2 c z n
    · exact fun c u e => o'.fb c u (by rw [upd_ne (ne_of_none e fD)]; exact e)
    · intro c u e
      by_cases z : c = D
      · rw [z, upd_same] at e; rw [z, ← e]; exact hD'
      · rw [upd_ne z] at e; exact o'.bb c u e
    · intro c hc
      have q1 := o'.fa c hc
      rw [upd_ne (fun e : c = D => o'.out (e ▸ hc))] at q1
      exact q1
    · intro k a m e1 e2 hm
      obtain ⟨q1, q2, q3⟩ := o'.own k a m e1 e2 hm
      have ne : a ≠ D := fun e => by rw [e, upd_same] at q1; cases q1
      rw [upd_ne ne] at q1
      exact ⟨q1, by rw [upd_ne ne]; exact q2, MoR.mono sm rfl q3⟩
/-! ### what was owned, joined on -/
theorem ev_freezeX {k : Nat} {xs : List Dt} (h : EvE K te G M (.o k) M1) (hm : M1[k]? = some (.lst xs)) : EvE K te G M (.d (lstX K xs)) (M1.set k .gone) := fun F B as σ H ow sl Q q =>
  h F B as σ H ow sl _ fun v B1 as1 H1 g p o1 r => by
    obtain ⟨a, ha, rfl⟩ := r
    obtain ⟨_, _, vs, hv, hr⟩ := o1.own k a _ ha hm (fun z => nomatch z)
    have e2 : (M1.set k (.hob (.lst vs)))[k]? = some (.hob (.lst vs)) := List.getElem?_set_self (List.getElem?_eq_some_iff.mp hm).1
    have o2 : Ow K F B1 as1 (M1.set k (.hob (.lst vs))) H1 := by
      have := o1.put (o := .lst vs) (m' := .hob (.lst vs)) ha hm (fun z => nomatch z) ⟨upd_same, fun _ z => nomatch z⟩
      rwa [show upd H1 a (.lst vs) = H1 from funext fun b => by
        by_cases e : b = a
        · rw [e, upd_same, hv]
        · rw [upd_ne e]] at this
    obtain ⟨g', ow'⟩ := o2.freezeO ha e2
    rw [List.set_set] at ow'
    exact q _ _ as1 H1 (g.trans g') p ow' fun H' s => ⟨a, vs, rfl, s _ _ upd_same, RpL.mono (g'.1.trans s) _ _ hr⟩
end
/-! ### isinstance(x, int), isinstance(x, bool), of whole numbers -/
abbrev tyInt : Dt := .raw (.ty "int")
abbrev tyBool : Dt := .raw (.ty "bool")
section
variable {K : PySem.W.Frag} {i : Int}
theorem rc_intI : RC K (rIsi K) [.int i, tyInt] (.bl true) := fun F B as M H vs Q ow r q => by
  obtain ⟨v, r1, e1, h1, w, r2, e2, h2, e3⟩ := r
  have h1 : v = V.int i := h1
  have h2 : w = V.ty "int" := h2
  have e3 : r2 = [] := e3
  subst e3; subst e2; subst e1; subst h2; subst h1
  exact ⟨_, _, _, _, true, rfl, .ty "int", .base (.int i), kit_ty (by decide +kernel), q _ B H (Gr.refl F B) ow rfl⟩
theorem rc_intNB : RC K (rIsi K) [.int i, tyBool] (.bl false) := fun F B as M H vs Q ow r q => by
  obtain ⟨v, r1, e1, h1, w, r2, e2, h2, e3⟩ := r
  have h1 : v = V.int i := h1
  have h2 : w = V.ty "bool" := h2
  have e3 : r2 = [] := e3
  subst e3; subst e2; subst e1; subst h2; subst h1
  exact ⟨_, _, _, _, false, rfl, .ty "bool", .base (.int i), kit_ty (by decide +kernel), q _ B H (Gr.refl F B) ow rfl⟩
end
/-! ### defs with defaults -/
structure DfD (K : PySem.W.Frag) (mg : Str → Option Value) (x : Str) (st : Stmt) (dvs : List V) : Prop where
  ex : ∃ (f : Addr) (fd : FuncData), L2.FunD K x x (defArgs st) (defBody st) (defScope st) dvs [] f fd ∧ mg x = some (.ref f)
theorem cal_mkD {P : Program} {w : World} {K : PySem.W.Frag} {mg : Str → Option Value} {base : Heap} {x : Str} {st : Stmt} {N ps : List Str} {dvs : List V} {k n : Nat} {R : List Sl → List MO → Sl → List MO → Prop} (D : DfD K mg x st dvs) (S : FnScope N ps (defScope st)) (hn : ps.length = n)
    (hb : ∀ (f : Addr) (cdv : Value) (A : Around) (outer : List Env) (s : Shared) (H : Hp) (E : XK), Room k (A.deeper (envOfC x (defScope st) s.heap.objs.size f cdv)) → ∀ ss M r M', R ss M r M' →
      ∃ t X, PSs (cxOf CX0 P w K mg base N x (defScope st) f cdv A outer s H E).nox (defBody st) t ∧ EvS K t (start N.length ss) M (.rt r (M' ++ X)) ∧ M.length ≤ M'.length ∧ ∀ j, r = .o j → j < M'.length)
    (j : Nat) (hj : n - (dvs.length - j) + (dvs.length - j) = n) (hd : dvs ≠ [])
    (hbind : ∀ (T : Addr) (kV doc pm : Value) (an : Option Addr) (cdv ct : Value) (us its : List Value), us.length = n - (dvs.length - j) → its.length = dvs.length →
      ∃ k, bindArgs (PySem.W.fnOf x x (defArgs st) (defBody st) (defScope st) (.ref T) kV doc pm an cdv ct) ⟨us, []⟩ = seqItems? (.ref T) >>= k ∧ k (some its.toArray) = pure (ps.zip (us ++ its.drop j))) :
    Cal P w K mg base (k + 1) x (SpR K n R) (dvs.drop j) := by
  obtain ⟨f, fd, F, hm⟩ := D.ex
  obtain ⟨ds, hv, hbb⟩ := F.binds1 (ps := ps) (n - (dvs.length - j)) j hd (by rw [hn]; exact hj) hbind
  refine ⟨f, fd, ps, ds, F.ok S (fun vs H Q E h => ?_) (fun cdv A outer s H vs Q E hr h => ?_), hm, F.kp, hbb, hv⟩
  · obtain ⟨_, _, _, _, _, _, _, _, _, _, e, _⟩ := h
    rw [e, hn]
  · obtain ⟨F', B, as, ss, M, r, M', hR, ow, sl, _, q⟩ := h
    obtain ⟨t, X, ht, he, hl, hr'⟩ := hb f cdv A outer s H E hr ss M r M' hR
    exact ⟨t, ht.nox, run_body (X := X) he hl hr' ow sl q⟩
end DJ
namespace DJ
open PySem PySem.Spec PyProof.Rows L2
/-! ### what the top leaves of a def with defaults -/
/-- these values are these whole numbers -/
def intsOf : List Int → List Value → Bool
  | [], [] => true
  | l :: ls, .int x _ :: vs => decide (x = l) && intsOf ls vs
  | _, _ => false
theorem vals_ints : ∀ {ls : List Int} {vs : List Value}, intsOf ls vs = true → Vals (ls.map V.int) vs
  | [], [], _ => .nil
  | l :: ls, .int x t :: vs, h => by
    have h : (decide (x = l) && intsOf ls vs) = true := h
    rw [Bool.and_eq_true, decide_eq_true_eq] at h
    exact .cons ⟨t, by rw [h.1]⟩ (vals_ints h.2)
  | [], _ :: _, h => by cases h
  | _ :: _, [], h => by cases h
  | _ :: _, .none :: _, h => by cases h
  | _ :: _, .bool _ :: _, h => by cases h
  | _ :: _, .str _ _ :: _, h => by cases h
  | _ :: _, .ref _ :: _, h => by cases h
theorem dfd_mk {K : PySem.W.Frag} {mg : Str → Option Value} {h : Heap} {x : Str} {st : Stmt} {f T : Addr} {oc tc : Value} {od an tod : Option Addr} {osl tsl : Array (Option Value)} {kV doc pm cdv ct : Value} {its : Array Value} {n : Nat} {ls : List Int}
    (X : K.In h) (G : h.Ns mainGlobals mg) (a : PySem.W.nsIn K mainGlobals x = some (some (.ref f)))
    (l : K.lookup f = some ⟨oc, od, .func (PySem.W.fnOf x x (defArgs st) (defBody st) (defScope st) (.ref T) kV doc pm an cdv ct), osl⟩) (c : PySem.W.codeIn K cdv x = true) (k : PySem.W.keepIn K (.ref f) = true)
    (lT : K.lookup T = some ⟨tc, tod, .seq its n, tsl⟩) (hs : intsOf ls its.toList = true) (hd : ls ≠ []) : DfD K mg x st (ls.map V.int) :=
  ⟨f, _, ⟨⟨oc, od, _, kV, doc, pm, an, cdv, ct, osl, rfl, l, c, .inr ⟨fun e => hd (List.map_eq_nil_iff.mp e), T, _, its.toList, n, rfl, lT, rfl, vals_ints hs⟩, .inl rfl⟩, k⟩, PySem.W.mg_of X G a⟩
end DJ
namespace DJ
open PySem PySem.Spec PyProof.Rows L2
/-! ### the limit on figures stands as it was: what K tells -/
abbrev DgK (K : PySem.W.Frag) : Prop := PySem.W.nsIn K cStatics "sys.int_max_str_digits" = some none
theorem mc_none {K : PySem.W.Frag} {h : Heap} {mc : Str → Option Value} {a : Addr} {n : Str} (X : K.In h) (G : h.Ns a mc) (e : PySem.W.nsIn K a n = some none) : mc n = none := by
  obtain ⟨o, es, ep, ho, hd, _, hf⟩ := G
  unfold PySem.W.nsIn at e
  split at e
  · rename_i c d es' n' sl q
    have := X _ _ q
    rw [ho] at this
    cases this
    cases hd
    split at e
    · cases e
    · rename_i he
      rw [← hf]
      unfold nsFind findBy
      rw [← Array.find?_toList, he]
      rfl
  · cases e
theorem nodig {X : Cx} {pins : List (Addr × Obj)} {σ : L2.St} {H : Hp} {s : Shared} (I : Inv X pins σ H s) (e : DgK X.K) : s.heap.NoDigits :=
  let ⟨mc, h1, _⟩ := I.nolimit
  ⟨mc, h1, mc_none I.kIn h1 e⟩
/-! ### str(n), n of at most 4,300 figures -/
def rStrL : List V → Hp → VK → Prop := fun xs H Q => ∃ i : Int, xs = [.int i] ∧ i.natAbs < 10 ^ 4300 ∧ Q (.str (toString i)) H
theorem call_str_long {X : Cx} (hc : X.calm = true) (e : DgK X.K) : CallR X (.type "str") rStrL := by
  intro pins s σ H xs us Q I r h
  obtain ⟨i, rfl, hz, q⟩ := h
  obtain ⟨u, rfl, t, rfl⟩ := vals1 r
  exact str_of_int_or (I.ok.hd hc) (nodig I e) (fun _ => ⟨.str _, H, I.tok _, ⟨_, rfl⟩, q⟩) (fun h => absurd h (Nat.not_le.mpr hz))
def intL (i : Int) : List Nat := if i < 0 then 45 :: TL.numL i.natAbs else TL.numL i.natAbs
theorem tx_int (i : Int) : (Str.ofString (toString i)) = tx (intL i) := by
  cases i with
  | ofNat n =>
    have e : intL (Int.ofNat n) = TL.numL n := if_neg (Int.not_lt.mpr (Int.natCast_nonneg n))
    rw [e]
    exact TL.ext_tl (TL.tl_num n)
  | negSucc n =>
    have e : intL (Int.negSucc n) = 45 :: TL.numL (n + 1) := if_pos (Int.negSucc_lt_zero n)
    rw [e]
    refine TL.ext_tl ?_
    have e2 : toString (Int.negSucc n) = "-" ++ toString (((n + 1 : Nat) : Int)) := rfl
    have e3 := TL.tl_num (n + 1)
    rw [TL.tl_ofString] at e3 ⊢
    rw [e2, String.toList_append, List.map_append, e3]
    rfl
section
variable {K : PySem.W.Frag} {i : Int}
theorem rc_strL (h : i.natAbs < 10 ^ 4300) : RC K rStrL [.int i] (.str (intL i)) := fun F B as M H vs Q ow r q => by
  obtain ⟨v, r1, e1, h1, e2⟩ := r
  have h1 : v = V.int i := h1
  have e2 : r1 = [] := e2
  subst e2; subst e1; subst h1
  exact ⟨i, rfl, h, q _ B H (Gr.refl F B) ow (by
    show V.str _ = V.str _
    rw [← tx_int])⟩
end
/-! ### int(text, 8) and int(text, 16) of any length -/
theorem dig_any {M : Model} {A : Around} {E : Value → Shared → Prop} {s : Shared} {Q : Nat → Shared → Prop} (hn : s.heap.NoDigits) (h : Q 4300 s) : wpAny M A Builtin.intMaxStrDigits Q E s := by
  obtain ⟨mc, hns, hnone⟩ := hn
  unfold Builtin.intMaxStrDigits
  refine wpAny_bind (wpAny_nsGet hns ?_)
  rw [hnone]
  exact wpAny_pure h
theorem wp_textL {M : Model} {A : Around} {E : Value → Shared → Prop} {s : Shared} {Q : Value → Shared → Prop} {v : Value} {text : List Nat} {B : Nat} {n : Int} (hn : s.heap.NoDigits)
    (hr : ∀ k, (int_private% "readNumeral") k B (text.takeWhile (· != 0)) = (int_private% "Numeral.value") n)
    (ha : ((text.takeWhile (· != 0)).length == text.length) = true) (h : Q (.int n s.toks) { s with toks := s.toks + 1 }) :
    wpAny M A ((int_private% "intFromText") v text B) Q E s := by
  by_cases hs : (text.takeWhile (· != 0)).length ≤ 640
  · exact Hx.wp_textB hs (hr 0) ha h
  · have hr := hr 4300
    obtain ⟨hp, g, d, tk, os⟩ := s
    repeat (any_goals (first
      | assumption
      | (with_reducible refine wpAny_ite_false (decide_eq_false hs) ?_)
      | ((with_reducible show wpAny _ _ Builtin.intMaxStrDigits _ _ _); refine dig_any hn ?_)
      | (with_reducible refine wpAny_ite_true (decide_eq_true ha) ?_)
      | wp_step))
    all_goals (try rw [hr])
    all_goals (try dsimp only)
    repeat (any_goals (first
      | assumption
      | (with_reducible refine wpAny_ite_true (decide_eq_true ha) ?_)
      | wp_step))
open PySem.NumText in
theorem read_octL (k : Nat) {cs : List Nat} (h : ∀ c ∈ cs, Oct c) (hne : cs ≠ []) : (int_private% "readNumeral") k 8 cs = (int_private% "Numeral.value") ((octNum cs : Nat) : Int) := by
  have hr : ∀ c ∈ cs.reverse, Hx.IsHex c := fun c hc => (h c (List.mem_reverse.mp hc)).hex
  have hb : based 8 cs = (8, false, cs) := based_oct h
  refine (readNumeral_eq k 8 cs).trans ?_
  rw [Hx.dropB fun c hc => (h c hc).hex, Hx.signH fun c hc => (h c hc).hex]
  show judge k false (based 8 cs).1 (based 8 cs).2.1 (digits? (based 8 cs).1 (((based 8 cs).2.2.reverse.dropWhile blank).reverse)) = _
  rw [hb]
  show judge k false 8 false (digits? 8 ((cs.reverse.dropWhile blank).reverse)) = _
  rw [Hx.dropB hr, List.reverse_reverse, digits_oct h hne]
  show (int_private% "Numeral.value") (((cs.foldl (fun acc c => acc.push (Hx.hv c)) (#[] : Array Nat)).foldl (fun acc d => acc * 8 + d) 0 : Nat) : Int) = _
  rw [push_oct]
  rfl
open PySem.NumText in
theorem read_hexL (k : Nat) {cs : List Nat} (h : ∀ c ∈ cs, Hx.IsHex c) (hne : cs ≠ []) : (int_private% "readNumeral") k 16 cs = (int_private% "Numeral.value") ((Hx.hexNum cs : Nat) : Int) := by
  have hr : ∀ c ∈ cs.reverse, Hx.IsHex c := fun c hc => h c (List.mem_reverse.mp hc)
  refine (readNumeral_eq k 16 cs).trans ?_
  rw [Hx.dropB h, Hx.signH h]
  show judge k false (based 16 cs).1 (based 16 cs).2.1 (digits? (based 16 cs).1 (((based 16 cs).2.2.reverse.dropWhile blank).reverse)) = _
  rw [Hx.basedH h]
  show judge k false 16 false (digits? 16 ((cs.reverse.dropWhile blank).reverse)) = _
  rw [Hx.dropB hr, List.reverse_reverse, Hx.digits_hex h hne]
  show (int_private% "Numeral.value") (((cs.foldl (fun acc c => acc.push (Hx.hv c)) (#[] : Array Nat)).foldl (fun acc d => acc * 16 + d) 0 : Nat) : Int) = _
  rw [Hx.push_hex]
  rfl
theorem core_based {B : Nat} {x : PySem.Str} {u t : Tok} {n : Int} (hB : B = 8 ∨ B = 16) (h : ∀ c ∈ x.cps.toList, Hx.IsHex c) (hr0 : ∀ k, (int_private% "readNumeral") k B x.cps.toList = (int_private% "Numeral.value") n)
    {M : Model} {A : Around} {E : Value → Shared → Prop} {s : Shared} {Q : Value → Shared → Prop} (hn : s.heap.NoDigits) (hQ : Q (.int n s.toks) { s with toks := s.toks + 1 }) :
    wpAny M A (Builtin.«int.__new__» ⟨[.type "int", .str x u, .int (B : Nat) t], []⟩) (fun fin s' => ∃ v, fin = .done (.ret v) ∧ Q v s') E s := by
  have g1 := F.conv_sub_int
  have g2 := F.madeHere_int
  have g6 : typeOf (.str x u) = pure (.type "str") := rfl
  have e12 := Hx.seen_hex (x := x) h
  have hr : ∀ k, (int_private% "readNumeral") k B (numSeenOf x) = (int_private% "Numeral.value") n := by
    rw [e12.2]
    exact hr0
  have ha : ((numSeenOf x).length == (numTextOf x).length) = true := by
    rw [e12.1, e12.2]
    exact beq_self_eq_true _
  have hk := Hx.Hid.mk (And.intro hn (And.intro hr ha))
  obtain ⟨hp, g, d, tk, os⟩ := s
  clear hr ha e12 hr0 h hn
  rcases hB with e | e
  all_goals
    subst e
    repeat (any_goals (first
      | assumption
      | ((with_reducible show wpAny _ _ ((int_private% "intFromText") _ _ _) _ _ _); refine wp_textL hk.out.1 hk.out.2.1 hk.out.2.2 ?_)
      | wp_step))
    all_goals first | exact ⟨_, rfl, hQ⟩ | skip
theorem meets_based {B : Nat} {x : PySem.Str} {u t : Tok} {n : Int} (hB : B = 8 ∨ B = 16) (h : ∀ c ∈ x.cps.toList, Hx.IsHex c) (hr0 : ∀ k, (int_private% "readNumeral") k B x.cps.toList = (int_private% "Numeral.value") n) :
    Meets (Builtin.«int.__new__» ⟨[.type "int", .str x u, .int (B : Nat) t], []⟩) (fun _ R s => s.heap.NoDigits ∧ R (.ok (.ret (.int n s.toks))) { s with toks := s.toks + 1 }) := fun prog w A R s hS =>
  wpAny_mono (core_based (Q := fun v s' => R (.ok (.ret v)) s') hB h hr0 hS.1 hS.2) (fun fin s' h' => by obtain ⟨v, rfl, hv⟩ := h'; exact hv) fun _ _ x => x
def rIntOctL : List V → Hp → VK → Prop := fun xs H Q => ∃ l : List Nat, xs = [.str (SX.S l), .int 8] ∧ l ≠ [] ∧ (∀ c ∈ l, Oct c) ∧ Q (.int ((octNum l : Nat) : Int)) H
def rIntHexL : List V → Hp → VK → Prop := fun xs H Q => ∃ l : List Nat, xs = [.str (SX.S l), .int 16] ∧ l ≠ [] ∧ (∀ c ∈ l, Hx.IsHex c) ∧ Q (.int ((Hx.hexNum l : Nat) : Int)) H
theorem call_int_octL {X : Cx} (e : DgK X.K) : CallR X (.type "int") rIntOctL := by
  intro pins s σ H xs us Q I r h
  obtain ⟨l, rfl, hne, hx, q⟩ := h
  obtain ⟨u, w', rfl, r1, r2⟩ := vals2 r
  obtain ⟨t1, rfl⟩ := r1
  obtain ⟨t2, rfl⟩ := r2
  exact callType_new F.called_int F.newNe_int (Hx.typeCall_int_2 _ _) (Hx.newCall_int_2 _ _) (fun obj => F.initArgs_range_2 obj _ _) F.entry_int_new
    (meets_based (B := 8) (x := SX.S l) (n := ((octNum l : Nat) : Int)) (.inl rfl) (fun c hc => (hx c hc).hex) (fun k => read_octL k hx hne)) ⟨nodig I e, rfl, ⟨.int ((octNum l : Nat) : Int), H, I.tok _, ⟨_, rfl⟩, q⟩⟩
theorem call_int_hexL {X : Cx} (e : DgK X.K) : CallR X (.type "int") rIntHexL := by
  intro pins s σ H xs us Q I r h
  obtain ⟨l, rfl, hne, hx, q⟩ := h
  obtain ⟨u, w', rfl, r1, r2⟩ := vals2 r
  obtain ⟨t1, rfl⟩ := r1
  obtain ⟨t2, rfl⟩ := r2
  exact callType_new F.called_int F.newNe_int (Hx.typeCall_int_2 _ _) (Hx.newCall_int_2 _ _) (fun obj => F.initArgs_range_2 obj _ _) F.entry_int_new
    (meets_based (B := 16) (x := SX.S l) (n := ((Hx.hexNum l : Nat) : Int)) (.inr rfl) hx (fun k => read_hexL k hx hne)) ⟨nodig I e, rfl, ⟨.int ((Hx.hexNum l : Nat) : Int), H, I.tok _, ⟨_, rfl⟩, q⟩⟩
section
variable {K : PySem.W.Frag} {l : List Nat}
theorem rc_intOctL (hne : l ≠ []) (h : ∀ c ∈ l, Oct c) : RC K rIntOctL [.str l, .int 8] (.int ((octNum l : Nat) : Int)) := fun F B as M H vs Q ow r q => by
  obtain ⟨v, r1, e1, h1, w, r2, e2, h2, e3⟩ := r
  have h1 : v = V.str (tx l) := h1
  have h2 : w = V.int 8 := h2
  have e3 : r2 = [] := e3
  subst e3; subst e2; subst e1; subst h1; subst h2
  exact ⟨l, rfl, hne, h, q _ B H (Gr.refl F B) ow rfl⟩
theorem rc_intHexL (hne : l ≠ []) (h : ∀ c ∈ l, Hx.IsHex c) : RC K rIntHexL [.str l, .int 16] (.int ((Hx.hexNum l : Nat) : Int)) := fun F B as M H vs Q ow r q => by
  obtain ⟨v, r1, e1, h1, w, r2, e2, h2, e3⟩ := r
  have h1 : v = V.str (tx l) := h1
  have h2 : w = V.int 16 := h2
  have e3 : r2 = [] := e3
  subst e3; subst e2; subst e1; subst h1; subst h2
  exact ⟨l, rfl, hne, h, q _ B H (Gr.refl F B) ow rfl⟩
end
end DJ
namespace DJ
open PySem PySem.Spec PyProof.Rows L2
section
variable {K : PySem.W.Frag} {ta tb : TE} {G : List (Option Sl)} {M M1 M2 : List MO}
/-! ### an owned list == data; an owned list joined on, owned again -/
theorem ev_eqO {k : Nat} {xs : List Dt} {e : Dt} (ha : EvE K ta G M (.o k) M1) (hb : EvE K tb G M1 (.d e) M2) (hm : M2[k]? = some (.lst xs)) (h1 : plD (.lst xs) = true) (h2 : plD e = true) (n1 : dpD (.lst xs) ≤ 64) (n2 : dpD e ≤ 64) :
    EvE K (tOp (rEqD K) ta tb) G M (.d (.bl (eqD (.lst xs) e))) M2 := fun F B as σ H ow sl Q q => ha F B as σ H ow sl _ fun v B1 as1 H1 g1 p1 o1 r1 => by
  obtain ⟨a, ha, rfl⟩ := r1
  refine hb F B1 as1 σ H1 o1 (sl.mono g1.1 p1) _ fun u B2 as2 H2 g2 p2 o2 r2 => ?_
  obtain ⟨_, _, vs, hv, hr⟩ := o2.own k a _ (p2.get ha) hm (fun z => nomatch z)
  exact ⟨_, _, dp_of (.lst xs) (.ref a) h1 ⟨a, vs, rfl, .inl (.inl hv), RpL.mono o2.bb _ _ hr⟩, dp_of e u h2 (Rp.mono o2.bb _ _ r2), shp_of h1 n1, shp_of h2 n2, q _ B2 as2 H2 (g1.trans g2) (p1.trans p2) o2 rfl⟩
theorem ev_catO {xs ys : List Dt} (ha : EvE K ta G M (.d (lstX K xs)) M1) (hb : EvE K tb G M1 (.d (lstX K ys)) M2) (h : xs.length + ys.length ≤ 100000) :
    EvE K (tOp rCat ta tb) G M (.o M2.length) (M2 ++ [.lst (xs ++ ys)]) := fun F B as σ H ow sl Q q => ha F B as σ H ow sl _ fun v B1 as1 H1 g1 p1 o1 r1 => by
  refine hb F B1 as1 σ H1 o1 (sl.mono g1.1 p1) _ fun u B2 as2 H2 g2 p2 o2 r2 => ?_
  obtain ⟨a, vs, rfl, hv, hr⟩ := r1 B2 g2.1
  obtain ⟨b, us, rfl, hu, hs⟩ := r2 B2 (Same.refl _)
  refine ⟨a, b, vs, us, rfl, rfl, o2.bb _ _ hv, o2.bb _ _ hu, by rw [hr.len, hs.len]; exact Nat.le_trans h (by decide), fun p hp => ?_⟩
  refine q _ B2 (as2 ++ [p]) _ (g1.trans g2) ((p1.trans p2).trans ⟨[p], rfl⟩) (o2.newO hp ⟨vs ++ us, upd_same, RpL.append hr hs⟩) ⟨p, ?_, rfl⟩
  rw [← o2.len, List.getElem?_append_right (Nat.le_refl _), Nat.sub_self]
  rfl
end
end DJ
namespace DJ
open PySem PySem.Spec PyProof.Rows L2
section
variable {K : PySem.W.Frag} {i j : Int}
/-! ### // by long numbers; int of 1 and noughts -/
theorem ro_fdivW (h : CDivW i j) : RO K (rI CDivW fun i j => .int (i / j)) (.int i) (.int j) (.int (i / j)) := ro_I h fun _ _ => rfl
theorem log_short {n : Int} (h0 : 0 < n) (h : n < 1073741824) : n.natAbs.log2 < 9000 := by
  have h1 : n.natAbs < 2 ^ 30 := by omega
  have h2 : n.natAbs.log2 < 30 := (Nat.log2_lt (by omega)).mpr h1
  omega
theorem ten_val (k : Nat) : NumText.digitsVal (49 :: List.replicate k 48) = 10 ^ k := by
  show (49 :: List.replicate k 48).foldl (fun acc c => acc * 10 + (c - 48)) 0 = 10 ^ k
  have key : ∀ (k a : Nat), (List.replicate k 48).foldl (fun acc c => acc * 10 + (c - 48)) a = a * 10 ^ k := by
    intro k
    induction k with
    | zero => intro a; simp
    | succ k ih =>
      intro a
      rw [List.replicate_succ, List.foldl_cons, ih, Nat.pow_succ]
      show (a * 10 + 0) * 10 ^ k = _
      rw [Nat.add_zero, Nat.mul_assoc, Nat.mul_comm 10]
  rw [List.foldl_cons, key]
  show (0 * 10 + 1) * 10 ^ k = _
  omega
theorem rc_ten {k : Nat} (h : k ≤ 639) : RC K (fun xs H Q => ∃ a n, xs = [.str a] ∧ PySem.intText? a = some n ∧ a.length ≤ 640 ∧ Q (.int n) H) [.str (49 :: List.replicate k 48)] (.int ((10 ^ k : Nat) : Int)) := by
  have := rc_intS (K := K) (l := 49 :: List.replicate k 48) (by
    rw [List.all_cons, List.all_replicate]
    cases k <;> simp) (List.cons_ne_nil _ _) (by rw [List.length_cons, List.length_replicate]; omega)
  rw [ten_val] at this
  exact this
end
end DJ
namespace DJ
open PySem PySem.Spec PyProof.Rows L2
/-! ### exceptions: what is raised, and where it leaves -/
structure Ex where
  cls : Value
  fx : Option (Str × Dt)
def XR (K : PySem.W.Frag) (B : Hp) (x : Ex) (cls : Value) (d : Option Addr) : Prop :=
  cls = x.cls ∧ match x.fx with
    | none => d = none
    | some (f, y) => ∃ dd v, d = some dd ∧ B dd = some (.xd [(f, v)]) ∧ Rp K B y v
def EvR (K : PySem.W.Frag) (t : TS) (W : WX) (G : List (Option Sl)) (M : List MO) (x : Ex) (G' : List (Option Sl)) (M' : List MO) : Prop :=
  ∀ F B as σ H, Ow K F B as M H → Slt K B as G σ → (∀ B' as' σ' H' cls d, Gr F B B' → Px as as' → Ow K F B' as' M' H' → Slt K B' as' G' σ' → XR K B' x cls d → W cls d σ' H') → ∀ D : Ends, t D σ H
def EvX (K : PySem.W.Frag) (te : TE) (W : WX) (G : List (Option Sl)) (M : List MO) (x : Ex) (M' : List MO) : Prop :=
  ∀ F B as σ H, Ow K F B as M H → Slt K B as G σ → (∀ B' as' H' cls d, Gr F B B' → Px as as' → Ow K F B' as' M' H' → XR K B' x cls d → W cls d σ H') → ∀ Q : VK, te σ H Q
section
variable {K : PySem.W.Frag} {G G1 G2 G3 : List (Option Sl)} {M M1 M2 M3 : List MO} {t u : TS} {te : TE} {tt : TT} {W : WX} {x : Ex} {b : Bool} {s : Sl} {o : Out}
theorem er_pre (l : Lg G G1) (h : EvR K t W G1 M x G2 M2) : EvR K t W G M x G2 M2 := fun F B as σ H ow sl q D => h F B as σ H ow (sl.weak l) q D
theorem er_weak (h : EvR K t W G M x G1 M1) (l : Lg G1 G2) : EvR K t W G M x G2 M1 := fun F B as σ H ow sl q D => h F B as σ H ow sl (fun B' as' σ' H' cls d g p o' s' r => q B' as' σ' H' cls d g p o' (s'.weak l) r) D
theorem er_seq1 (h : EvR K t W G M x G1 M1) : EvR K (tSeq t u) W G M x G1 M1 := fun F B as σ H ow sl q D => h F B as σ H ow sl q _
theorem er_seq2 (h : EvS K t G M (.nx G1 M1)) (h2 : EvR K u W G1 M1 x G2 M2) : EvR K (tSeq t u) W G M x G2 M2 := fun F B as σ H ow sl q D =>
  h F B as σ H ow sl { D with nx := u D } fun B1 as1 σ1 H1 g p o1 s1 => h2 F B1 as1 σ1 H1 o1 s1 (fun B' as' σ' H' cls d g' p' => q B' as' σ' H' cls d (g.trans g') (p.trans p')) D
theorem er_if (h : EvT K tt G M b M1) (h1 : b = true → EvR K t W G M1 x G2 M2) (h2 : b = false → EvR K u W G M1 x G2 M2) : EvR K (tIfS tt t u) W G M x G2 M2 := fun F B as σ H ow sl q D =>
  h F B as σ H ow sl _ fun B1 as1 H1 g p o1 => by
    cases b with
    | true => exact h1 rfl F B1 as1 σ H1 o1 (sl.mono g.1 p) (fun B' as' σ' H' cls d g' p' => q B' as' σ' H' cls d (g.trans g') (p.trans p')) D
    | false => exact h2 rfl F B1 as1 σ H1 o1 (sl.mono g.1 p) (fun B' as' σ' H' cls d g' p' => q B' as' σ' H' cls d (g.trans g') (p.trans p')) D
/-- a passed test, then what raises -/
theorem er_pass (h : EvT K tt G M false M1) (h2 : EvR K u W G M1 x G2 M2) : EvR K (tSeq (tIfS tt t tNext) u) W G M x G2 M2 := fun F B as σ H ow sl q D =>
  h F B as σ H ow sl _ fun B1 as1 H1 g p o1 => h2 F B1 as1 σ H1 o1 (sl.mono g.1 p) (fun B' as' σ' H' cls d g' p' => q B' as' σ' H' cls d (g.trans g') (p.trans p')) D
theorem er_ret (h : EvX K te W G M x M1) : EvR K (tRet te) W G M x G M1 := fun F B as σ H ow sl q D => h F B as σ H ow sl (fun B' as' H' cls d g p o' r => q B' as' σ H' cls d g p o' (sl.mono g.1 p) r) _
theorem er_asg {g : TG} (h : EvX K te W G M x M1) : EvR K (tAsg te g) W G M x G M1 := fun F B as σ H ow sl q D => h F B as σ H ow sl (fun B' as' H' cls d g p o' r => q B' as' σ H' cls d g p o' (sl.mono g.1 p) r) _
theorem er_drop (h : EvX K te W G M x M1) : EvR K (tDrop te) W G M x G M1 := fun F B as σ H ow sl q D => h F B as σ H ow sl (fun B' as' H' cls d g p o' r => q B' as' σ H' cls d g p o' (sl.mono g.1 p) r) _
theorem er_nG {G' : List (Option Sl)} (e : G = G') (h : EvR K t W G' M x G2 M2) : EvR K t W G M x G2 M2 := e ▸ h
/-- a for in which turn i raises -/
theorem er_for {β : Type} {wi : TI} {g : TG} {tb : TS} (xs : List β) (en : β → Dt) (Gn : Nat → List (Option Sl)) (Mn : Nat → List MO) (n : Nat) (y : β) (hn : xs[n]? = some y) (hI : EvI K wi G M (xs.map en) (Mn 0)) (h0 : Lg G (Gn 0))
    (turn : ∀ (i : Nat) (z : β), i < n → xs[i]? = some z → ∃ G1, EvG K g (Gn i) (.d (en z)) G1 ∧ (EvS K tb G1 (Mn i) (.nx (Gn (i + 1)) (Mn (i + 1))) ∨ EvS K tb G1 (Mn i) (.ct (Gn (i + 1)) (Mn (i + 1)))))
    (last : ∃ G1, EvG K g (Gn n) (.d (en y)) G1 ∧ EvR K tb W G1 (Mn n) x G2 M2) : EvR K (tFor wi g tb) W G M x G2 M2 := fun F B as σ H ow sl q D => by
  refine hI F B as σ H ow sl _ fun J B1 as1 H1 g1 p1 o1 yl => ?_
  have hnl : n < xs.length := (List.getElem?_eq_some_iff.mp hn).1
  refine ⟨fun i m σ' H' => ∃ B' as', m = xs.length - i ∧ i ≤ n ∧ Gr F B1 B' ∧ Px as1 as' ∧ Ow K F B' as' (Mn i) H' ∧ Slt K B' as' (Gn i) σ', ⟨xs.length, B1, as1, by simp, Nat.zero_le _, Gr.refl F B1, Px.refl as1, o1, (sl.mono g1.1 p1).weak h0⟩, fun i m σ' H' w => ?_⟩
  obtain ⟨B', as', rfl, hi, g', p', o', s'⟩ := w
  obtain ⟨y1, y2⟩ := yl F B' as' (Mn i) H' i g'.1 o'
  have hlt : i < xs.length := Nat.lt_of_le_of_lt hi hnl
  have hx : xs[i]? = some xs[i] := List.getElem?_eq_getElem hlt
  obtain ⟨go, yld⟩ := y1 (en xs[i]) (by rw [List.getElem?_map, hx] <;> rfl)
  refine .inr ⟨go, fun σ2 H2 => ∃ B' as', i + 1 ≤ n ∧ Gr F B1 B' ∧ Px as1 as' ∧ Ow K F B' as' (Mn (i + 1)) H2 ∧ Slt K B' as' (Gn (i + 1)) σ2, fun σ2 H2 n2 => ?_, fun v H2 yv => ?_⟩
  · obtain ⟨B2, as2, q1, q3, q4, q5, q6⟩ := n2
    exact ⟨xs.length - (i + 1), by omega, B2, as2, rfl, q1, q3, q4, q5, q6⟩
  · obtain ⟨B2, g2, o2, r2⟩ := yld v H2 yv
    rcases Nat.lt_or_eq_of_le hi with hlt2 | he
    · obtain ⟨G1, hg, ht⟩ := turn i xs[i] hlt2 hx
      refine hg F B2 as' (Mn i) σ' H2 v o2 (s'.mono g2.1 (Px.refl as')) r2 _ fun B3 as3 σ3 H3 g3 p3 o3 s3 => ?_
      have gg : Gr F B1 B3 := g'.trans (g2.trans g3)
      have pp : Px as1 as3 := p'.trans p3
      rcases ht with ht | ht
      · exact ht F B3 as3 σ3 H3 o3 s3 _ fun B4 as4 σ4 H4 g4 p4 o4 s4 => ⟨B4, as4, hlt2, gg.trans g4, pp.trans p4, o4, s4⟩
      · exact ht F B3 as3 σ3 H3 o3 s3 _ fun B4 as4 σ4 H4 g4 p4 o4 s4 => ⟨B4, as4, hlt2, gg.trans g4, pp.trans p4, o4, s4⟩
    · subst he
      obtain ⟨G1, hg, ht⟩ := last
      rw [hx] at hn
      cases hn
      refine hg F B2 as' (Mn i) σ' H2 v o2 (s'.mono g2.1 (Px.refl as')) r2 _ fun B3 as3 σ3 H3 g3 p3 o3 s3 => ?_
      exact ht F B3 as3 σ3 H3 o3 s3 (fun B' as' σ' H' cls d g4 p4 => q B' as' σ' H' cls d (g1.trans (g'.trans (g2.trans (g3.trans g4)))) (p1.trans (p'.trans (p3.trans p4)))) _
/-! ### raise -/
def tRaise0 (W : WX) (C : Addr) : TS := fun _ σ H => W (.ref C) none σ H
theorem er_raise0 {C : Addr} : EvR K (tRaise0 W C) W G M ⟨.ref C, none⟩ G M := fun F B as σ H ow sl q D => q B as σ H _ _ (Gr.refl F B) (Px.refl as) ow sl ⟨rfl, rfl⟩
/-! ### try, the clause without a name, and with one -/
variable {tb : WX → TS} {ts : Addr → Value → Option Addr → TS} {Wout : WX} {c : Value}
theorem es_tryO (h : ∀ W, EvS K (tb W) G M o) : EvS K (fun D σ H => tb (wOnly K c ts Wout D) D σ H) G M o := fun F B as σ H ow sl D gd => h _ F B as σ H ow sl D gd
theorem es_tryOX (h : ∀ W, EvR K (tb W) W G M x G1 M1) (e : PySem.W.exmOne K x.cls c = some true) (h2 : ∀ a d, EvS K (ts a x.cls d) G1 M1 o) : EvS K (fun D σ H => tb (wOnly K c ts Wout D) D σ H) G M o := fun F B as σ H ow sl D gd =>
  h _ F B as σ H ow sl (fun B' as' σ' H' cls d g p o' s' r => by
    obtain ⟨rfl, _⟩ := r
    exact ⟨true, e, fun _ a _ => h2 a d F B' as' σ' H' o' s' D (gd.later g p), fun z => nomatch z⟩) D
theorem es_tryA {i : Nat} (h : ∀ W, EvS K (tb W) G M o) : EvS K (fun D σ H => tb (wAs K c i ts Wout D) D σ H) G M o := fun F B as σ H ow sl D gd => h _ F B as σ H ow sl D gd
/-- what an except suite knows of its error -/
def XfR (K : PySem.W.Frag) (a : Addr) (d : Option Addr) (f : Str) (y : Dt) : Dt := .ext fun H v => v = .ref a ∧ ∃ dd u, d = some dd ∧ H dd = some (.xd [(f, u)]) ∧ Rp K H y u
theorem es_tryAX {i : Nat} {C : Value} {f : Str} {y : Dt} {r : Sl} (h : ∀ W, EvR K (tb W) W G M ⟨C, some (f, y)⟩ G1 M1) (e : PySem.W.exmOne K C c = some true)
    (h2 : ∀ a d, EvS K (ts a C d) (G1.set i (some (.d (XfR K a d f y)))) M1 (.rt r M2)) : EvS K (fun D σ H => tb (wAs K c i ts Wout D) D σ H) G M (.rt r M2) := fun F B as σ H ow sl D gd =>
  h _ F B as σ H ow sl (fun B' as' σ' H' cls d g p o' s' r => by
    obtain ⟨rfl, dd, v, ed, eb, rv⟩ := r
    refine ⟨true, e, fun _ a na => ?_, fun z => nomatch z⟩
    refine h2 a d F B' as' _ H' o' (s'.set i (s := .d (XfR K a d f y)) (v := .ref a) ?_) _ fun v' B2 as2 H2 g2 p2 => gd v' B2 as2 H2 (g.trans g2) (p.trans p2)
    exact fun H2 sm => ⟨rfl, dd, v, ed, sm _ _ eb, Rp.mono sm _ _ rv⟩) D
/-- err.f -/
theorem ev_xf {C a : Addr} {d : Option Addr} {f : Str} {y : Dt} (h : EvE K te G M (.d (XfR K a d f y)) M1) : EvE K (tXf a (.ref C) d C f te) G M (.d y) M1 := fun F B as σ H ow sl Q q =>
  h F B as σ H ow sl _ fun v B1 as1 H1 g p o1 r => by
    obtain ⟨rfl, dd, u, ed, eb, _⟩ := r H1 o1.bb
    obtain ⟨_, dd', u', ed', eb', rv⟩ := r B1 (Same.refl B1)
    rw [ed] at ed'
    cases ed'
    have : u' = u := by
      have z := (o1.bb _ _ eb').symm.trans eb
      cases z
      rfl
    subst this
    exact ⟨rfl, rfl, dd, _, u', ed, eb, by simp [List.lookup], q _ B1 as1 H1 g p o1 rv⟩
end
/-! ### defs that may raise -/
def SpX (K : PySem.W.Frag) (n : Nat) (R : List Sl → List MO → Sl → List MO → Prop) (RX : List Sl → List MO → Ex → List MO → Prop) : Sp := fun vs H Q E =>
  ∃ F B as ss M, Ow K F B as M H ∧ SlL K B as ss vs ∧ vs.length = n ∧ ((∃ r M', R ss M r M' ∧ ∀ v B' as' H', Gr F B B' → Px as as' → Ow K F B' as' M' H' → SlR K B' as' r v → Q v H') ∨
    (∃ x M', RX ss M x M' ∧ ∀ cls d B' as' H', Gr F B B' → Px as as' → Ow K F B' as' M' H' → XR K B' x cls d → E cls d H'))
structure CalX (P : Program) (w : World) (K : PySem.W.Frag) (mg : Str → Option Value) (base : Heap) (k : Nat) (x : Str) (sp : Sp) (dvs : List V) : Prop where
  ex : ∃ (f : Addr) (fd : FuncData) (ps : List Str) (ds : List Value), FnOk P w K mg base (L2.CX P w) k f fd ps sp ∧ mg x = some (.ref f) ∧ PySem.W.keepIn K (.ref f) = true ∧ Binds K fd ps ds ∧ Vals dvs ds
section
variable {K : PySem.W.Frag} {F B B1 H : Hp} {as as1 : List Addr} {G G1 G2 G' : List (Option Sl)} {M M1 M2 M' X : List MO} {te : TE} {ta tk : TA} {s r : Sl} {t : TS} {E : XK} {W : WX} {x : Ex}
theorem run_bodyX {N : List Str} {ss : List Sl} {vs : List V} {D : Ends} (h : EvR K t (fun cls d _ H => E cls d H) (start N.length ss) M x G' (M' ++ X)) (hm : M.length ≤ M'.length) (ow : Ow K F B as M H) (sl : SlL K B as ss vs)
    (q : ∀ cls d B' as' H', Gr F B B' → Px as as' → Ow K F B' as' M' H' → XR K B' x cls d → E cls d H') : t D (L2.start N vs) H := by
  have sl' : Slt K B as (start N.length ss) (L2.start N vs) := by
    have e := sl.len
    unfold start L2.start
    rw [e]
    exact slt_args sl
  refine h F B as _ H ow sl' (fun B' as' σ' H' cls d g p o' s' r' => q cls d B' (as'.take M'.length) H' g ?_ o'.drop r') D
  obtain ⟨tl, rfl⟩ := p
  refine ⟨tl.take (M'.length - as.length), ?_⟩
  rw [List.take_append, List.take_of_length_le (by rw [ow.len]; exact hm)]
theorem call_coreX {n : Nat} {R : List Sl → List MO → Sl → List MO → Prop} {RX : List Sl → List MO → Ex → List MO → Prop} {ds : List Dt} {vs : List V} {Q : VK} (hn : ds.length = n) (o : Ow K F B as M H) (r : RpL K B ds vs)
    (h : (∃ z N, R (ds.map Sl.d) [] z N ∧ ∀ v B' as' H', Gr H B B' → Ow K H B' as' N H' → SlR K B' as' z v → Q v H') ∨ (∃ x N, RX (ds.map Sl.d) [] x N ∧ ∀ cls d B' as' H', Gr H B B' → Ow K H B' as' N H' → XR K B' x cls d → E cls d H')) : SpX K n R RX vs H Q E := by
  refine ⟨H, B, [], ds.map Sl.d, [], ⟨Same.refl H, o.bb, rfl, List.nodup_nil, fun _ h => (nomatch h), fun _ h => (nomatch h), fun k a m e => by simp at e⟩, SlL.of_data r, by rw [r.len]; exact hn, ?_⟩
  rcases h with ⟨z, N, hR, q⟩ | ⟨x, N, hR, q⟩
  · exact .inl ⟨z, N, hR, fun v B' as' H' g _ o' r' => q v B' as' H' g o' r'⟩
  · exact .inr ⟨x, N, hR, fun cls d B' as' H' g _ o' r' => q cls d B' as' H' g o' r'⟩
theorem ev_callX {n : Nat} {R : List Sl → List MO → Sl → List MO → Prop} {RX : List Sl → List MO → Ex → List MO → Prop} {ds : List Dt} {z : Dt} {dvs : List V} {es : List Dt} {E : L2.St → XK} (h : EvA K ta G M (ds.map Sl.d) M1) (hR : R ((ds ++ es).map Sl.d) [] (.d z) []) (hn : (ds ++ es).length = n) (hd : ∀ B, RpL K B es dvs) :
    EvE K (tCallSD (SpX K n R RX) dvs E ta) G M (.d z) M1 := fun F B as σ H ow sl Q q =>
  h F B as σ H ow sl _ fun vs B1 as1 H1 g1 p1 o1 r1 => call_coreX hn o1 (RpL.append (SlL.data r1) (hd B1)) (.inl ⟨_, _, hR, fun v B' as' H' g o' r' => by
    obtain ⟨g2, o2⟩ := back0 o1 g o'
    exact q v B' as1 H' (g1.trans g2) p1 o2 r'⟩)
theorem ex_callX {n : Nat} {R : List Sl → List MO → Sl → List MO → Prop} {RX : List Sl → List MO → Ex → List MO → Prop} {ds : List Dt} {dvs : List V} {es : List Dt} (h : EvA K ta G M (ds.map Sl.d) M1) (hR : RX ((ds ++ es).map Sl.d) [] x []) (hn : (ds ++ es).length = n) (hd : ∀ B, RpL K B es dvs) :
    EvX K (tCallSD (SpX K n R RX) dvs (WE W) ta) W G M x M1 := fun F B as σ H ow sl q Q =>
  h F B as σ H ow sl _ fun vs B1 as1 H1 g1 p1 o1 r1 => call_coreX hn o1 (RpL.append (SlL.data r1) (hd B1)) (.inr ⟨_, _, hR, fun cls d B' as' H' g o' r' => by
    obtain ⟨g2, o2⟩ := back0 o1 g o'
    exact q B' as1 H' cls d (g1.trans g2) p1 o2 r'⟩)
end
section
variable {P : Program} {w : World} {K : PySem.W.Frag} {mg : Str → Option Value} {base : Heap}
/-- the context of a def's body, which may raise -/
abbrev cxX (P : Program) (w : World) (K : PySem.W.Frag) (mg : Str → Option Value) (base : Heap) (N : List Str) (x : Str) (st : Stmt) (f : Addr) (cdv : Value) (A : Around) (outer : List Env) (s : Shared) (H : Hp) (E : XK) : Cx := cxOf (L2.CX P w) P w K mg base N x (defScope st) f cdv A outer s H E
theorem cal_mkX {x : Str} {st : Stmt} {N ps : List Str} {k n : Nat} {R : List Sl → List MO → Sl → List MO → Prop} {RX : List Sl → List MO → Ex → List MO → Prop} (D : Df K mg x st ps) (S : FnScope N ps (defScope st)) (hn : ps.length = n)
    (hb : ∀ (f : Addr) (cdv : Value) (A : Around) (outer : List Env) (s : Shared) (H : Hp) (E : XK), Room k (A.deeper (envOfC x (defScope st) s.heap.objs.size f cdv)) → Takes (cxX P w K mg base N x st f cdv A outer s H E) (fun cls d _ H => E cls d H) → PassesOwn (model P w) (cxX P w K mg base N x st f cdv A outer s H E).A (cxX P w K mg base N x st f cdv A outer s H E).env (cxX P w K mg base N x st f cdv A outer s H E).xe →
      (∀ ss M r M', R ss M r M' → ∃ t X, PSs (cxX P w K mg base N x st f cdv A outer s H E) (defBody st) t ∧ ((EvS K t (start N.length ss) M (.rt r (M' ++ X)) ∧ ∀ j, r = .o j → j < M'.length) ∨ (∃ G1, EvS K t (start N.length ss) M (.nx G1 (M' ++ X)) ∧ r = .d .non)) ∧ M.length ≤ M'.length) ∧
      (∀ ss M x' M', RX ss M x' M' → ∃ t X G', PSs (cxX P w K mg base N x st f cdv A outer s H E) (defBody st) t ∧ EvR K t (fun cls d _ H => E cls d H) (start N.length ss) M x' G' (M' ++ X) ∧ M.length ≤ M'.length)) :
    CalX P w K mg base (k + 1) x (SpX K n R RX) [] := by
  obtain ⟨f, fd, F, hm, b⟩ := D.ex
  refine ⟨f, fd, ps, [], F.okX S (fun vs H Q E h => ?_) (fun cdv A outer s H vs Q E hr h => ?_), hm, F.kp, b, .nil⟩
  · obtain ⟨_, _, _, _, _, _, _, e, _⟩ := h
    rw [e, hn]
  · obtain ⟨F', B, as, ss, M, ow, sl, _, q⟩ := h
    obtain ⟨h1, h2⟩ := hb f cdv A outer s H E hr (takes_of rfl rfl rfl rfl) (passes_of rfl)
    rcases q with ⟨r, M', hR, q⟩ | ⟨x', M', hR, q⟩
    · obtain ⟨t, X, ht, he, hl⟩ := h1 ss M r M' hR
      rcases he with ⟨he, hr'⟩ | ⟨G1, he, hr'⟩
      · exact ⟨t, ht, run_body (X := X) he hl hr' ow sl q⟩
      · subst hr'
        exact ⟨t, ht, run_bodyN (X := X) he hl ow sl q⟩
    · obtain ⟨t, X, G', ht, he, hl⟩ := h2 ss M x' M' hR
      exact ⟨t, ht, run_bodyX (X := X) he hl ow sl q⟩
/-- .. with defaults -/
theorem cal_mkDX {x : Str} {st : Stmt} {N ps : List Str} {dvs : List V} {k n : Nat} {R : List Sl → List MO → Sl → List MO → Prop} {RX : List Sl → List MO → Ex → List MO → Prop} (D : DfD K mg x st dvs) (S : FnScope N ps (defScope st)) (hn : ps.length = n)
    (hb : ∀ (f : Addr) (cdv : Value) (A : Around) (outer : List Env) (s : Shared) (H : Hp) (E : XK), Room k (A.deeper (envOfC x (defScope st) s.heap.objs.size f cdv)) → Takes (cxX P w K mg base N x st f cdv A outer s H E) (fun cls d _ H => E cls d H) → PassesOwn (model P w) (cxX P w K mg base N x st f cdv A outer s H E).A (cxX P w K mg base N x st f cdv A outer s H E).env (cxX P w K mg base N x st f cdv A outer s H E).xe →
      (∀ ss M r M', R ss M r M' → ∃ t X, PSs (cxX P w K mg base N x st f cdv A outer s H E) (defBody st) t ∧ ((EvS K t (start N.length ss) M (.rt r (M' ++ X)) ∧ ∀ j, r = .o j → j < M'.length) ∨ (∃ G1, EvS K t (start N.length ss) M (.nx G1 (M' ++ X)) ∧ r = .d .non)) ∧ M.length ≤ M'.length) ∧
      (∀ ss M x' M', RX ss M x' M' → ∃ t X G', PSs (cxX P w K mg base N x st f cdv A outer s H E) (defBody st) t ∧ EvR K t (fun cls d _ H => E cls d H) (start N.length ss) M x' G' (M' ++ X) ∧ M.length ≤ M'.length))
    (j : Nat) (hj : n - (dvs.length - j) + (dvs.length - j) = n) (hd : dvs ≠ [])
    (hbind : ∀ (T : Addr) (kV doc pm : Value) (an : Option Addr) (cdv ct : Value) (us its : List Value), us.length = n - (dvs.length - j) → its.length = dvs.length →
      ∃ k, bindArgs (PySem.W.fnOf x x (defArgs st) (defBody st) (defScope st) (.ref T) kV doc pm an cdv ct) ⟨us, []⟩ = seqItems? (.ref T) >>= k ∧ k (some its.toArray) = pure (ps.zip (us ++ its.drop j))) :
    CalX P w K mg base (k + 1) x (SpX K n R RX) (dvs.drop j) := by
  obtain ⟨f, fd, F, hm⟩ := D.ex
  obtain ⟨ds, hv, hbb⟩ := F.binds1 (ps := ps) (n - (dvs.length - j)) j hd (by rw [hn]; exact hj) hbind
  refine ⟨f, fd, ps, ds, F.ok S (fun vs H Q E h => ?_) (fun cdv A outer s H vs Q E hr h => ?_), hm, F.kp, hbb, hv⟩
  · obtain ⟨_, _, _, _, _, _, _, e, _⟩ := h
    rw [e, hn]
  · obtain ⟨F', B, as, ss, M, ow, sl, _, q⟩ := h
    obtain ⟨h1, h2⟩ := hb f cdv A outer s H E hr (takes_of rfl rfl rfl rfl) (passes_of rfl)
    rcases q with ⟨r, M', hR, q⟩ | ⟨x', M', hR, q⟩
    · obtain ⟨t, X, ht, he, hl⟩ := h1 ss M r M' hR
      rcases he with ⟨he, hr'⟩ | ⟨G1, he, hr'⟩
      · exact ⟨t, ht, run_body (X := X) he hl hr' ow sl q⟩
      · subst hr'
        exact ⟨t, ht, run_bodyN (X := X) he hl ow sl q⟩
    · obtain ⟨t, X, G', ht, he, hl⟩ := h2 ss M x' M' hR
      exact ⟨t, ht, run_bodyX (X := X) he hl ow sl q⟩
end
section
variable {X : Cx} {k j : Nat} {x : Str} {sp : Sp} {dvs : List V} {p pos apos : Pos} {e o : Expr} {es : List Expr} {ta te to : TE} {t : TA} {W : WX}
theorem pe_cX (c : CalX X.prog X.w X.K X.mg X.base k x sp dvs) (tk : Takes X W) (hr : Room j X.A) (hk : k ≤ j) (hg : Gl X x) (ha : PA X (e :: es) t)
    (hdb : (x == ("__debug__" : Str)) = false := by decide) (he : starEach (e :: es) X.env = (false, eval e X.env) :: starEach es X.env := by rfl) (hpl : (backTo pos (starEach es X.env)).any (·.1) = false := by rfl) :
    PE X (.Call (.Name x p) (e :: es) [] pos) (tCallSD sp dvs (WE W) t) := by
  obtain ⟨f, fd, ps, ds, F, hm, kp, b, d⟩ := c.ex
  exact pe_callSD F (hr.mono hk) hg hm kp b d (fun σ => passAt tk σ) ha hdb he hpl
end
/-! ### an own class without __init__, made without arguments -/
def bmVE : List Value := [.type "ValueError", .type "Exception", .type "BaseException", .type "object"]
structure Xc (K : PySem.W.Frag) (mg : Str → Option Value) (x : Str) (C : Addr) : Prop where
  gC : mg x = some (.ref C)
  kC : PySem.W.keepIn K (.ref C) = true
  xC : PySem.W.excIn K C bmVE "ValueError.__new__" = true
  sC : PySem.W.subIn K (.ref C) (.type "BaseException") = some true
  tC : PySem.W.typeIn K (.ref C) = some (.type "type")
  te : PySem.W.exmOne K (.ref C) (.ref C) = some true
theorem ps_raise0 {X : Cx} {W : WX} {x : Str} {C : Addr} {p pos pos2 : Pos} (hc : X.calm = true) (tk : Takes X W) (T : Xc X.K X.mg x C) (hg : Gl X x) (hdb : (x == ("__debug__" : Str)) = false := by decide) :
    PS X (.Raise (some (.Call (.Name x p) [] [] pos)) none pos2) (tRaise0 W C) := by
  refine ps_raise hc tk (t := fun _ H Q => Q (.ref C) none H) ?_
  intro pins s σ H Q I h
  refine wpAny_Call_Name_kw (ld_glob I hg T.gC ?_ hdb)
  refine PySem.W.callWith_K0 I.kIn T.kC ?_
  show wpAny _ _ (call (.ref C) []) _ _ _
  obtain ⟨bm, N, nm, qn, bs, hdct, sn, sub, ab, col, dd, k0, k1, k2, k3, k5, mN, hC, hN, hni, TT⟩ := exc_obj I.kIn T.xC
  refine wpAny_call_exc_subT PySem.F.excBase_ValueError TT hC hN hni (fun h' e hm => ?_) (by rw [sizeLine_eq]; exact Nat.zero_le _)
  exact mk_of I hm (raises_own T.sC T.tC) h (I.hok.gone hm.new)
theorem exm_self {K : PySem.W.Frag} {S : Addr} (h1 : PySem.W.subIn K (.ref S) (.type "BaseException") = some true) (h2 : PySem.W.isClsIn K S = true) (h3 : PySem.W.typeIn K (.ref S) = some (.type "type")) (h4 : PySem.W.subIn K (.ref S) (.ref S) = some true) :
    PySem.W.exmOne K (.ref S) (.ref S) = some true := by
  have e1 : (PySem.W.subIn K (.ref S) (.type "BaseException") == some true) = true := by rw [h1] <;> rfl
  have e2 : ((PySem.W.clsIn K S).isSome && PySem.W.typeIn K (.ref S) == some (.type "type")) = true := by
    have h2' : (PySem.W.clsIn K S).isSome = true := h2
    rw [h2', h3] <;> rfl
  show (if (PySem.W.subIn K (.ref S) (.type "BaseException") == some true) = true then (if ((PySem.W.clsIn K S).isSome && PySem.W.typeIn K (.ref S) == some (.type "type")) = true then PySem.W.subIn K (.ref S) (.ref S) else none) else none) = some true
  rw [if_pos e1, if_pos e2]
  exact h4
end DJ
namespace DJ
open PySem PySem.Spec PyProof.Rows L2
/-! ### own errors that keep one thing -/
def spInit (K : PySem.W.Frag) (f : Str) : Sp := fun vs H Q _ => ∃ (a C : Addr) (y : V), vs = [.ref a, y] ∧ OexC K C ∧ PySem.W.findIn K (.ref C) f = some none ∧ H a = some (exo a C none) ∧ ∀ dx, H dx = none → dx ≠ a → Q .non (upd (upd H dx (exd dx [(f, y)])) a (exo a C (some dx)))
/-- the __init__ that stands in a class -/
def initS (s : Stmt) : Stmt := inClass s 0
structure Xi (P : Program) (w : World) (K : PySem.W.Frag) (mg : Str → Option Value) (base : Heap) (x f : Str) (C : Addr) : Prop where
  gC : mg x = some (.ref C)
  ox : OexC K C
  no : PySem.W.findIn K (.ref C) f = some none
  te : PySem.W.exmOne K (.ref C) (.ref C) = some true
  xf : XfC K C
  it : ∃ (fI : Addr) (fd : FuncData), PySem.W.findIn K (.ref C) "__init__" = some (some (.ref fI)) ∧ PySem.W.typeIn K (.ref fI) = some (.type "function") ∧ FnOk P w K mg base CX0 1 fI fd ["self", f] (spInit K f) ∧ Binds K fd ["self", f] []
section
variable {X : Cx} {C : Addr} {x f : Str} {j : Nat} {p pos pos2 : Pos} {e : Expr} {ta : TA} {W : WX}
theorem ps_raiseI (hc : X.calm = true) (tk : Takes X W) (T : Xi X.prog X.w X.K X.mg X.base x f C) (hr : Room j X.A) (hj : 2 ≤ j) (hg : Gl X x) (ha : PA X (e :: []) ta) (hdb : (x == ("__debug__" : Str)) = false := by decide)
    (he : starEach (e :: []) X.env = (false, eval e X.env) :: starEach [] X.env := by rfl) (hpl : (backTo pos (starEach [] X.env)).any (·.1) = false := by rfl) :
    PS X (.Raise (some (.Call (.Name x p) [e] [] pos)) none pos2) (fun _ σ H => tMkO C (spInit X.K f) [] ta σ H fun cls d H' => W cls d σ H') := by
  obtain ⟨fI, fd, h1, h2, h3, h4⟩ := T.it
  exact ps_raise hc tk (pmk_oex T.ox h1 h2 h3 (hr.mono hj) h4 .nil (fun _ _ _ _ _ _ _ z => z.elim) hg T.gC ha hdb he hpl)
end
section
variable {K : PySem.W.Frag} {G : List (Option Sl)} {M M1 : List MO} {W : WX} {ta : TA} {C : Addr} {f : Str} {y : Dt}
theorem er_raiseI (hx : OexC K C) (hn : PySem.W.findIn K (.ref C) f = some none) (h : EvA K ta G M [.d y] M1) : EvR K (fun _ σ H => tMkO C (spInit K f) [] ta σ H fun cls d H' => W cls d σ H') W G M ⟨.ref C, some (f, y)⟩ G M1 := fun F B as σ H ow sl q D => by
  refine h F B as σ H ow sl _ fun vs B1 as1 H1 g p o1 r => ?_
  obtain ⟨v, r1, e1, h1, e2⟩ := r
  have e2 : r1 = [] := e2
  subst e2; subst e1
  refine ⟨show 1 ≤ 1000 by decide, fun a na => ⟨a, C, v, rfl, hx, hn, upd_same, fun dx nd ne => ⟨rfl, dx, [(f, v)], upd_same, ?_, ?_, ?_⟩⟩⟩
  · rw [upd_ne ne, upd_same]
  · rw [upd_ne ne] at nd
    exact nd
  · rw [upd_ne ne] at nd
    have eh : upd (del (upd (upd (upd H1 a (exo a C none)) dx (exd dx [(f, v)])) a (exo a C (some dx))) a) dx (.xd [(f, v)]) = upd H1 dx (.xd [(f, v)]) := by
      funext b
      by_cases z : b = dx
      · rw [z, upd_same, upd_same]
      · rw [upd_ne z, upd_ne z]
        by_cases z2 : b = a
        · rw [z2, del_same, na]
        · rw [del_ne z2, upd_ne z2, upd_ne z, upd_ne z2]
    rw [eh]
    have g2 := o1.gr nd (.xd [(f, v)])
    exact q _ as1 σ _ _ _ (g.trans g2) p (o1.new nd _) ((sl.mono g.1 p).mono g2.1 (Px.refl as1)) ⟨rfl, dx, v, rfl, upd_same, Rp.mono g2.1 _ _ h1⟩
end
section
variable {P : Program} {w : World} {K : PySem.W.Frag} {mg : Str → Option Value} {base : Heap}
theorem init_ok {qn f : Str} {st : Stmt} {fI : Addr} {fd : FuncData} (F : FunD K "__init__" qn (defArgs st) (defBody st) (defScope st) [.non] [] fI fd) (S : FnScope ["self", f] ["self", f] (defScope st))
    (hps : ∀ (cdv : Value) (A : Around) (outer : List Env) (s : Shared) (H : Hp) (E : XK), PSs (cxOf CX0 P w K mg base ["self", f] qn (defScope st) fI cdv A outer s H E) (defBody st) (tOst K f (tVar 0) (tVar 1))) : FnOk P w K mg base CX0 1 fI fd ["self", f] (spInit K f) := by
  refine F.ok S (fun vs H Q E h => ?_) (fun cdv A outer s H vs Q E hr h => ⟨tOst K f (tVar 0) (tVar 1), hps cdv A outer s H E, ?_⟩)
  · obtain ⟨a, C, y, rfl, _⟩ := h
    rfl
  · obtain ⟨a, C, y, rfl, ho, hn, ha, q⟩ := h
    exact ⟨y, rfl, .ref a, rfl, a, C, rfl, ho, hn, .inl ⟨ha, fun dx nd ne => q dx nd ne⟩⟩
theorem xi_mk {h : Heap} {x f qn : Str} {st : Stmt} {C fI : Addr} {fd : FuncData} (X : K.In h) (G : h.Ns mainGlobals mg) (a : PySem.W.nsIn K mainGlobals x = some (some (.ref C)))
    {nm q : Str} {N : Addr} {bs bm : List Value} {sn : List Str} {sub : List Value} {ab : Bool} {col : Option Bool} {dd : Option Addr} {m0 m1 m2 m3 m5 : Option Value}
    (l : K.lookup C = some (excClassObj nm q C N bs bm true sn sub ab col dd m0 m1 m2 m3 m5 "ValueError.__new__")) (hv : PySem.HandSPX.refsVE bm = true)
    (sa : PySem.W.findIn K (.ref C) "__setattr__" = some (some (.builtin "object.__setattr__"))) (sC : PySem.W.subIn K (.ref C) (.type "BaseException") = some true) (tC : PySem.W.typeIn K (.ref C) = some (.type "type")) (kC : PySem.W.keepIn K (.ref C) = true)
    (no : PySem.W.findIn K (.ref C) f = some none) (iC : PySem.W.isClsIn K C = true) (ss : PySem.W.subIn K (.ref C) (.ref C) = some true)
    (ga : PySem.W.findIn K (.ref C) "__getattribute__" = some (some (.builtin "BaseException.__getattribute__"))) (gg : PySem.W.findIn K (.ref C) "__getattr__" = some none) (hd : PySem.W.hasDictIn K C = true)
    (i1 : PySem.W.findIn K (.ref C) "__init__" = some (some (.ref fI))) (i2 : PySem.W.typeIn K (.ref fI) = some (.type "function"))
    (F : FunD K "__init__" qn (defArgs st) (defBody st) (defScope st) [.non] [] fI fd) (S : FnScope ["self", f] ["self", f] (defScope st))
    (hps : ∀ (cdv : Value) (A : Around) (outer : List Env) (s : Shared) (H : Hp) (E : XK), PSs (cxOf CX0 P w K mg base ["self", f] qn (defScope st) fI cdv A outer s H E) (defBody st) (tOst K f (tVar 0) (tVar 1)))
    (hbind : ∀ (T : Addr) (kV doc pm : Value) (an : Option Addr) (cdv ct : Value) (us its : List Value), us.length = 2 → its.length = 1 →
      ∃ k, bindArgs (PySem.W.fnOf "__init__" qn (defArgs st) (defBody st) (defScope st) (.ref T) kV doc pm an cdv ct) ⟨us, []⟩ = seqItems? (.ref T) >>= k ∧ k (some its.toArray) = pure ((["self", f] : List Str).zip (us ++ its.drop 1))) :
    Xi P w K mg base x f C := by
  obtain ⟨ds, hv2, hbb⟩ := F.binds1 (ps := ["self", f]) 2 1 (List.cons_ne_nil _ _) rfl hbind
  have e : ds = [] := by cases hv2; rfl
  subst e
  exact ⟨PySem.W.mg_of X G a, ⟨⟨nm, q, N, bs, bm, sn, sub, ab, col, dd, m0, m1, m2, m3, m5, l, hv⟩, sa, sC, tC, kC⟩, no, exm_self sC iC tC ss, ⟨ga, gg, sC, hd⟩, fI, fd, i1, i2, init_ok F S hps, hbb⟩
end
end DJ
namespace LJ
open PySem PySem.Spec PyProof.Rows L2 LamX DJ
/-! ### a lambda is made: without parameters, or with one that has a whole number as default -/
def TbK (q : Str) (g : Addr → Option HO) (ps : Array Value) : Prop :=
  TriplesOk ps.toList ∧ ∀ (at_ : Pos) (u : Value), codeAmong at_ ps.toList = some u → ∃ c, u = .ref c ∧ g c = some (CodeO c q)
inductive LStep (q : Str) (P : Addr) (ps : Array Value) (at_ : Pos) (H : Hp) : Addr → Hp → Prop where
  | hit {c : Addr} (h : H c = some (CodeO c q)) (ha : codeAmong at_ ps.toList = some (.ref c)) : LStep q P ps at_ H c H
  | new {c : Addr} (h : H c = none) : LStep q P ps at_ H c (upd (upd H P (.tbl (ps ++ #[rawInt at_.line, rawInt at_.col, .ref c]))) c (CodeO c q))
theorem LStep.code {q : Str} {P : Addr} {ps : Array Value} {at_ : Pos} {H H1 : Hp} {c : Addr} (h : LStep q P ps at_ H c H1) : H1 c = some (CodeO c q) := by
  cases h with
  | hit h _ => exact h
  | new h => exact upd_same
theorem LStep.stay {q : Str} {P : Addr} {ps : Array Value} {at_ : Pos} {H H1 : Hp} {c b : Addr} (h : LStep q P ps at_ H c H1) (hb : H b = none) (hp : b ≠ P) (hc : b ≠ c) : H1 b = none := by
  cases h with
  | hit h _ => exact hb
  | new h => rw [upd_ne hc, upd_ne hp]; exact hb
/-- the function object -/
abbrev lamO (q : Str) (pr : Arguments) (bd : Expr) (sc : Scope) (cl : List (Str × Addr)) (dV dc pm : Value) (c : Addr) (ct : Value) : Obj := PySem.W.kdv_obj "<lambda>" q pr (.expr bd) sc cl dV dc pm c ct
/-- its default, if there is one -/
def DvAt (g : Addr → Option Obj) (H : Hp) (fr : List Addr) (dV : Value) : Option Int → Prop
  | none => dV = .none
  | some i => ∃ (T : Addr) (t : Tok), dV = .ref T ∧ g T = some (PySem.W.kdv_tup [.int i t]) ∧ H T = none ∧ T ∉ fr
section
variable {X : Cx} {pins : List (Addr × Obj)} {σ : L2.St} {H : Hp} {s : Shared} {c P : Addr} {pr : Arguments} {bd : Expr} {sc : Scope} {at_ : Pos} {ps : Array Value} {A : Around} {E Q : Value → Shared → Prop}
theorem nofr (I : Inv X pins σ H s) {f : Addr} (hf : s.heap.objs.size ≤ f) : f ∉ frs X.stack := fun z => by
  rcases List.mem_cons.mp (I.stkSub _ z) with e | e
  · have lt := I.lt
    rw [← e] at lt
    exact absurd (Nat.lt_of_lt_of_le lt hf) (Nat.lt_irrefl _)
  · exact I.nofs hf e
theorem lam_tail {dV : Value} (I : Inv X pins σ H s) (TB : TabB X.base X.mg c P) (hcode : X.env.code = .ref c) (hP : H P = some (.tbl ps)) (hk : TbK (X.env.qual ++ "<lambda>") H ps) (hfree : ∀ y ∈ sc.names, y.2 = .free → ∃ c, X.env.cells.lookup y.1 = some c)
    (h : ∀ (f c' : Addr) (dc pm ct : Value) (H1 : Hp) (s' : Shared), Inv X pins σ H1 s' → LStep (X.env.qual ++ "<lambda>") P ps at_ H c' H1 → s'.heap.get? f = some (lamO (X.env.qual ++ "<lambda>") pr bd sc (cloFrom X.env.cells sc.names []) dV dc pm c' ct) →
      s.heap.objs.size ≤ f → H1 f = none → (∀ b o, b ≠ P → s.heap.get? b = some o → s'.heap.get? b = some o ∧ b ≠ f) → (∀ b o, s.heap.get? b = some o → H b = none → H1 b = none) → Q (.ref f) s') :
    wpAny (model X.prog X.w) A (makeTail "<lambda>" (X.env.qual ++ "<lambda>") pr (.expr bd) sc X.env dV .none none at_ at_.line) Q E s := by
  obtain ⟨k1, k2⟩ := hk
  have atP : s.heap.get? P = some { cls := .none, data := .fields ps } := I.hok P _ hP
  have bmP : s.heap.BuiltinsAt X.mg P := TB.bm.keeps I.bk
  cases hc : codeAmong at_ ps.toList with
  | some u =>
    obtain ⟨c', rfl, hco⟩ := k2 at_ u hc
    refine PySem.W.kdv_makeTailHit (mg := X.mg) (c := c) (P := P) (ps := ps) (closure_ok hfree) I.ok.glob (I.mod.glob.keeps I.bk) hcode (TB.code.keeps I.bk) atP k1 hc bmP fun ct dc h' tk kp hsz => ?_
    have J : Inv X pins σ H { s with heap := h'.push (lamO (X.env.qual ++ "<lambda>") pr bd sc (cloFrom X.env.cells sc.names []) dV dc ((X.mg "__name__").getD .none) c' ct), toks := tk } := I.kept fun b o e => Heap.get?_push_of_some _ (kp b o e)
    exact h _ c' dc _ ct H _ J (.hit hco hc) (Heap.get?_push_size _ rfl) hsz (I.hok.fresh hsz) (fun b o _ e => ⟨Heap.get?_push_of_some _ (kp b o e), Nat.ne_of_lt (Nat.lt_of_lt_of_le (Heap.lt_size e) hsz)⟩) fun _ _ _ n => n
  | none =>
    refine PySem.W.kdv_makeTail (mg := X.mg) (c := c) (P := P) (ps := ps) (closure_ok hfree) I.ok.glob (I.mod.glob.keeps I.bk) hcode (TB.code.keeps I.bk) atP k1 hc TB.gP bmP fun c' ct dc h' tk xb ge lt rec tb => ?_
    obtain ⟨c2, oc, vs, t, e2, hoc, hd, hv⟩ := rec
    cases e2
    have sz : s.heap.objs.size ≤ h'.objs.size := Nat.le_trans ge (Nat.le_of_lt lt)
    have nC : H c' = none := I.hok.fresh ge
    have J := inv_table (q := X.env.qual ++ "<lambda>") (t' := tk) (more := #[rawInt at_.line, rawInt at_.col, .ref c']) (h' := h'.push (lamO (X.env.qual ++ "<lambda>") pr bd sc (cloFrom X.env.cells sc.names []) dV dc ((X.mg "__name__").getD .none) c' ct)) I hP
      (fun b o hb e => Heap.get?_push_of_some _ (xb b o hb e)) (Heap.get?_push_of_some _ tb) ge ⟨oc, vs, t, Heap.get?_push_of_some _ hoc, hd, hv⟩
    have neP : h'.objs.size ≠ P := Nat.ne_of_gt (Nat.lt_of_lt_of_le (Heap.lt_size atP) sz)
    have st : LStep (X.env.qual ++ "<lambda>") P ps at_ H c' _ := .new nC
    refine h _ c' dc _ ct _ _ J st (Heap.get?_push_size _ rfl) sz (st.stay (I.hok.fresh sz) neP (Nat.ne_of_gt lt)) (fun b o hb e => ⟨Heap.get?_push_of_some _ (xb b o hb e), Nat.ne_of_lt (Nat.lt_of_lt_of_le (Heap.lt_size e) sz)⟩) fun b o e n => st.stay n (fun z => ?_) (Nat.ne_of_lt (Nat.lt_of_lt_of_le (Heap.lt_size e) ge))
    rw [z, hP] at n
    cases n
/-- the parameters: none, or one with a default -/
inductive Dfl (pr : Arguments) (env : Env) : Option Int → Prop where
  | no (h : defaultsOf pr env = ([], [])) : Dfl pr env none
  | one {i : Int} {j : Nat} {p : Pos} (h1 : pr.defaults = [.Constant (.int i) j p]) (h2 : pr.kw_defaults = []) : Dfl pr env (some i)
theorem lam_eval {dfl : Option Int} (df : Dfl pr X.env dfl) (I : Inv X pins σ H s) (TB : TabB X.base X.mg c P) (hcode : X.env.code = .ref c) (hP : H P = some (.tbl ps)) (hk : TbK (X.env.qual ++ "<lambda>") H ps) (hfree : ∀ y ∈ sc.names, y.2 = .free → ∃ c, X.env.cells.lookup y.1 = some c)
    (h : ∀ (f c' : Addr) (dV dc pm ct : Value) (H1 : Hp) (s' : Shared), Inv X pins σ H1 s' → LStep (X.env.qual ++ "<lambda>") P ps at_ H c' H1 → s'.heap.get? f = some (lamO (X.env.qual ++ "<lambda>") pr bd sc (cloFrom X.env.cells sc.names []) dV dc pm c' ct) →
      H1 f = none → f ∉ frs X.stack → DvAt s'.heap.get? H1 (frs X.stack) dV dfl → Q (.ref f) s') :
    wpAny (model X.prog X.w) A (eval (.Lambda pr bd sc at_) X.env) Q E s := by
  cases df with
  | no hd =>
    refine PySem.W.kla_eval hd ?_
    rw [makeFunction_eq]
    simp only [List.zip_nil_right, List.filterMap_nil, List.isEmpty_nil, if_true, pure_bind]
    exact lam_tail I TB hcode hP hk hfree fun f c' dc pm ct H1 s' J st e ge n _ _ => h f c' .none dc pm ct H1 s' J st e n (nofr I ge) rfl
  | @one i j p h1 h2 =>
    refine PySem.W.kdv_lam (by rw [h1] <;> rfl) h2 ?_
    rw [h1]
    refine PySem.W.kdv_all1 (wpAny_Constant_int (PySem.W.kdv_all0 ?_))
    rw [makeFunction_eq]
    simp only [List.zip_nil_right, List.filterMap_nil, List.isEmpty_nil, if_true, pure_bind, List.isEmpty_cons, Bool.false_eq_true, if_false]
    refine wpAny_bind (wpAny_newTextTuple ?_)
    have J0 := I.tok (s.toks + 1)
    have atT : ({ s with heap := s.heap.push (PySem.W.kdv_tup [.int i s.toks]), toks := s.toks + 1 } : Shared).heap.get? s.heap.objs.size = some (PySem.W.kdv_tup [.int i s.toks]) := Heap.get?_push_size _ rfl
    have nT : H s.heap.objs.size = none := I.hok.fresh (Nat.le_refl _)
    have J1 : Inv X pins σ H { s with heap := s.heap.push (PySem.W.kdv_tup [.int i s.toks]), toks := s.toks + 1 } := I.kept fun b o e => Heap.get?_push_of_some _ e
    have neP : s.heap.objs.size ≠ P := fun z => by rw [z, hP] at nT; cases nT
    exact lam_tail J1 TB hcode hP hk hfree fun f c' dc pm ct H1 s' J st e ge n kp fr => h f c' _ dc pm ct H1 s' J st e n (nofr J1 ge) ⟨_, _, rfl, (kp _ _ neP atT).1, fr _ _ atT nT, nofr I (Nat.le_refl _)⟩
end
end LJ
namespace LJ
open PySem PySem.Spec PyProof.Rows L2 LamX DJ
/-! ### a lambda is entered: what it sees are the maker's slots -/
structure LamN (N : List Str) (o sc : Scope) : Prop where
  kind : sc.kind = .function
  co : sc.isCoroutine = false
  gen : sc.isGenerator = false
  own : ∀ y ∈ sc.names, y.2 ≠ .cell ∧ (y.2 = .local → y.1 ∉ N)
  free : ∀ y ∈ sc.names, y.2 = .free → o.names.lookup y.1 = some .cell ∨ o.names.lookup y.1 = some .free
def lamNB (N : List Str) (o sc : Scope) : Bool :=
  decide (sc.kind = .function) && (!sc.isCoroutine && (!sc.isGenerator && sc.names.all fun y => !decide (y.2 = .cell) && ((!decide (y.2 = .local) || !decide (y.1 ∈ N)) && (!decide (y.2 = .free) || (decide (o.names.lookup y.1 = some .cell) || decide (o.names.lookup y.1 = some .free))))))
theorem lamN_by {N : List Str} {o sc : Scope} (h : lamNB N o sc = true) : LamN N o sc := by
  unfold lamNB at h
  simp only [Bool.and_eq_true, Bool.or_eq_true, Bool.not_eq_true', decide_eq_true_eq, decide_eq_false_iff_not, List.all_eq_true] at h
  obtain ⟨a1, a2, a3, a4⟩ := h
  refine ⟨a1, a2, a3, fun y hy => ⟨(a4 y hy).1, fun e => ?_⟩, fun y hy e => ?_⟩
  · rcases (a4 y hy).2.1 with z | z
    · exact absurd e z
    · exact z
  · rcases (a4 y hy).2.2 with z | z
    · exact absurd e z
    · exact z
theorem LamN.has {X : Cx} {sc : Scope} (L : LamN X.N X.env.scope sc) (ok : X.Ok) : ∀ y ∈ sc.names, y.2 = .free → ∃ c, X.env.cells.lookup y.1 = some c := fun y hy e => ok.has _ (L.free y hy e)
section
variable {X : Cx} {pins : List (Addr × Obj)} {σ : L2.St} {H HZ : Hp} {s s1 : Shared} {sc : Scope}
theorem lam_enter {A : Around} {outer : List Env} {E : XK} {f c' : Addr} {h1 : Heap} {tk : Nat} {bs : List (Str × Value)} (I : Inv X pins σ H s) (L : LamN X.N X.env.scope sc) (e0 : Env0 X.prog X.w X.K X.mg X.base A outer s1 HZ) (hd : A.handled = none)
    (un : Un (frs X.stack) [] H HZ s.heap s1.heap) (hns : h1.Ns s1.heap.objs.size fun y => bs.reverse.lookup y) (kp : ∀ b o, s1.heap.get? b = some o → h1.get? b = some o) :
    Inv (lamCx X A outer s1 HZ E sc f c') [] σ HZ { s1 with heap := h1, toks := tk } := by
  have has := L.has I.ok
  have inn : ∀ {y c}, (cloFrom X.env.cells sc.names []).lookup y = some c → X.env.cells.lookup y = some c := by
    intro y c e
    rcases cloFrom_mem (PySem.mem_of_lookup e) with z | ⟨z1, z2⟩
    · cases z
    · obtain ⟨c1, hc⟩ := has _ z1 rfl
      have hc : X.env.cells.lookup y = some c1 := hc
      have : c = c1 := by rw [z2, hc] <;> rfl
      rw [this]; exact hc
  have out : ∀ {y}, sc.names.lookup y = some .free → ∃ c, (cloFrom X.env.cells sc.names []).lookup y = some c := fun {y} z =>
    mem_lookup (cloFrom_has (cells := X.env.cells) (acc := []) (show (y, NameKind.free) ∈ sc.names from PySem.mem_of_lookup z))
  have isC : ∀ {c : Addr} {v : Option Value}, H c = none → s.heap.IsCell c v → h1.IsCell c v := by
    rintro c v n ⟨o, ho, hdt⟩
    obtain ⟨sl, q⟩ := un.any ho n (by simp)
    exact ⟨_, kp _ _ q, hdt⟩
  have noX : ∀ b : Addr, b ∉ (lamCx X A outer s1 HZ E sc f c').ex := fun b z => absurd (show b ∈ ([] : List Addr) from z) (by simp)
  constructor
  · exact ⟨e0.mod, L.kind, rfl, rfl, Nat.le_refl _, fun y z c q1 q2 => I.ok.inj y z c (inn q1) (inn q2), fun y hy => by
      have hy : sc.names.lookup y = some .cell ∨ sc.names.lookup y = some .free := hy
      rcases hy with z | z
      · exact absurd rfl (L.own _ (PySem.mem_of_lookup z)).1
      · exact out z, fun y c z _ => (nomatch (show false = true from z)), fun _ => hd, Around.frames_deeper e0.frames, .inr ⟨rfl, rfl⟩, fun b z => absurd z (noX b), e0.bs, e0.bsz, fun b _ _ => noX b, fun b z => absurd z (noX b), e0.funs, e0.frf⟩
  · rfl
  · exact e0.bare
  · exact Un.kept kp
  · refine ⟨_, hns, fun i y v q1 q2 q3 => ?_⟩
    have q3 : Vis sc y := q3
    rcases q3 with k | k | k
    · exact absurd (List.mem_of_getElem? q1) ((L.own _ (PySem.mem_of_lookup k)).2 rfl)
    · exact absurd rfl (L.own _ (PySem.mem_of_lookup k)).1
    · obtain ⟨m, _, hl⟩ := I.loc
      have vis : Vis X.env.scope y := (L.free _ (PySem.mem_of_lookup k) rfl).elim (fun z => .inr (.inl z)) (fun z => .inr (.inr z))
      obtain ⟨w', r, q⟩ := hl i y v q1 q2 vis
      obtain ⟨c2, h2⟩ := out k
      refine ⟨w', r, .inr ⟨.inr k, c2, h2, ?_⟩⟩
      have c1 := inn h2
      rcases q with ⟨k', _⟩ | ⟨_, c3, e', z⟩
      · have k' : X.env.scope.names.lookup y = some .local := k'
        rcases L.free _ (PySem.mem_of_lookup k) rfl with z | z <;> rw [show X.env.scope.names.lookup y = _ from z] at k' <;> cases k'
      · rw [c1] at e'
        cases e'
        exact isC (I.freeC y _ c1) z
  · intro y c e
    obtain ⟨w', z⟩ := I.cell y c (inn e)
    exact ⟨w', isC (I.freeC y c (inn e)) z⟩
  · exact e0.hok.fresh (Nat.le_refl _)
  · intro y c e
    obtain ⟨v, o, ho, _⟩ := I.cell y c (inn e)
    exact un.free c o ho (I.freeC y c (inn e)) (by simp)
  · intro q hq
    exact absurd (show q ∈ ([] : List (Addr × Obj)) ++ [] from hq) (by simp)
  · exact e0.hok.kept kp
  · exact I.len
/-- how it binds nothing -/
inductive LamB (pr : Arguments) (bd : Expr) (sc : Scope) : Option Int → Prop where
  | no (h : ∀ (q : Str) (cl : List (Str × Addr)) (dc pm cv ct : Value), bindArgs (PySem.W.kdv_fn "<lambda>" q pr (.expr bd) sc cl .none dc pm cv ct) ⟨[], []⟩ = pure []) : LamB pr bd sc none
  | one {i : Int} {nm : Str} (hl : sc.names.lookup nm = some .local)
      (h : ∀ (q : Str) (cl : List (Str × Addr)) (T : Addr) (dc pm cv ct : Value), ∃ kk, bindArgs (PySem.W.kdv_fn "<lambda>" q pr (.expr bd) sc cl (.ref T) dc pm cv ct) ⟨[], []⟩ = seqItems? (.ref T) >>= kk ∧ ∀ v, kk (some #[v]) = pure [(nm, v)]) : LamB pr bd sc (some i)
/-- a(), in the def that got the lambda -/
theorem pe_ask {CXg : CXT} {Eg : XK} {Ng : List Str} {qg : Str} {sg : Scope} {g f c' : Addr} {cdg dV dc pm ct : Value} {pr : Arguments} {bd : Expr} {dfl : Option Int} {k i : Nat} {a : Str} {pn : List (Addr × Obj)} {xe : Value → Shared → Prop} {W : WX} {E : XK} {tb : TE} {p1 p2 : Pos}
    (I : Inv X pins σ H s) (L : LamN X.N X.env.scope sc) (hf : s.heap.get? f = some (lamO (X.env.qual ++ "<lambda>") pr bd sc (cloFrom X.env.cells sc.names []) dV dc pm c' ct)) (hfn : H f = none) (hfr : f ∉ frs X.stack) (dv : DvAt s.heap.get? H (frs X.stack) dV dfl) (hb : LamB pr bd sc dfl)
    (tk : Takes ((cxOf CXg X.prog X.w X.K X.mg X.base Ng qg sg g cdg X.A X.stack s H Eg).tr pn xe) W) (hr : Room (k + 1) (X.A.deeper (envOfC qg sg s.heap.objs.size g cdg)))
    (hbody : ∀ (A : Around) (outer : List Env) (s : Shared) (H : Hp), Room k (A.deeper (lamEnv X sc s.heap.objs.size f c')) → PE (lamCx X A outer s H E sc f c') bd tb)
    (hN : Ng[i]? = some a) (hv : Vis sg a) (hd : (a == ("__debug__" : Str)) = false := by decide) (hcd : (a == ("__classdict__" : Str)) = false := by decide) :
    PE ((cxOf CXg X.prog X.w X.K X.mg X.base Ng qg sg g cdg X.A X.stack s H Eg).tr pn xe) (.Call (.Name a p1) [] [] p2)
      (fun σZ HZ Q => σZ[i]? = some (some (.ref f)) ∧ HZ c' = some (CodeO c' (X.env.qual ++ "<lambda>")) ∧ (∀ cls d H', E cls d H' → W cls d σZ H') ∧ tb σ HZ Q) := by
  constructor
  intro pinsZ sZ σZ HZ Q IZ want
  obtain ⟨w1, w2, hW, w3⟩ := want
  refine wpAny_Call_Name_kw (thn ((pe_var (pos := p1) (i := i) hN hv hd hcd).run pinsZ sZ σZ HZ (fun v H1 => v = .ref f ∧ H1 = HZ) IZ ⟨.ref f, w1, rfl, rfl⟩) fun u s1 got => ?_)
  obtain ⟨v, H1, I1, r1, ev, eH⟩ := got
  subst ev
  rw [eH] at I1
  have eu : u = Value.ref f := r1
  subst eu
  have un : Un (frs X.stack) [] H HZ s.heap s1.heap := I1.base
  have of1 := un.keep f _ hf hfn hfr (by simp)
  refine PySem.W.callWith_F0 ⟨_, _, _, _, of1⟩ ?_
  obtain ⟨⟨oc, vs, t, hoc, hdc, hvc⟩, _, _⟩ := I1.hok c' _ w2
  have bnd : ∃ bs, BindsTo s1 (PySem.W.kdv_fn "<lambda>" (X.env.qual ++ "<lambda>") pr (.expr bd) sc (cloFrom X.env.cells sc.names []) dV dc pm (.ref c') ct) ⟨[], []⟩ bs ∧ ∀ y ∈ bs, sc.names.lookup y.1 = some .local := by
    cases hb with
    | no h =>
      have dv : dV = .none := dv
      subst dv
      exact ⟨[], .of_eq (h _ _ _ _ _ _), fun y hy => absurd hy (by simp)⟩
    | @one i0 nm hl h =>
      obtain ⟨T, t0, rfl, gT, nT, fT⟩ := dv
      obtain ⟨kk, z1, z2⟩ := h (X.env.qual ++ "<lambda>") (cloFrom X.env.cells sc.names []) T dc pm (.ref c') ct
      refine ⟨[(nm, .int i0 t0)], .of_defaults (T := T) rfl (un.keep T _ gT nT fT (by simp)) rfl z1 (z2 _), fun y hy => ?_⟩
      rw [List.mem_singleton] at hy
      subst hy
      exact hl
  obtain ⟨bs, bt, bl⟩ := bnd
  have go : codeAny (model X.prog X.w) (X.A.deeper (envOfC qg sg s.heap.objs.size g cdg)) (.call (.ref f) ⟨[], []⟩) (CR (L2.CX X.prog X.w) (envOfC qg sg s.heap.objs.size g cdg :: X.stack) X.prog X.w HZ s1 Q E) s1 := by
    refine PySem.W.kla_callFunE hr.depth of1 rfl L.co L.gen rfl ⟨c', oc, vs, t, rfl, hoc, hdc, hvc⟩ (bt _ _ _ _ ?_)
    refine wpAny_newFunctionEnv (fun y hy => (L.own y hy).1) bl (fun h1 hns hsb => ⟨I1.nolimit.fresh _ hsb, ?_⟩) L.kind
    have keep1 : ∀ b o, s1.heap.get? b = some o → h1.get? b = some o := fun b o e => hsb.extBut b o (Nat.ne_of_lt (Heap.lt_size e)) (Heap.get?_push_of_some _ e)
    have J := lam_enter (E := E) (f := f) (c' := c') (tk := s1.toks + bs.length) I L I1.env0 hr.hd un hns keep1
    refine PySem.W.kla_codeExpr (wpAny_mono ((hbody _ _ s1 HZ (hr.deeper _)).run [] _ _ HZ Q J w3) (fun v s' res => ?_) fun _ _ z => z)
    obtain ⟨w', H', J', rv, q⟩ := res
    exact ⟨w', H', J'.os, J'.bare, J'.base, J'.hok, rv, q⟩
  refine wpAny_call (codeAny_mono go fun r s' res => ?_)
  cases r with
  | error e => exact tk e s' (XE.of_call (X := (cxOf CXg X.prog X.w X.K X.mg X.base Ng qg sg g cdg X.A X.stack s H Eg).tr pn xe) I1 (fun cls d H' z => hW cls d H' z) res)
  | ok fl =>
    cases fl with
    | ret u => exact I1.after res
    | next => exact (show False from res).elim
    | brk => exact (show False from res).elim
    | cont => exact (show False from res).elim
end
/-! ### x(lambda: body, ..) -/
/-- the def that calls what it got -/
def GivesG (X : Cx) (Ng : List Str) (x : Str) (sg : Scope) (g : Addr) (cdg : Value) (bg : List Stmt) (a : Str) (q : Str) (TT : (XK → Hp → VK → Prop) → Addr → List V → Hp → VK → Prop) : Prop :=
  ∀ (f c' : Addr) (s : Shared) (H : Hp) (Q : VK) (vs : List V) (tl : XK → Hp → VK → Prop),
    (∀ (W : WX) (pn : List (Addr × Obj)) (xe : Value → Shared → Prop) (E : XK) (p1 p2 : Pos), Takes ((cxOf CX0 X.prog X.w X.K X.mg X.base Ng x sg g cdg X.A X.stack s H E0).tr pn xe) W →
      PE ((cxOf CX0 X.prog X.w X.K X.mg X.base Ng x sg g cdg X.A X.stack s H E0).tr pn xe) (.Call (.Name a p1) [] [] p2) (fun σZ HZ Q => σZ[0]? = some (some (.ref f)) ∧ HZ c' = some (CodeO c' q) ∧ (∀ cls d H', E cls d H' → W cls d σZ H') ∧ tl E HZ Q)) →
    TT tl c' vs H Q → ∃ t, PSs (cxOf CX0 X.prog X.w X.K X.mg X.base Ng x sg g cdg X.A X.stack s H E0) bg t ∧ t { nx := fun _ H' => Q .non H', rt := Q } (L2.start Ng (.ref f :: vs)) H
def tLamG (q : Str) (P : Addr) (at_ : Pos) (TT : (XK → Hp → VK → Prop) → Addr → List V → Hp → VK → Prop) (ta : TA) (t : XK → TE) : TE := fun σ H Q =>
  ∃ ps, H P = some (.tbl ps) ∧ TbK q H ps ∧ ∀ c' H1, LStep q P ps at_ H c' H1 → ta σ H1 fun vs H2 => TT (fun E H' Q' => t E σ H' Q') c' vs H2 Q
/-- what stays is pinned -/
theorem pinned {pins : List (Addr × Obj)} {σ : L2.St} {H : Hp} {s : Shared} {o : Obj} {b : Addr} (I : Inv X pins σ H s) (e : s.heap.get? b = some o) (n : H b = none) (fr : b ∉ frs X.stack) (nd : ∀ es ep, o.data ≠ .dict es ep) (nc : ∀ v, o.data ≠ .cell v) : Inv X ((b, o) :: pins) σ H s := by
  refine ⟨I.ok, I.os, I.bare, I.base, I.loc, I.cell, I.free, I.freeC, fun q hq => ?_, I.hok, I.len⟩
  have hq : q = (b, o) ∨ q ∈ X.pn ++ pins := by
    rcases List.mem_append.mp hq with z | z
    · exact .inr (List.mem_append_left _ z)
    · rcases List.mem_cons.mp z with z | z
      · exact .inl z
      · exact .inr (List.mem_append_right _ z)
  rcases hq with rfl | hq
  · refine ⟨e, n, fun z => ?_, fun z => fr ?_, nc⟩
    · obtain ⟨m, ⟨ob, es, ep, ho, hd, _⟩, _⟩ := I.loc
      have z : b = X.env.locals := z
      rw [← z, e] at ho
      cases ho
      exact nd _ _ hd
    · rcases I.ok.stk with k | ⟨k, _⟩
      · rw [k]; exact z
      · rw [k]
        obtain ⟨en, h1, h2⟩ := List.mem_filterMap.mp z
        exact List.mem_filterMap.mpr ⟨en, List.mem_cons_of_mem _ h1, h2⟩
  · exact I.pin q hq
theorem unpin {X : Cx} {pins : List (Addr × Obj)} {σ : L2.St} {H : Hp} {s : Shared} {q : Addr × Obj} (I : Inv X (q :: pins) σ H s) : Inv X pins σ H s :=
  ⟨I.ok, I.os, I.bare, I.base, I.loc, I.cell, I.free, I.freeC, fun p hp => I.pin p (by
    rcases List.mem_append.mp hp with z | z
    · exact List.mem_append_left _ z
    · exact List.mem_append_right _ (List.mem_cons_of_mem _ z)), I.hok, I.len⟩
theorem pin_at {X : Cx} {pins : List (Addr × Obj)} {σ : L2.St} {H : Hp} {s : Shared} {b : Addr} {o : Obj} (I : Inv X ((b, o) :: pins) σ H s) : s.heap.get? b = some o ∧ H b = none := by
  obtain ⟨h1, h2, _⟩ := I.pin (b, o) (List.mem_append_right _ List.mem_cons_self)
  exact ⟨h1, h2⟩
section
variable {X : Cx}
theorem pe_lamG {TT : (XK → Hp → VK → Prop) → Addr → List V → Hp → VK → Prop} {x a : Str} {g c P : Addr} {k n : Nat} {pg : Arguments} {bg : List Stmt} {sg : Scope} {dV kV doc pm cdv ct oc : Value} {an od : Option Addr} {osl : Array (Option Value)} {Ng ps : List Str}
    {pr : Arguments} {bd : Expr} {sc : Scope} {es : List Expr} {ta : TA} {t : XK → TE} {dfl : Option Int} {p lpos pos : Pos} (hg : Gl X x) (hm : X.mg x = some (.ref g)) (hk : PySem.W.keepIn X.K (.ref g) = true)
    (lk : X.K.lookup g = some ⟨oc, od, .func (PySem.W.fnOf x x pg bg sg dV kV doc pm an cdv ct), osl⟩) (hcg : PySem.W.codeIn X.K cdv x = true) (hb : L2.Binds X.K (PySem.W.fnOf x x pg bg sg dV kV doc pm an cdv ct) ps []) (Sg : FnScope Ng ps sg) (hNg : Ng[0]? = some a) (hva : Vis sg a)
    (hlen : ∀ tl c' vs H Q, TT tl c' vs H Q → (V.ref c' :: vs).length = ps.length)
    (hG : GivesG X Ng x sg g cdv bg a (X.env.qual ++ "<lambda>") TT)
    (TB : TabB X.base X.mg c P) (hcode : X.env.code = .ref c) (hr : Room (k + 2) X.A) (L : LamN X.N X.env.scope sc) (df : Dfl pr X.env dfl) (lb : LamB pr bd sc dfl) (ha : PA X es ta)
    (hbody : ∀ (A : Around) (outer : List Env) (s : Shared) (H : Hp) (E : XK) (f c' : Addr), Room k (A.deeper (lamEnv X sc s.heap.objs.size f c')) → PE (lamCx X A outer s H E sc f c') bd (t E))
    (hdb : (x == ("__debug__" : Str)) = false := by decide) (hd : (a == ("__debug__" : Str)) = false := by decide) (hcd : (a == ("__classdict__" : Str)) = false := by decide)
    (hst : starEach (.Lambda pr bd sc lpos :: es) X.env = (false, eval (.Lambda pr bd sc lpos) X.env) :: starEach es X.env := by rfl) (hpl : (backTo pos (starEach es X.env)).any (·.1) = false := by rfl)
    (hbt : backTo pos ((false, eval (.Lambda pr bd sc lpos) X.env) :: starEach es X.env) = (false, eval (.Lambda pr bd sc lpos) X.env) :: backTo pos (starEach es X.env) := by rfl) :
    PE X (.Call (.Name x p) (.Lambda pr bd sc lpos :: es) [] pos) (tLamG (X.env.qual ++ "<lambda>") P lpos TT ta t) := by
  constructor
  intro pins s σ H Q I want
  obtain ⟨tb, hP, hkn, want⟩ := want
  refine wpAny_Call_Name_kw (ld_glob I hg hm ?_ hdb)
  refine PySem.W.callWith_K (h₀ := X.base) I.ok.mod.kin hk ?_ hst hpl
  rw [hst, hbt]
  refine Calls.spliced_cons (lam_eval df I TB hcode hP hkn (L.has I.ok) fun f c' dV' dc' pm' ct' H1 s' I1 st hf hfn hfr dv => ?_)
  have fin : ∀ {pins' : List (Addr × Obj)}, Inv X pins' σ H1 s' → (∀ H2 s2, Inv X pins' σ H2 s2 → Inv X pins σ H2 s2 ∧ s2.heap.get? f = some (lamO (X.env.qual ++ "<lambda>") pr bd sc (cloFrom X.env.cells sc.names []) dV' dc' pm' c' ct') ∧ H2 f = none ∧ DvAt s2.heap.get? H2 (frs X.stack) dV' dfl) →
      wpAny (model X.prog X.w) X.A (spliced (backTo pos (starEach es X.env))) (fun us s2 => X.K.In s2.heap ∧ wpAny (model X.prog X.w) X.A (call (.ref g) ([] ++ (.ref f :: us))) (EP X pins σ Q) X.xe s2) X.xe s' := by
    intro pins' J keep
    refine wpAny_mono (ha.run pos pins' s' σ H1 _ J (want c' H1 st)) (fun us s2 res => ?_) fun _ _ z => z
    obtain ⟨vs, H2, I2, rv, tt⟩ := res
    obtain ⟨I3, gf, nf, dv2⟩ := keep H2 s2 I2
    refine ⟨I3.kIn, ?_⟩
    have ln : (Value.ref f :: us).length = ps.length := by
      have e := hlen _ _ _ _ _ tt
      rw [List.length_cons] at e ⊢
      rw [← rv.length]; exact e
    have ln2 : (V.ref f :: vs).length = ps.length := by
      have e := hlen _ _ _ _ _ tt
      rw [List.length_cons] at e ⊢
      exact e
    have run : codeAny (model X.prog X.w) X.A (.call (.ref g) ⟨.ref f :: us, []⟩) (CR CX0 X.stack X.prog X.w H2 s2 Q E0) s2 := by
      refine run_ofS (N := Ng) (ps := ps) (us := .ref f :: us) (vs := .ref f :: vs) lk hcg Sg hr I3.env0 (by
        have z := hb s2 (.ref f :: us) I3.kIn (by rw [List.append_nil]; exact ln)
        rw [List.append_nil] at z
        exact z) (.cons rfl rv) ln2 fun hr' => ?_
      exact hG f c' s2 H2 Q vs _ (fun W pn xe E p1 p2 tk => pe_ask (i := 0) I3 L gf nf hfr dv2 lb tk hr' (fun A outer s H hr2 => hbody A outer s H E f c' hr2) hNg hva hd hcd) tt
    refine wpAny_call (codeAny_mono run fun r s3 res => ?_)
    cases r with
    | error e => exact (show False from res).elim
    | ok fl =>
      cases fl with
      | ret u => exact I3.after res
      | next => exact (show False from res).elim
      | brk => exact (show False from res).elim
      | cont => exact (show False from res).elim
  have Jf := pinned I1 hf hfn hfr (fun _ _ z => nomatch z) (fun _ z => nomatch z)
  cases dfl with
  | none => exact fin Jf fun H2 s2 I2 => ⟨unpin I2, (pin_at I2).1, (pin_at I2).2, dv⟩
  | some i =>
    obtain ⟨T, t0, e1, e2, e3, e4⟩ := dv
    have JT := pinned Jf e2 e3 e4 (fun _ _ z => nomatch z) (fun _ z => nomatch z)
    exact fin JT fun H2 s2 I2 => ⟨unpin (unpin I2), (pin_at (unpin I2)).1, (pin_at (unpin I2)).2, T, t0, e1, (pin_at I2).1, (pin_at I2).2, e4⟩
end
end LJ
namespace LJ
open PySem PySem.Spec PyProof.Rows L2 LamX DJ
/-! ### the same at the layer of data -/
/-- a table of code objects, owned -/
def tabM (P : Addr) (q : Str) : MO := .abx fun B a o => a = P ∧ ∃ ps, o = .tbl ps ∧ TbK q B ps
theorem tab_gone {P : Addr} {q : Str} : tabM P q ≠ .gone := fun z => nomatch z
theorem TbK.mono {q : Str} {B B' : Hp} {ps : Array Value} (e : Same B B') (h : TbK q B ps) : TbK q B' ps := ⟨h.1, fun p u k => let ⟨c, a, b⟩ := h.2 p u k; ⟨c, a, e _ _ b⟩⟩
/-- what a lambda's reading gives, from data -/
def TlR (K : PySem.W.Frag) (tl : XK → Hp → VK → Prop) (B0 : Hp) (z : Dt) : Prop :=
  ∀ F B as M H E Q, Ow K F B as M H → Same B0 B → (∀ v B' H', Gr F B B' → Ow K F B' as M H' → Rp K B' z v → Q v H') → tl E H Q
def TlX (K : PySem.W.Frag) (tl : XK → Hp → VK → Prop) (B0 : Hp) (x : Ex) : Prop :=
  ∀ F B as M H (E : XK) Q, Ow K F B as M H → Same B0 B → (∀ cls d B' H', Gr F B B' → Ow K F B' as M H' → XR K B' x cls d → E cls d H') → tl E H Q
/-- try: return a() / except C as e: suite; what is told of an error that keeps y is okz ds y -/
def TTold (K : PySem.W.Frag) (q : Str) (C : Addr) (fld : Str) (n : Nat) (okz : List Dt → Dt → Dt → Prop) : (XK → Hp → VK → Prop) → Addr → List V → Hp → VK → Prop := fun tl c' vs H Q =>
  H c' = some (CodeO c' q) ∧ vs.length = n ∧ ∃ F B as M ds, Ow K F B as M H ∧ RpL K B ds vs ∧ ((∃ z, TlR K tl B z ∧ ∀ v B' H', Gr F B B' → Ow K F B' as M H' → Rp K B' z v → Q v H') ∨
    (∃ y z, okz ds y z ∧ TlX K tl B ⟨.ref C, some (fld, y)⟩ ∧ ∀ v B' H', Gr F B B' → Ow K F B' as M H' → Rp K B' z v → Q v H'))
section
variable {K : PySem.W.Frag} {G : List (Option Sl)} {M : List MO}
/-- the slots that hold data -/
def dO : Option Sl → Option Sl
  | some (.d x) => some (.d x)
  | _ => none
theorem slt_data {B : Hp} {as as' : List Addr} {σ : L2.St} (h : Slt K B as G σ) : Slt K B as' (G.map dO) σ := by
  refine ⟨by rw [List.length_map]; exact h.1, fun i s q => ?_⟩
  rw [List.getElem?_map] at q
  cases e : G[i]? with
  | none => rw [e] at q; cases q
  | some o =>
    rw [e] at q
    have q : dO o = some s := Option.some.inj q
    cases o with
    | none => cases q
    | some c =>
      cases c with
      | o k => cases q
      | d x =>
        cases q
        exact h.2 i _ e
theorem ev_told {q : Str} {P C : Addr} {fld : Str} {n kT : Nat} {okz : List Dt → Dt → Dt → Prop} {ta : TA} {t : XK → TE} {at_ : Pos} {ds : List Dt} {z : Dt} (hT : M[kT]? = some (tabM P q)) (ha : EvA K ta G M (ds.map Sl.d) M) (hn : ds.length = n)
    (h : (∀ E M', EvE K (t E) (G.map dO) M' (.d z) M') ∨ (∃ y, okz ds y z ∧ ∀ (E : XK) M', EvX K (t E) (fun cls d _ H => E cls d H) (G.map dO) M' ⟨.ref C, some (fld, y)⟩ M')) :
    EvE K (tLamG q P at_ (TTold K q C fld n okz) ta t) G M (.d z) M := fun F B as σ H ow sl Q qq => by
  have hk : kT < as.length := by rw [ow.len]; exact (List.getElem?_eq_some_iff.mp hT).1
  obtain ⟨a, ea⟩ : ∃ a, as[kT]? = some a := ⟨_, List.getElem?_eq_getElem hk⟩
  obtain ⟨fa, ba, o, ho, nt, hφ⟩ := ow.own kT a _ ea hT tab_gone
  obtain ⟨rfl, ps, rfl, hb⟩ := hφ B (Same.refl B)
  refine ⟨ps, ho, hb.mono ow.bb, fun c' H1 st => ?_⟩
  have nx : ∃ B1, Gr F B B1 ∧ Ow K F B1 as M H1 ∧ B1 c' = some (CodeO c' q) := by
    cases st with
    | hit h1 h2 =>
      obtain ⟨c, e1, e2⟩ := hb.2 at_ _ h2
      cases e1
      exact ⟨B, Gr.refl F B, ow, e2⟩
    | new h1 =>
      have g1 := ow.gr h1 (CodeO c' q)
      have o1 := ow.new h1 (CodeO c' q)
      refine ⟨_, g1, ?_, upd_same⟩
      have hs : M.set kT (tabM a q) = M := by
        refine List.ext_getElem? fun j => ?_
        by_cases e : kT = j
        · subst e
          rw [List.getElem?_set_self (List.getElem?_eq_some_iff.mp hT).1, hT]
        · rw [List.getElem?_set_ne e]
      have key : TbK q (upd B c' (CodeO c' q)) (ps ++ #[rawInt at_.line, rawInt at_.col, .ref c']) := by
        have eL : (ps ++ #[rawInt at_.line, rawInt at_.col, .ref c']).toList = ps.toList ++ [rawInt at_.line, rawInt at_.col, .ref c'] := by simp
        refine ⟨by rw [eL]; exact PySem.TriplesOk_snoc _ _ _ _ hb.1, fun p u k => ?_⟩
        rw [eL] at k
        rcases among_app _ hb.1 k with k | k
        · obtain ⟨c, e1, e2⟩ := hb.2 p u k
          exact ⟨c, e1, g1.1 _ _ e2⟩
        · exact ⟨c', k, upd_same⟩
      have o2 := o1.put (k := kT) (a := a) (m' := tabM a q) (o := .tbl (ps ++ #[rawInt at_.line, rawInt at_.col, .ref c'])) ea hT tab_gone ⟨_, upd_same, (fun _ z => nomatch z), fun B' e => ⟨rfl, _, rfl, key.mono e⟩⟩
      rw [hs] at o2
      have ne : a ≠ c' := fun e => by rw [e, h1] at ho; cases ho
      have eh : upd (upd H c' (CodeO c' q)) a (.tbl (ps ++ #[rawInt at_.line, rawInt at_.col, .ref c'])) = upd (upd H a (.tbl (ps ++ #[rawInt at_.line, rawInt at_.col, .ref c']))) c' (CodeO c' q) := by
        funext b
        by_cases e1 : b = a
        · rw [e1, upd_same, upd_ne ne, upd_same]
        · by_cases e2 : b = c'
          · rw [e2, upd_ne (fun z => ne z.symm), upd_same, upd_same]
          · rw [upd_ne e1, upd_ne e2, upd_ne e2, upd_ne e1]
      rw [eh] at o2
      exact o2
  obtain ⟨B1, g1, o1, b1⟩ := nx
  refine ha F B1 as σ H1 o1 (sl.mono g1.1 (Px.refl as)) _ fun vs B2 as2 H2 g2 p2 o2 r2 => ?_
  refine ⟨o2.bb _ _ (g2.1 _ _ b1), by rw [r2.len, List.length_map]; exact hn, F, B2, as2, M, ds, o2, SlL.data r2, ?_⟩
  have g12 := g1.trans g2
  rcases h with h | ⟨y, hy, h⟩
  · exact .inl ⟨z, fun F' B' as' M' H' E Q' ow' sm q' => h E M' F' B' as' σ H' ow' (slt_data ((sl.mono g12.1 p2).mono sm (Px.refl as2))) Q' fun v B3 as3 H3 g3 p3 o3 r3 => q' v B3 H3 g3 (by
        have : as3 = as' := by
          obtain ⟨tl, rfl⟩ := p3
          have e1 := o3.len
          have e2 := ow'.len
          rw [List.length_append] at e1
          have : tl = [] := List.eq_nil_of_length_eq_zero (by omega)
          rw [this, List.append_nil]
        rw [← this]; exact o3) r3, fun v B' H' g' o' r' => qq v B' as2 H' (g12.trans g') p2 o' r'⟩
  · exact .inr ⟨y, z, hy, fun F' B' as' M' H' E Q' ow' sm q' => h E M' F' B' as' σ H' ow' (slt_data ((sl.mono g12.1 p2).mono sm (Px.refl as2))) (fun B3 as3 H3 cls d g3 p3 o3 r3 => q' cls d B3 H3 g3 (by
        have : as3 = as' := by
          obtain ⟨tl, rfl⟩ := p3
          have e1 := o3.len
          have e2 := ow'.len
          rw [List.length_append] at e1
          have : tl = [] := List.eq_nil_of_length_eq_zero (by omega)
          rw [this, List.append_nil]
        rw [← this]; exact o3) r3) Q', fun v B' H' g' o' r' => qq v B' as2 H' (g12.trans g') p2 o' r'⟩
end
/-- told's own body: try: return a() / except C as e: suite (e in slot i) -/
theorem told_gives {X : Cx} {Ng : List Str} {x a e q fld : Str} {sg : Scope} {g C : Addr} {cdg : Value} {i n : Nat} {p1 p2 p3 p4 p7 p8 : Pos} {b0 : Stmt} {suite : List Stmt} {ts : Addr → Value → Option Addr → TS} {okz : List Dt → Dt → Dt → Prop} {nm : Str}
    (hge : sg.names.lookup e = some .globalImplicit) (hme : X.mg e = some (.ref C)) (hde : (e == ("__debug__" : Str)) = false) (hNd : Ng.Nodup) (hi : Ng[i]? = some nm) (hln : sg.names.lookup nm = some .local) (hl : Ng.length = n + 2) (hin : i = n + 1)
    (te : PySem.W.exmOne X.K (.ref C) (.ref C) = some true)
    (hsu : ∀ (A : Around) (s : Shared) (H : Hp) (a : Addr) (oe : Obj) (cls : Value) (d : Option Addr) (pn : List (Addr × Obj)), Zc cls d oe → (∃ vs, oe.data = .fields vs) → PSs ((cxOf CX0 X.prog X.w X.K X.mg X.base Ng x sg g cdg X.A X.stack s H E0).suite a ((a, oe) :: pn)) (b0 :: suite) (ts a cls d))
    (hst : ∀ (ds : List Dt) (y z : Dt), ds.length = n → okz ds y z → ∀ (fv : V) a d M, EvS X.K (ts a (.ref C) d) ((some (.d (.raw fv)) :: ds.map (fun d => some (.d d))) ++ [some (.d (XfR X.K a d fld y))]) M (.rt (.d z) M)) :
    GivesG X Ng x sg g cdg [.Try [.Return (some (.Call (.Name a p1) [] [] p2)) p3] [.ExceptHandler (some (.Name e p4)) (some nm) (b0 :: suite) p7] [] [] p8] a q (TTold X.K q C fld n okz) := by
  intro f c' s H Q vs tl act tt
  obtain ⟨hc, hvl, F, B, as, M, ds, ow, rds, tt⟩ := tt
  refine ⟨_, pss_one (ps_try_as (X := cxOf CX0 X.prog X.w X.K X.mg X.base Ng x sg g cdg X.A X.stack s H E0) (i := i) (c := .ref C) (ts := ts) (Wout := fun _ _ _ _ => False)
    (tb := fun W D σ H => ∃ E : XK, σ[0]? = some (some (.ref f)) ∧ H c' = some (CodeO c' q) ∧ (∀ cls d H', E cls d H' → W cls d σ H') ∧ tl E H D.rt) rfl rfl hNd hi hln ⟨hge, hde, .inl hme⟩ L2.takes0 (fun W pn xe tk _ => ?_) (fun a oe cls d pn hz hf => hsu X.A s H a oe cls d pn hz hf)), ?_⟩
  · refine ⟨fun pins s' σ H' D I h' => ?_⟩
    obtain ⟨E, w1, w2, w3, w4⟩ := h'
    exact (pss_one (ps_ret (pos := p3) (act W pn xe E p1 p2 tk))).run pins s' σ H' D I ⟨w1, w2, w3, w4⟩
  · refine ⟨fun cls d H' => wAs X.K (.ref C) i ts (fun _ _ _ _ => False) _ cls d _ H', rfl, hc, fun _ _ _ z => z, ?_⟩
    rcases tt with ⟨z, h1, h2⟩ | ⟨y, z, hy, h1, h2⟩
    · exact h1 F B as M H _ _ ow (Same.refl B) h2
    · refine h1 F B as M H _ _ ow (Same.refl B) fun cls d B' H' g o' r => ?_
      obtain ⟨rfl, dd, v, ed, eb, rv⟩ := r
      refine ⟨true, te, fun _ a na => ?_, fun z => nomatch z⟩
      have dl : ds.length = n := by rw [← rds.len]; exact hvl
      refine hst ds y z dl hy (.ref f) a d M F B' as _ H' o' ?_ _ fun v' B2 as2 H2 g2 p2 o2 r2 => h2 v' B2 H2 (g.trans g2) (by
        have : as2 = as := by
          obtain ⟨tl', rfl⟩ := p2
          have e1 := o2.len
          have e2 := o'.len
          rw [List.length_append] at e1
          have : tl' = [] := List.eq_nil_of_length_eq_zero (by omega)
          rw [this, List.append_nil]
        rw [← this]; exact o2) r2
      have sl0 : SlL X.K B' as (.d (.raw (.ref f)) :: ds.map Sl.d) (.ref f :: vs) := ⟨_, _, rfl, rfl, SlL.of_data (RpL.mono g.1 _ _ rds)⟩
      have sl1 := slt_args (n := 1) sl0
      have e1 : L2.start Ng (V.ref f :: vs) = (V.ref f :: vs).map some ++ List.replicate 1 none := by
        unfold L2.start
        congr 2
        rw [hl, List.length_cons, hvl]
        omega
      show Slt X.K B' as _ ((L2.start Ng (V.ref f :: vs)).set i (some (.ref a)))
      rw [e1]
      have key := sl1.set (s := .d (XfR X.K a d fld y)) (v := .ref a) i (fun H2 sm => ⟨rfl, dd, v, ed, sm _ _ eb, Rp.mono sm _ _ rv⟩)
      have eg : ((Sl.d (.raw (.ref f)) :: ds.map Sl.d).map some ++ List.replicate 1 none).set i (some (.d (XfR X.K a d fld y))) = (some (.d (.raw (.ref f))) :: ds.map (fun d => some (.d d))) ++ [some (.d (XfR X.K a d fld y))] := by
        subst hin
        rw [show (n + 1) = ((Sl.d (.raw (.ref f)) :: ds.map Sl.d).map some).length by simp [dl]]
        rw [List.set_append_right _ _ (Nat.le_refl _), Nat.sub_self]
        simp
      rw [eg] at key
      exact key
end LJ
namespace LJ
open PySem PySem.Spec PyProof.Rows L2 LamX DJ
/-! ### defs that may raise, with keyword-only parameters -/
structure DfK (K : PySem.W.Frag) (mg : Str → Option Value) (x : Str) (st : Stmt) (kws : List (Str × V)) : Prop where
  ex : ∃ (f : Addr) (fd : FuncData), L2.FunD K x x (defArgs st) (defBody st) (defScope st) [] kws f fd ∧ mg x = some (.ref f)
structure CalFX (P : Program) (w : World) (K : PySem.W.Frag) (mg : Str → Option Value) (base : Heap) (k : Nat) (x : Str) (st : Stmt) (ps : List Str) (kws : List (Str × V)) (sp : Sp) : Prop where
  ex : ∃ (f : Addr) (fd : FuncData), FnOk P w K mg base (L2.CX P w) k f fd ps sp ∧ L2.FunD K x x (defArgs st) (defBody st) (defScope st) [] kws f fd ∧ mg x = some (.ref f)
/-- called with n things by place and the others by their names -/
structure CalKX (P : Program) (w : World) (K : PySem.W.Frag) (mg : Str → Option Value) (base : Heap) (k : Nat) (x : Str) (n : Nat) (ks : List Str) (g : List Value → List Value → List Value) (gV : List V → List V → List V) (sp : Sp) : Prop where
  ex : ∃ (f : Addr) (fd : FuncData) (ps : List Str), FnOk P w K mg base (L2.CX P w) k f fd ps sp ∧ mg x = some (.ref f) ∧ PySem.W.keepIn K (.ref f) = true ∧ KBn K fd ps n ks g gV
section
variable {P : Program} {w : World} {K : PySem.W.Frag} {mg : Str → Option Value} {base : Heap}
theorem cal_mkKX {x : Str} {st : Stmt} {N ps : List Str} {kws : List (Str × V)} {k n : Nat} {R : List Sl → List MO → Sl → List MO → Prop} {RX : List Sl → List MO → Ex → List MO → Prop} (D : DfK K mg x st kws) (S : FnScope N ps (defScope st)) (hn : ps.length = n)
    (hb : ∀ (f : Addr) (cdv : Value) (A : Around) (outer : List Env) (s : Shared) (H : Hp) (E : XK), Room k (A.deeper (envOfC x (defScope st) s.heap.objs.size f cdv)) → Takes (cxX P w K mg base N x st f cdv A outer s H E) (fun cls d _ H => E cls d H) → PassesOwn (model P w) (cxX P w K mg base N x st f cdv A outer s H E).A (cxX P w K mg base N x st f cdv A outer s H E).env (cxX P w K mg base N x st f cdv A outer s H E).xe →
      (∀ ss M r M', R ss M r M' → ∃ t X, PSs (cxX P w K mg base N x st f cdv A outer s H E) (defBody st) t ∧ ((EvS K t (start N.length ss) M (.rt r (M' ++ X)) ∧ ∀ j, r = .o j → j < M'.length) ∨ (∃ G1, EvS K t (start N.length ss) M (.nx G1 (M' ++ X)) ∧ r = .d .non)) ∧ M.length ≤ M'.length) ∧
      (∀ ss M x' M', RX ss M x' M' → ∃ t X G', PSs (cxX P w K mg base N x st f cdv A outer s H E) (defBody st) t ∧ EvR K t (fun cls d _ H => E cls d H) (start N.length ss) M x' G' (M' ++ X) ∧ M.length ≤ M'.length)) :
    CalFX P w K mg base (k + 1) x st ps kws (SpX K n R RX) := by
  obtain ⟨f, fd, F, hm⟩ := D.ex
  refine ⟨f, fd, F.ok S (fun vs H Q E h => ?_) (fun cdv A outer s H vs Q E hr h => ?_), F, hm⟩
  · obtain ⟨_, _, _, _, _, _, _, e, _⟩ := h
    rw [e, hn]
  · obtain ⟨F', B, as, ss, M, ow, sl, _, q⟩ := h
    obtain ⟨h1, h2⟩ := hb f cdv A outer s H E hr (takes_of rfl rfl rfl rfl) (passes_of rfl)
    rcases q with ⟨r, M', hR, q⟩ | ⟨x', M', hR, q⟩
    · obtain ⟨t, X, ht, he, hl⟩ := h1 ss M r M' hR
      rcases he with ⟨he, hr'⟩ | ⟨G1, he, hr'⟩
      · exact ⟨t, ht, run_body (X := X) he hl hr' ow sl q⟩
      · subst hr'
        exact ⟨t, ht, run_bodyN (X := X) he hl ow sl q⟩
    · obtain ⟨t, X, G', ht, he, hl⟩ := h2 ss M x' M' hR
      exact ⟨t, ht, run_bodyX (X := X) he hl ow sl q⟩
theorem CalFX.pos {k n : Nat} {x : Str} {st : Stmt} {ps : List Str} {kws : List (Str × V)} {sp : Sp} (c : CalFX P w K mg base k x st ps kws sp) (hk : kws ≠ []) (hn : n + kws.length = ps.length)
    (h : ∀ (D : Addr) (doc pm : Value) (an : Option Addr) (cdv ct : Value) (us ks : List Value), us.length = n → ks.length = kws.length →
      KwChain D ((kws.map (·.1)).zip ks) (bindArgs (PySem.W.fnOf x x (defArgs st) (defBody st) (defScope st) .none (.ref D) doc pm an cdv ct) ⟨us, []⟩) (ps.zip (us ++ ks))) : CalX P w K mg base k x sp (kws.map (·.2)) := by
  obtain ⟨f, fd, F, U, hm⟩ := c.ex
  obtain ⟨ds, hv, hb⟩ := U.binds0 (ps := ps) n hk hn h
  exact ⟨f, fd, ps, ds, F, hm, U.kp, hb, hv⟩
theorem CalFX.kw {k n : Nat} {x : Str} {st : Stmt} {ps ks : List Str} {kws : List (Str × V)} {sp : Sp} {g : List Value → List Value → List Value} {gV : List V → List V → List V} (c : CalFX P w K mg base k x st ps kws sp)
    (hrel : ∀ {vs : List V} {us : List Value} {zs : List V} {ws : List Value}, Vals vs us → Vals zs ws → Vals (gV vs zs) (g us ws))
    (h : ∀ (kV doc pm : Value) (an : Option Addr) (cdv ct : Value) (us ws : List Value), us.length = n → ws.length = ks.length → bindArgs (PySem.W.fnOf x x (defArgs st) (defBody st) (defScope st) .none kV doc pm an cdv ct) ⟨us, ks.zip ws⟩ = pure (ps.zip (g us ws))) : CalKX P w K mg base k x n ks g gV sp := by
  obtain ⟨f, fd, F, U, hm⟩ := c.ex
  refine ⟨f, fd, ps, F, hm, U.kp, fun s us ws _ l1 l2 => ?_, hrel⟩
  obtain ⟨oc, od, dV, kV, doc, pm, an, cdv, ct, osl, rfl, lk, hcd, hD, hK⟩ := U.ex
  rcases hD with ⟨_, rfl⟩ | ⟨e, _⟩
  · exact .of_eq (h kV doc pm an cdv ct us ws l1 l2)
  · exact absurd rfl e
end
def tCallNX (n m : Nat) (sp : Sp) (gV : List V → List V → List V) (E : L2.St → XK) (t tk : TA) : TE := fun σ H Q => t σ H fun vs H1 => tk σ H1 fun zs H2 => vs.length = n ∧ zs.length = m ∧ sp (gV vs zs) H2 Q (E σ)
section
variable {X : Cx} {k n j : Nat} {x : Str} {ks : List Str} {sp : Sp} {g : List Value → List Value → List Value} {gV : List V → List V → List V} {p pos : Pos} {e : Expr} {es : List Expr} {kws : List Keyword} {t tk : TA} {W : WX}
theorem run_NX {CX : CXT} {f : Addr} {fd : FuncData} {ps : List Str} {E : L2.St → XK} {pins : List (Addr × Obj)} {σ : L2.St} {H : Hp} {s : Shared} {Q : VK} {us ws : List Value} {vs zs : List V} (F : FnOk X.prog X.w X.K X.mg X.base CX k f fd ps sp) (hr : Room k X.A) (hb : KBn X.K fd ps n ks g gV) (hx : PassesAt CX X σ (E σ))
    (I : Inv X pins σ H s) (r : Vals vs us) (rz : Vals zs ws) (l1 : vs.length = n) (l2 : zs.length = ks.length) (h : sp (gV vs zs) H Q (E σ)) : wpAny (model X.prog X.w) X.A (call (.ref f) us (ks.zip ws)) (EP X pins σ Q) X.xe s := by
  have run := F.run X.A X.stack s H ⟨us, ks.zip ws⟩ (g us ws) (gV vs zs) Q (E σ) hr I.env0 (hb.to s us ws I.kIn (r.length.symm.trans l1) (rz.length.symm.trans l2)) (hb.rel r rz) h
  refine wpAny_call (codeAny_mono run fun r s' res => ?_)
  rcases r with e | fl
  · exact hx pins H s e s' I res
  · cases fl with
    | ret u => exact I.after res
    | next => exact (show False from res).elim
    | brk => exact (show False from res).elim
    | cont => exact (show False from res).elim
/-- f(e, .., k = v, ..) -/
theorem pe_cNX (c : CalKX X.prog X.w X.K X.mg X.base k x n ks g gV sp) (tkW : Takes X W) (hr : Room j X.A) (hk : k ≤ j) (hg : Gl X x) (ha : PA X (e :: es) t) (hkw : PK X kws tk)
    (hall : (backToKw pos (keywordEach kws X.env)).all (·.1.isSome) = true := by rfl) (hks : (backToKw pos (keywordEach kws X.env)).filterMap (·.1) = ks := by rfl)
    (hdb : (x == ("__debug__" : Str)) = false := by decide) (he : starEach (e :: es) X.env = (false, eval e X.env) :: starEach es X.env := by rfl)
    (hpl : ((backTo pos (starEach (e :: es) X.env)).any (·.1) || (backToKw pos (keywordEach kws X.env)).any (·.1.isNone)) = false := by rfl) :
    PE X (.Call (.Name x p) (e :: es) kws pos) (tCallNX n ks.length sp gV (WE W) t tk) := by
  obtain ⟨f, fd, ps, F, hm, kp, hb⟩ := c.ex
  constructor
  intro pins s σ H Q I h
  refine wpAny_Call_Name_kw (ld_glob I hg hm ?_ hdb)
  refine PySem.W.callWith_KW (h₀ := X.base) I.ok.mod.kin kp hall (thn (ha.run pos pins s σ H _ I h) fun us s1 got => ?_) hpl he
  obtain ⟨vs, H1, I1, r, q⟩ := got
  refine thn (hkw.run pos pins s1 σ H1 _ I1 q) fun ws s2 got2 => ?_
  obtain ⟨zs, H2, I2, rz, l1, l2, q2⟩ := got2
  refine ⟨I2.kIn, ?_⟩
  rw [hks]
  exact run_NX F (hr.mono hk) hb (passAt tkW σ) I2 r rz l1 l2 q2
/-- f(k = v, ..) -/
theorem pe_cNX0 (c : CalKX X.prog X.w X.K X.mg X.base k x 0 ks g gV sp) (tkW : Takes X W) (hr : Room j X.A) (hk : k ≤ j) (hg : Gl X x) (hkw : PK X kws tk)
    (hall : (backToKw pos (keywordEach kws X.env)).all (·.1.isSome) = true := by rfl) (hks : (backToKw pos (keywordEach kws X.env)).filterMap (·.1) = ks := by rfl)
    (hdb : (x == ("__debug__" : Str)) = false := by decide) (hpl : ((backTo pos (starEach [] X.env)).any (·.1) || (backToKw pos (keywordEach kws X.env)).any (·.1.isNone)) = false := by rfl) :
    PE X (.Call (.Name x p) [] kws pos) (tCallNX 0 ks.length sp gV (WE W) tNil tk) := by
  obtain ⟨f, fd, ps, F, hm, kp, hb⟩ := c.ex
  constructor
  intro pins s σ H Q I h
  refine wpAny_Call_Name_kw (ld_glob I hg hm ?_ hdb)
  refine PySem.W.callWith_KW0 (h₀ := X.base) I.ok.mod.kin kp hall (thn (hkw.run pos pins s σ H _ I h) fun ws s2 got2 => ?_) hpl
  obtain ⟨zs, H2, I2, rz, l1, l2, q2⟩ := got2
  refine ⟨I2.kIn, ?_⟩
  rw [hks]
  exact run_NX (us := []) (vs := []) F (hr.mono hk) hb (passAt tkW σ) I2 .nil rz l1 l2 q2
end
section
variable {K : PySem.W.Frag} {G : List (Option Sl)} {M M1 M2 : List MO} {ta tk : TA} {n m N : Nat} {gV : List V → List V → List V} {R : List Sl → List MO → Sl → List MO → Prop} {RX : List Sl → List MO → Ex → List MO → Prop} {ds es cs : List Dt} {x : Ex} {W : WX}
theorem ev_callNX {E : L2.St → XK} {z : Dt} (h1 : EvA K ta G M (ds.map Sl.d) M1) (h2 : EvA K tk G M1 (es.map Sl.d) M2) (hn : ds.length = n) (hm : es.length = m) (hg : ∀ B vs zs, RpL K B ds vs → RpL K B es zs → RpL K B cs (gV vs zs)) (hc : cs.length = N) (hR : R (cs.map Sl.d) [] (.d z) []) :
    EvE K (tCallNX n m (SpX K N R RX) gV E ta tk) G M (.d z) M2 := fun F B as σ H ow sl Q q =>
  h1 F B as σ H ow sl _ fun vs B1 as1 H1 g1 p1 o1 r1 => h2 F B1 as1 σ H1 o1 (sl.mono g1.1 p1) _ fun zs B2 as2 H2 g2 p2 o2 r2 => by
    have rv := RpL.mono g2.1 _ _ (SlL.data r1)
    have rz := SlL.data r2
    refine ⟨by rw [rv.len]; exact hn, by rw [rz.len]; exact hm, call_coreX hc o2 (hg B2 vs zs rv rz) (.inl ⟨_, _, hR, fun v B' as' H' g o' r' => ?_⟩)⟩
    obtain ⟨g3, o3⟩ := back0 o2 g o'
    exact q v B' as2 H' (g1.trans (g2.trans g3)) (p1.trans p2) o3 r'
theorem ex_callNX (h1 : EvA K ta G M (ds.map Sl.d) M1) (h2 : EvA K tk G M1 (es.map Sl.d) M2) (hn : ds.length = n) (hm : es.length = m) (hg : ∀ B vs zs, RpL K B ds vs → RpL K B es zs → RpL K B cs (gV vs zs)) (hc : cs.length = N) (hR : RX (cs.map Sl.d) [] x []) :
    EvX K (tCallNX n m (SpX K N R RX) gV (WE W) ta tk) W G M x M2 := fun F B as σ H ow sl q Q =>
  h1 F B as σ H ow sl _ fun vs B1 as1 H1 g1 p1 o1 r1 => h2 F B1 as1 σ H1 o1 (sl.mono g1.1 p1) _ fun zs B2 as2 H2 g2 p2 o2 r2 => by
    have rv := RpL.mono g2.1 _ _ (SlL.data r1)
    have rz := SlL.data r2
    refine ⟨by rw [rv.len]; exact hn, by rw [rz.len]; exact hm, call_coreX hc o2 (hg B2 vs zs rv rz) (.inr ⟨_, _, hR, fun cls d B' as' H' g o' r' => ?_⟩)⟩
    obtain ⟨g3, o3⟩ := back0 o2 g o'
    exact q B' as2 H' cls d (g1.trans (g2.trans g3)) (p1.trans p2) o3 r'
end
end LJ
namespace LJ
open PySem PySem.Spec PyProof.Rows L2 LamX DJ
/-! ### a, b, c = x, y, z -/
theorem es_par3 {K : PySem.W.Frag} {G : List (Option Sl)} {M M1 : List MO} {i j l : Nat} {t : TA} {x y z : Sl} (h : EvA K t G M [x, y, z] M1) : EvS K (tPar3 i j l t) G M (.nx (((G.set i (some x)).set j (some y)).set l (some z)) M1) := fun F B as σ H ow sl D gd =>
  h F B as σ H ow sl _ fun vs B' as' H' g p o' r => by
    obtain ⟨v, r1, e1, h1, w, r2, e2, h2, u, r3, e3, h3, e4⟩ := r
    have e4 : r3 = [] := e4
    subst e4; subst e3; subst e2; subst e1
    exact ⟨v, w, u, rfl, gd B' as' _ H' g p o' ((((sl.mono g.1 p).set i h1).set j h2).set l h3)⟩
end LJ
namespace LJ
open PySem PySem.Spec PyProof.Rows L2 LamX DJ
section
variable {K : PySem.W.Frag} {G : List (Option Sl)} {M : List MO}
/-- the second owned thing is handed on -/
theorem ev_w1 {E : XK} {n : Nat} {R : List Sl → List MO → Sl → List MO → Prop} {ta : TA} {ds : List Dt} {t m m' : MO} {z : Dt} (h : EvA K ta G M (.o 1 :: ds.map Sl.d) [t, m]) (hg : m ≠ .gone) (hR : R (.o 0 :: ds.map Sl.d) [m] (.d z) [m']) (hg' : m' ≠ .gone) (hn : ds.length + 1 = n) :
    EvE K (tCall (SpR K n R) [] E ta) G M (.d z) [t, m'] := by
  have e : (.o 1 :: ds.map Sl.d : List Sl).map (to0 1) = .o 0 :: ds.map Sl.d := by
    rw [List.map_cons, List.map_map]
    congr 1
  have := ev_call1 (k := 1) (es := []) (dvs := []) (E := E) (n := n) (R := R) (z := z) h rfl hg (fun s hs j e => ?_) (by rw [e, List.map_nil, List.append_nil]; exact hR) hg' (by rw [List.length_cons, List.length_map]; exact hn) (fun _ => rfl)
  · exact this
  · rcases List.mem_cons.mp hs with z | z
    · rw [e] at z; cases z; rfl
    · obtain ⟨d, _, hd⟩ := List.mem_map.mp z
      rw [e] at hd; cases hd
end
section
variable {P : Program} {w : World} {K : PySem.W.Frag} {mg : Str → Option Value} {base : Heap}
/-- a def whose code object is known -/
theorem fn_mkT {x : Str} {st : Stmt} {N ps : List Str} {k n : Nat} {R : List Sl → List MO → Sl → List MO → Prop} {f c : Addr} {oc : Value} {od an : Option Addr} {osl : Array (Option Value)} {kV doc pm ct : Value}
    (lk : K.lookup f = some ⟨oc, od, .func (PySem.W.fnOf x x (defArgs st) (defBody st) (defScope st) .none kV doc pm an (.ref c) ct), osl⟩) (hcd : PySem.W.codeIn K (.ref c) x = true) (S : FnScope N ps (defScope st)) (hn : ps.length = n)
    (hb : ∀ (A : Around) (outer : List Env) (s : Shared) (H : Hp) (E : XK), Room k (A.deeper (envOfC x (defScope st) s.heap.objs.size f (.ref c))) → ∀ ss M r M', R ss M r M' →
      ∃ t X, PSs (cxOf CX0 P w K mg base N x (defScope st) f (.ref c) A outer s H E).nox (defBody st) t ∧ EvS K t (DJ.start N.length ss) M (.rt r (M' ++ X)) ∧ M.length ≤ M'.length ∧ ∀ j, r = .o j → j < M'.length) :
    FnOk P w K mg base CX0 (k + 1) f (PySem.W.fnOf x x (defArgs st) (defBody st) (defScope st) .none kV doc pm an (.ref c) ct) ps (SpR K n R) := by
  refine fn_of lk hcd S (fun vs H Q E h => ?_) (fun A outer s H vs Q E hr h => ?_)
  · obtain ⟨_, _, _, _, _, _, _, _, _, _, e, _⟩ := h
    rw [e, hn]
  · obtain ⟨F', B, as, ss, M, r, M', hR, ow, sl, _, q⟩ := h
    obtain ⟨t, X, ht, he, hl, hr'⟩ := hb A outer s H E hr ss M r M' hR
    exact ⟨t, PSs.nox ht, run_body (X := X) he hl hr' ow sl q⟩
end
section
variable {X : Cx}
/-- x(lambda: body, ..), x a def of the row -/
theorem pe_lamD {TT : (XK → Hp → VK → Prop) → Addr → List V → Hp → VK → Prop} {x a : Str} {st : Stmt} {c P : Addr} {k : Nat} {Ng ps : List Str} {pr : Arguments} {bd : Expr} {sc : Scope} {es : List Expr} {ta : TA} {t : XK → TE} {dfl : Option Int} {p lpos pos : Pos}
    (D : Df X.K X.mg x st ps) (hg : Gl X x) (Sg : FnScope Ng ps (defScope st)) (hNg : Ng[0]? = some a) (hva : Vis (defScope st) a) (hlen : ∀ tl c' vs H Q, TT tl c' vs H Q → (V.ref c' :: vs).length = ps.length)
    (hG : ∀ (g : Addr) (cdg : Value), GivesG X Ng x (defScope st) g cdg (defBody st) a (X.env.qual ++ "<lambda>") TT)
    (TB : TabB X.base X.mg c P) (hcode : X.env.code = .ref c) (hr : Room (k + 2) X.A) (L : LamN X.N X.env.scope sc) (df : Dfl pr X.env dfl) (lb : LamB pr bd sc dfl) (ha : PA X es ta)
    (hbody : ∀ (A : Around) (outer : List Env) (s : Shared) (H : Hp) (E : XK) (f c' : Addr), Room k (A.deeper (lamEnv X sc s.heap.objs.size f c')) → PE (lamCx X A outer s H E sc f c') bd (t E))
    (hdb : (x == ("__debug__" : Str)) = false := by decide) (hd : (a == ("__debug__" : Str)) = false := by decide) (hcd : (a == ("__classdict__" : Str)) = false := by decide)
    (hst : starEach (.Lambda pr bd sc lpos :: es) X.env = (false, eval (.Lambda pr bd sc lpos) X.env) :: starEach es X.env := by rfl) (hpl : (backTo pos (starEach es X.env)).any (·.1) = false := by rfl)
    (hbt : backTo pos ((false, eval (.Lambda pr bd sc lpos) X.env) :: starEach es X.env) = (false, eval (.Lambda pr bd sc lpos) X.env) :: backTo pos (starEach es X.env) := by rfl) :
    PE X (.Call (.Name x p) (.Lambda pr bd sc lpos :: es) [] pos) (tLamG (X.env.qual ++ "<lambda>") P lpos TT ta t) := by
  obtain ⟨f, fd, F, hm, hb⟩ := D.ex
  obtain ⟨oc, od, kV, doc, pm, an, cdv, ct, osl, rfl, lk, hcd'⟩ := F.ex
  exact pe_lamG (n := 0) hg hm F.kp lk hcd' hb Sg hNg hva hlen (hG f cdv) TB hcode hr L df lb ha hbody hdb hd hcd hst hpl hbt
theorem lam_takes {A : Around} {outer : List Env} {s : Shared} {H : Hp} {E : XK} {sc : Scope} {f c' : Addr} : Takes (lamCx X A outer s H E sc f c') (fun cls d _ H => E cls d H) := takes_of rfl rfl rfl rfl
end
/-- the law's promise from a table that it owns -/
theorem sp_ofT {K : PySem.W.Frag} {R : List Sl → List MO → Sl → List MO → Prop} {H : Hp} {a P : Addr} {q : Str} {ns : List Int} {E : XK} (hP : H P = some (.tbl #[])) (hS : SqL K H a (ns.map V.int)) (hR : R [.d (.lst (ns.map .int))] [tabM P q] (.d (.bl true)) [tabM P q]) : SpR K 1 R [.ref a] H (fun v _ => v = .bl true) E := by
  have same : Same (del H P) H := fun b o e => by
    by_cases z : b = P
    · rw [z, del_same] at e; cases e
    · rwa [del_ne z] at e
  have hS' : SqL K (del H P) a (ns.map V.int) := by
    rcases hS with h | h
    · have ne : a ≠ P := fun z => by
        rw [z] at h
        rcases h with h | ⟨o, h⟩ <;> rw [hP] at h <;> cases h
      exact .inl (h.imp (fun h => by rwa [del_ne ne]) fun ⟨o, h⟩ => ⟨o, by rwa [del_ne ne]⟩)
    · exact .inr h
  have ri : ∀ ns : List Int, RpL K (del H P) (ns.map Dt.int) (ns.map V.int) := fun ns => by
    induction ns with
    | nil => rfl
    | cons n ns ih => exact ⟨_, _, rfl, rfl, ih⟩
  refine ⟨fun _ => none, del H P, [P], _, [tabM P q], _, [tabM P q], hR, ⟨fun _ _ e => (nomatch e), same, rfl, List.nodup_cons.mpr ⟨(fun z => nomatch z), List.nodup_nil⟩, fun b hb => ?_, fun _ _ => rfl, fun k b m e1 e2 _ => ?_⟩, ⟨.ref a, [], rfl, ⟨a, _, rfl, hS', ri ns⟩, rfl⟩, rfl, fun v B' as' H' _ _ _ r => r⟩
  · rw [List.mem_singleton.mp hb, hP]; exact fun z => nomatch z
  · cases k with
    | zero =>
      cases e1; cases e2
      exact ⟨rfl, del_same, _, hP, (fun _ z => nomatch z), (fun B' _ => ⟨rfl, _, rfl, trivial, (fun p u z => nomatch z)⟩)⟩
    | succ k => cases e1
end LJ
namespace LJ
open PySem PySem.Spec PyProof.Rows L2 LamX DJ
section
variable {K : PySem.W.Frag} {mg : Str → Option Value} {h : Heap}
/-- a def with one keyword-only parameter that has a whole number as default -/
theorem dfk_int {x y : Str} {st : Stmt} {i : Int} {t : Tok} {f D : Addr} {oc : Value} {od an : Option Addr} {osl : Array (Option Value)} {doc pm cdv ct : Value} (X : K.In h) (G : h.Ns mainGlobals mg) (a : PySem.W.nsIn K mainGlobals x = some (some (.ref f)))
    (l : K.lookup f = some ⟨oc, od, .func (PySem.W.fnOf x x (defArgs st) (defBody st) (defScope st) .none (.ref D) doc pm an cdv ct), osl⟩) (c : PySem.W.codeIn K cdv x = true) (k : PySem.W.keepIn K (.ref f) = true) (kw : PySem.W.nsIn K D y = some (some (.int i t))) : DfK K mg x st [(y, .int i)] :=
  ⟨f, _, ⟨⟨oc, od, .none, .ref D, doc, pm, an, cdv, ct, osl, rfl, l, c, .inl ⟨rfl, rfl⟩, .inr ⟨D, rfl, fun q hq => by
    rw [List.mem_singleton.mp hq]
    exact ⟨_, kw, ⟨_, rfl⟩⟩⟩⟩, k⟩, PySem.W.mg_of X G a⟩
/-- a class's __init__ with the default None -/
theorem init_none {qn : Str} {st : Stmt} {fI T : Addr} {oc : Value} {od an : Option Addr} {osl qs : Array (Option Value)} {qc : Value} {qo : Option Addr} {qi : Array Value} {qk : Nat} {kV doc pm cdv ct : Value}
    (l : K.lookup fI = some ⟨oc, od, .func (PySem.W.fnOf "__init__" qn (defArgs st) (defBody st) (defScope st) (.ref T) kV doc pm an cdv ct), osl⟩) (c : PySem.W.codeIn K cdv qn = true) (k : PySem.W.keepIn K (.ref fI) = true) (r : K.lookup T = some ⟨qc, qo, .seq qi qk, qs⟩) (e : qi = #[.none]) :
    FunD K "__init__" qn (defArgs st) (defBody st) (defScope st) [.non] [] fI (PySem.W.fnOf "__init__" qn (defArgs st) (defBody st) (defScope st) (.ref T) kV doc pm an cdv ct) := by
  subst e
  exact ⟨⟨oc, od, .ref T, kV, doc, pm, an, cdv, ct, osl, rfl, l, c, .inr ⟨List.cons_ne_nil _ _, T, _, [.none], qk, rfl, r, rfl, .cons rfl .nil⟩, .inl rfl⟩, k⟩
end
end LJ
namespace LJ
open PySem PySem.Spec PyProof.Rows L2 LamX DJ
section
variable {K : PySem.W.Frag} {G : List (Option Sl)} {M M1 M2 : List MO}
/-- one owned thing of several is handed on -/
theorem ev_wG {E : XK} {n k : Nat} {R : List Sl → List MO → Sl → List MO → Prop} {ta : TA} {ds : List Dt} {m m' : MO} {z : Dt} (h : EvA K ta G M (.o k :: ds.map Sl.d) M1) (hm : M1[k]? = some m) (hg : m ≠ .gone) (hR : R (.o 0 :: ds.map Sl.d) [m] (.d z) [m']) (hg' : m' ≠ .gone) (hn : ds.length + 1 = n) :
    EvE K (tCall (SpR K n R) [] E ta) G M (.d z) (M1.set k m') := by
  have e : (.o k :: ds.map Sl.d : List Sl).map (to0 k) = .o 0 :: ds.map Sl.d := by
    rw [List.map_cons, List.map_map]
    show (if k = k then Sl.o 0 else .o k) :: _ = _
    rw [if_pos rfl]
    congr 1
  refine ev_call1 (k := k) (es := []) (dvs := []) (E := E) (n := n) (R := R) (z := z) h hm hg (fun s hs j e => ?_) (by rw [e, List.map_nil, List.append_nil]; exact hR) hg' (by rw [List.length_cons, List.length_map]; exact hn) (fun _ => rfl)
  rcases List.mem_cons.mp hs with z | z
  · rw [e] at z; cases z; rfl
  · obtain ⟨d, _, hd⟩ := List.mem_map.mp z
    rw [e] at hd; cases hd
/-- all that is owned is handed on -/
theorem ev_callA {E : XK} {n : Nat} {R : List Sl → List MO → Sl → List MO → Prop} {ta : TA} {ss : List Sl} {z : Dt} (h : EvA K ta G M ss M1) (hR : R ss M1 (.d z) M2) (hn : ss.length = n) : EvE K (tCall (SpR K n R) [] E ta) G M (.d z) M2 := fun F B as σ H ow sl Q q =>
  h F B as σ H ow sl _ fun vs B1 as1 H1 g1 p1 o1 r1 => by
    refine ⟨F, B1, as1, ss, M1, .d z, M2, hR, o1, by rw [List.append_nil]; exact r1, by rw [List.append_nil, r1.len]; exact hn, fun v B' as' H' g p o' r' => q v B' as' H' (g1.trans g) (p1.trans p) o' r'⟩
/-- [..].index(x) of texts and None -/
def vO : Option (List Nat) → V
  | some l => .str (tx l)
  | none => .non
theorem vO_eq (a b : Option (List Nat)) : eqV (vO a) (vO b) = decide (a = b) := by
  cases a with
  | none => cases b with
    | none => rfl
    | some m => rfl
  | some l => cases b with
    | none => rfl
    | some m =>
      show decide (tx l = tx m) = _
      by_cases e : l = m
      · subst e; simp
      · rw [decide_eq_false (fun h => e (tx_inj h)), decide_eq_false (fun z => e (by injection z))]
theorem rp_oS {B : Hp} {o : Option (List Nat)} {v : V} (h : Rp K B (oS o) v) : v = vO o := by
  cases o with
  | none => exact h
  | some l => exact h
theorem rpl_oS {B : Hp} : ∀ {xs : List (Option (List Nat))} {vs : List V}, RpL K B (xs.map oS) vs → vs = xs.map vO
  | [], _, h => h
  | o :: xs, _, ⟨v, r, e, h1, h2⟩ => by
    rw [e, rp_oS h1, rpl_oS h2] <;> rfl
theorem flat_oS : ∀ xs : List (Option (List Nat)), (xs.map vO).all flatV = true
  | [] => rfl
  | none :: xs => flat_oS xs
  | some l :: xs => flat_oS xs
theorem ev_idx {to te : TE} {xs : List (Option (List Nat))} {o : Option (List Nat)} {j : Nat} (h : EvE K to G M (.d (.lst (xs.map oS))) M1) (h2 : EvE K te G M1 (.d (oS o)) M2) (hj : xs[j]? = some o) (hn : ∀ m, m < j → xs[m]? ≠ some o) :
    EvE K (tBM K "list" (rIndex K) to (tCons te tNil)) G M (.d (.int (j : Nat))) M2 := fun F B as σ H ow sl Q q =>
  h F B as σ H ow sl _ fun v B1 as1 H1 g1 p1 o1 r1 => by
    obtain ⟨a, vs, rfl, hs, hr⟩ := r1
    have e := rpl_oS hr
    subst e
    refine ⟨.inl ⟨rfl, _, o1.bb.seq hs⟩, h2 F B1 as1 σ H1 o1 (sl.mono g1.1 p1) _ fun u B2 as2 H2 g2 p2 o2 r2 => ?_⟩
    have eu := rp_oS r2
    subst eu
    have hs2 : SqL K B2 a (xs.map vO) := g2.1.seq hs
    refine ⟨a, xs.map vO, vO o, j, vO o, rfl, rfl, o2.bb.seq hs2, by cases o <;> rfl, flat_oS xs, by rw [List.getElem?_map, hj] <;> rfl, by rw [vO_eq, decide_eq_true rfl], fun m z' hm hz => ?_, q _ B2 as2 H2 (g1.trans g2) (p1.trans p2) o2 rfl⟩
    rw [List.getElem?_map] at hz
    cases e : xs[m]? with
    | none => rw [e] at hz; cases hz
    | some y =>
      rw [e] at hz
      have hz : vO y = z' := Option.some.inj hz
      rw [← hz, vO_eq, decide_eq_false]
      intro z
      exact hn m hm (by rw [e, z])
end
section
variable {P : Program} {w : World} {K : PySem.W.Frag} {mg : Str → Option Value} {base h : Heap}
/-- a def whose code object is known -/
structure DfT (K : PySem.W.Frag) (mg : Str → Option Value) (x : Str) (st : Stmt) (ps : List Str) (c : Addr) : Prop where
  ex : ∃ (f : Addr) (oc : Value) (od an : Option Addr) (osl : Array (Option Value)) (kV doc pm ct : Value), K.lookup f = some ⟨oc, od, .func (PySem.W.fnOf x x (defArgs st) (defBody st) (defScope st) .none kV doc pm an (.ref c) ct), osl⟩ ∧ PySem.W.codeIn K (.ref c) x = true ∧
    PySem.W.keepIn K (.ref f) = true ∧ mg x = some (.ref f) ∧ L2.Binds K (PySem.W.fnOf x x (defArgs st) (defBody st) (defScope st) .none kV doc pm an (.ref c) ct) ps []
theorem cal_mkT {x : Str} {st : Stmt} {N ps : List Str} {k n : Nat} {R : List Sl → List MO → Sl → List MO → Prop} {c : Addr} (D : DfT K mg x st ps c) (S : FnScope N ps (defScope st)) (hn : ps.length = n)
    (hb : ∀ (f : Addr) (A : Around) (outer : List Env) (s : Shared) (H : Hp) (E : XK), Room k (A.deeper (envOfC x (defScope st) s.heap.objs.size f (.ref c))) → ∀ ss M r M', R ss M r M' →
      ∃ t X, PSs (cxOf CX0 P w K mg base N x (defScope st) f (.ref c) A outer s H E).nox (defBody st) t ∧ EvS K t (DJ.start N.length ss) M (.rt r (M' ++ X)) ∧ M.length ≤ M'.length ∧ ∀ j, r = .o j → j < M'.length) : Cal P w K mg base (k + 1) x (SpR K n R) [] := by
  obtain ⟨f, oc, od, an, osl, kV, doc, pm, ct, lk, hcd, kp, hm, hbd⟩ := D.ex
  exact ⟨f, _, ps, [], fn_mkT lk hcd S hn (hb f), hm, kp, hbd, .nil⟩
theorem dft_mk {x : Str} {st : Stmt} {ps : List Str} {f c : Addr} {oc : Value} {od an : Option Addr} {osl : Array (Option Value)} {kV doc pm ct : Value} (X : K.In h) (G : h.Ns mainGlobals mg) (a : PySem.W.nsIn K mainGlobals x = some (some (.ref f)))
    (l : K.lookup f = some ⟨oc, od, .func (PySem.W.fnOf x x (defArgs st) (defBody st) (defScope st) .none kV doc pm an (.ref c) ct), osl⟩) (hc : PySem.W.codeIn K (.ref c) x = true) (k : PySem.W.keepIn K (.ref f) = true)
    (hb : ∀ (kV doc pm : Value) (an : Option Addr) (cdv ct : Value) (us : List Value), us.length = ps.length → bindArgs (PySem.W.fnOf x x (defArgs st) (defBody st) (defScope st) .none kV doc pm an cdv ct) ⟨us, []⟩ = pure (ps.zip us)) : DfT K mg x st ps c :=
  ⟨f, oc, od, an, osl, kV, doc, pm, ct, l, hc, k, PySem.W.mg_of X G a, (fun_mk l hc k).binds hb⟩
end
end LJ
namespace PySem.W
open PySem PySem.Spec PySem.Calls PyProof.Rows
section
variable {prog : Program} {w : World} {A : Around} {E : Value → Shared → Prop} {s : Shared} {K : Frag} {x D : Addr} {ox : Obj} {od : Option Obj}
/-- a data descriptor stands ahead of what an instance's own dict holds -/
theorem dj_found {C : Addr} {nm : Str} {a g : Value} (hc : (clsIn K C).isSome = true) (f1 : findIn K (.ref C) nm = some (some a)) (f2 : specialIn K a "__get__" = some (some g)) (f3 : takesIn K a = some true) : findObj K C od nm = some (.bind g a) := by
  cases hq : clsIn K C with
  | none => rw [hq] at hc; cases hc
  | some cd =>
    unfold findObj
    simp [hq, f1, f2, f3]
/-- the class of a caught error, whatever its dict holds -/
theorem dj_class {Q : Option Value → Shared → Prop} (c1 : findIn K (.ref D) "__getattribute__" = some (some (.builtin "BaseException.__getattribute__"))) (c2 : findIn K (.ref D) "__getattr__" = some none) (c3 : subIn K (.ref D) (.type "BaseException") = some true)
    (c4 : hasDictIn K D = true) (c5 : findIn K (.ref D) "__class__" = some (some (.builtin "object.__class__")))
    (c6 : specialIn K (.builtin "object.__class__") "__get__" = some (some (.builtin "getset_descriptor.__get__"))) (c7 : takesIn K (.builtin "object.__class__") = some true) (c8 : mroIn K D (.type "object") = some true)
    (X : K.In s.heap) (I : InstAt s.heap x ox D od) (want : Q (some (.ref D)) { s with toks := s.toks + 1 }) : wpAny (model prog w) A (getAttr? (.ref x) "__class__") Q E s := by
  obtain ⟨hp, gn, dr, tk, os⟩ := s
  have isE : (Value.builtin "BaseException.__getattribute__" == Value.builtin "object.__getattribute__") = false := by decide +kernel
  have lT := I.type (M := model prog w)
  have lA := looks_findIn (M := model prog w) X c1
  have lB := looks_findIn (M := model prog w) X c2
  have lF := looks_find (M := model prog w) X I (dj_found (od := od) (by
    obtain ⟨cd, e, _⟩ := any_some c4
    rw [e]
    rfl) c5 c6 c7)
  have lS : Looks (model prog w) hp (isInstance (.ref x) (.type "BaseException")) true := lT.andThen (looks_subIn X c3)
  unfold getAttr? getAttrBy? getAttrBy
  refine wpAny_bind (wpAny_mkText ?_)
  refine wpAny_bind (wpAny_attempt ?_)
  refine wpAny_holding (wpAny_bind ?_)
  refine lT.at (wpAny_bind ?_)
  refine lA.at ?_
  show wpAny _ _ (if (true && Value.builtin "BaseException.__getattribute__" == Value.builtin "object.__getattribute__") = true then _ else _) _ _ _
  rw [isE, Bool.and_false, if_neg (by decide)]
  unfold getAttrByItsOwn hookBefore
  refine wpAny_bind ?_
  rw [if_pos (by rfl)]
  refine lB.at (wpAny_bind ?_)
  refine wpAny_attempt (wpAny_holding ?_)
  unfold callGetattribute
  rw [show (false && onTheHeap (Value.builtin "BaseException.__getattribute__")) = false from rfl, if_neg (by decide)]
  unfold boundAndCalled
  rw [PySem.F.excAttr_ValueError.ga.bind (.ref x)]
  refine wpAny_bind (wpAny_pure ?_)
  show wpAny _ _ (call (.builtin "BaseException.__getattribute__") [.ref x, .str "__class__" tk]) _ _ _
  refine wpAny_call ?_
  refine codeAny_call_builtin PySem.F.excAttr_ValueError.ga.plain PySem.F.entry_bexc_ga ?_
  refine @check_slot (model prog w) _ _ ⟨hp, gn, dr, tk + 1, os⟩ "BaseException.__getattribute__" "BaseException" "__getattribute__" (.ref x) [.str "__class__" tk] [] _
    (by decide +kernel) (by decide +kernel) lS (PySem.F.args_bexc_ga (.ref x) (.str "__class__" tk)) ?_
  unfold Builtin.«object.__getattribute__»
  refine wpAny_bind (wpAny_of_eq (a := ((Value.ref x : Value), [Value.str "__class__" tk])) (by first
    | rfl
    | (simp only [slotArgs]; rfl)) ?_)
  refine wpAny_bind (wpAny_pure ?_)
  refine wpAny_bind (lT.at ?_)
  refine wpAny_bind (lF.at ?_)
  show wpAny _ _ (holding [Value.builtin "object.__class__"] (call (.builtin "getset_descriptor.__get__") [.builtin "object.__class__", .ref x, .ref D]) >>= ret) _ _ _
  refine wpAny_bind (wpAny_holding ?_)
  refine wpAny_call (class_get (s := ⟨hp, gn, dr, tk + 1, os⟩) (ox := ox) (od := od) X I c8 ?_)
  refine wpAny_pure ?_
  show wpAny _ _ (handedOut (.ref D)) _ _ _
  rw [handedOut_of (v := .ref D) rfl]
  first
    | exact wpAny_pure (wpAny_pure want)
    | exact wpAny_pure want
    | exact wpAny_pure (wpAny_bind (wpAny_pure (wpAny_pure want)))
end
end PySem.W
namespace L2
open PySem PySem.Spec PyProof.Rows DJ
/-- isinstance(e, c), e a caught error that keeps something -/
def rIsX (K : PySem.W.Frag) (D a : Addr) (cls : Value) (d : Option Addr) : List V → Hp → VK → Prop := fun xs H Q => ∃ (c : V) (cv : Value) (b : Bool) (dd : Addr) (fs : List (Str × V)), xs = [.ref a, c] ∧ cls = .ref D ∧ d = some dd ∧ H dd = some (.xd fs) ∧ (∀ u, RelV c u → u = cv) ∧ PySem.W.kitOne K (.ref D) cv = some b ∧ Q (.bl b) H
theorem call_isX {X : Cx} {a D : Addr} {cls : Value} {d : Option Addr} {oe : Obj} {pn : List (Addr × Obj)} (C : ExcC X.K D) (hz : Zc cls d oe) (hf : ∃ vs, oe.data = .fields vs) : CallR (X.suite a ((a, oe) :: pn)) (.builtin "isinstance") (rIsX X.K D a cls d) := by
  intro pins s σ H xs us Q I r h
  obtain ⟨c, cv, b, dd, fs, rfl, rfl, rfl, hd, hcv, e, q⟩ := h
  obtain ⟨u1, u2, rfl, r1, r2⟩ := r.two
  cases (show u1 = Value.ref a from r1)
  cases hcv _ r2
  obtain ⟨hget, _⟩ := I.pin (a, oe) (List.mem_append.mpr (.inl List.mem_cons_self))
  obtain ⟨vs, hv⟩ := hf
  obtain ⟨mA, ⟨o, es, ep, ho, _⟩, _⟩ := (show ObjOk X.prog X.w H s.heap dd (.xd fs) from I.hok dd _ hd)
  obtain ⟨oc, od, oda, osl⟩ := oe
  obtain ⟨h1, h2⟩ := hz
  have h1 : oc = .ref D := h1
  have h2 : od = some dd := h2
  have hv : oda = .fields vs := hv
  subst h1; subst h2; subst hv
  have J : ∃ o, PySem.W.InstAt s.heap a ⟨.ref D, some dd, .fields vs, osl⟩ D (some o) := ⟨o, hget, rfl, rfl, ho⟩
  have cd : ∃ cd, PySem.W.clsIn X.K D = some cd := by
    obtain ⟨cd, e, _⟩ := PySem.W.any_some C.hd
    exact ⟨cd, e⟩
  have Z : PySem.W.KitX X.K (.ref a) (.ref D) (fun h => ∃ o, PySem.W.InstAt h a ⟨.ref D, some dd, .fields vs, osl⟩ D (some o)) := by
    refine ⟨fun M h X I => I.elim fun o I => I.type, fun M h XX _ => ?_, fun h tp d0 its n sl XX htp => ?_, fun XX I k => I.elim fun o I => PySem.W.dj_class C.hg C.hk C.hs C.hd C.ha C.hn C.ht C.hm XX I k⟩
    · obtain ⟨cd, hcd⟩ := cd
      unfold PySem.W.clsIn at hcd
      split at hcd
      · rename_i c2 d2 cd2 sl2 ho2
        intro A2 Q2 E2 s2 keep q2
        unfold isType loadHead
        refine wpAny_bind ?_
        exact wpAny_loadPart (keep _ _ (XX _ _ ho2)) (wpAny_pure q2)
      · cases hcd
    · obtain ⟨cd, hcd⟩ := cd
      rcases hb : (Value.ref D == Value.ref tp) with _ | _
      · rfl
      · have same : D = tp := Value.ref.inj (beq_iff_eq.mp hb)
        subst same
        unfold PySem.W.clsIn at hcd
        split at hcd
        · rename_i c2 d2 cd2 sl2 ho2
          have clash := (XX _ _ ho2).symm.trans htp
          cases clash
        · cases hcd
  exact PySem.W.kia_one Z I.kIn J e (fun z => nomatch z) fun tk => ⟨.bl b, H, I.kept (t' := tk) fun _ _ z => z, rfl, q⟩
end L2
namespace LJ
open PySem PySem.Spec PyProof.Rows L2 LamX DJ
/-! ### kinds of things -/
inductive KT : Dt → String → Prop where
  | non : KT .non "NoneType"
  | bl (b : Bool) : KT (.bl b) "bool"
  | int (i : Int) : KT (.int i) "int"
  | str (x : List Nat) : KT (.str x) "str"
  | lst (xs : List Dt) : KT (.lst xs) "list"
  | tup (xs : List Dt) : KT (.tup xs) "tuple"
  | dic : KT dic0 "dict"
def tupX (K : PySem.W.Frag) (xs : List Dt) : Dt := .ext fun H v => ∃ p vs, v = .ref p ∧ H p = some (.tup vs) ∧ RpL K H xs vs
section
variable {K : PySem.W.Frag} {B : Hp} {d : Dt} {t : String} {b : Bool} {G : List (Option Sl)} {M M1 : List MO}
theorem KT.at (k : KT d t) {F : Hp} {as : List Addr} {M : List MO} {H : Hp} {v : V} (ow : Ow K F B as M H) (r : Rp K B d v) : TyX K H v (.type t) := by
  cases k with
  | non => cases (show v = .non from r); exact .base .non
  | bl x => cases (show v = .bl x from r); exact .base (.bl x)
  | int x => cases (show v = .int x from r); exact .base (.int x)
  | str x => cases (show v = .str (tx x) from r); exact .base (.str _)
  | lst xs =>
    obtain ⟨a, vs, rfl, h1, h2⟩ := r
    rcases h1 with (h | ⟨o, h⟩) | ⟨o, its, n, h, hc, _⟩
    · exact .base (.lst (ow.bb _ _ h))
    · exact .base (.frz (ow.bb _ _ h))
    · exact .kList h hc
  | tup xs =>
    obtain ⟨a, vs, rfl, h1, h2⟩ := r
    rcases h1 with (h | ⟨o, h⟩) | ⟨o, its, n, h, hc, _⟩
    · exact .base (.tup (ow.bb _ _ h))
    · exact .fTuple (ow.bb _ _ h)
    · exact .kTuple h hc
  | dic =>
    obtain ⟨a, rfl, h⟩ := r B (Same.refl B)
    exact .base (.dK (ow.bb _ _ h))
theorem rc_isN {n : String} (k : KT d t) (hb : kitB t n = some b) : RC K (rIsi K) [d, .raw (.ty n)] (.bl b) := fun F B as M H vs Q ow r q => by
  obtain ⟨v, r1, e1, h1, w, r2, e2, h2, e3⟩ := r
  have h2 : w = V.ty n := h2
  have e3 : r2 = [] := e3
  subst e3; subst e2; subst e1; subst h2
  exact ⟨v, _, _, _, b, rfl, .ty n, k.at ow h1, kit_ty hb, q _ B H (Gr.refl F B) ow rfl⟩
theorem ev_tupX {tr : TA} {xs : List Dt} (ha : EvA K tr G M (xs.map Sl.d) M1) (hl : xs.length ≤ 1000) : EvE K (tTup tr) G M (.d (tupX K xs)) M1 := fun F B as σ H o sl Q q =>
  ha F B as σ H o sl _ fun vs B1 as1 H1 g1 p1 o1 r1 => ⟨by rw [r1.len, List.length_map]; exact Nat.le_trans hl (by decide), fun p hp => by
    have g2 := o1.gr hp (.tup vs)
    exact q _ _ as1 _ (g1.trans g2) p1 (o1.new hp _) fun H' s => ⟨p, vs, rfl, s _ _ upd_same, RpL.mono (g2.1.trans s) _ _ (SlL.data r1)⟩⟩
theorem rc_isT {n m : String} {b1 b2 : Bool} (k : KT d t) (h1 : kitB t n = some b1) (h2 : kitB t m = some b2) : RC K (rIsiT K) [d, tupX K [.raw (.ty n), .raw (.ty m)]] (.bl (b1 || b2)) := fun F B as M H vs Q ow r q => by
  obtain ⟨v, r1, e1, hv, w, r2, e2, hw, e3⟩ := r
  have e3 : r2 = [] := e3
  subst e3; subst e2; subst e1
  obtain ⟨p, us, rfl, hp, hu⟩ := hw B (Same.refl B)
  obtain ⟨x1, y1, f1, g1, x2, y2, f2, g2, f3⟩ := hu
  have g1 : x1 = V.ty n := g1
  have g2 : x2 = V.ty m := g2
  have f3 : y2 = [] := f3
  subst f3; subst f2; subst f1; subst g1; subst g2
  refine ⟨v, p, _, _, [.type n, .type m], b1 || b2, rfl, ow.bb _ _ hp, .cons (.ty n) (.cons (.ty m) .nil), k.at ow hv, ?_, q _ B H (Gr.refl F B) ow rfl⟩
  have k1 : PySem.W.kitOne K (.type t) (.type n) = some b1 := kit_ty h1
  have k2 : PySem.W.kitOne K (.type t) (.type m) = some b2 := kit_ty h2
  show (match PySem.W.kitOne K (.type t) (.type n) with
    | some true => some true
    | some false => (match PySem.W.kitOne K (.type t) (.type m) with
      | some true => some true
      | some false => some false
      | none => none)
    | none => none) = _
  rw [k1, k2]
  cases b1 <;> cases b2 <;> rfl
theorem rc_isX {D a : Addr} {dd : Option Addr} {f : Str} {y : Dt} {C2 : Addr} (hk : PySem.W.kitOne K (.ref D) (.ref C2) = some b) : RC K (rIsX K D a (.ref D) dd) [XfR K a dd f y, .raw (.ref C2)] (.bl b) := fun F B as M H vs Q ow r q => by
  obtain ⟨v, r1, e1, hv, w, r2, e2, hw, e3⟩ := r
  have e3 : r2 = [] := e3
  have hw : w = V.ref C2 := hw
  subst e3; subst e2; subst e1; subst hw
  obtain ⟨rfl, d2, u, ed, eb, _⟩ := hv B (Same.refl B)
  exact ⟨_, .ref C2, b, d2, _, rfl, rfl, ed, ow.bb _ _ eb, fun u ru => ru, hk, q _ B H (Gr.refl F B) ow rfl⟩
end
/-! ### defs that want no guard to be up -/
structure FnG (P : Program) (w : World) (K : PySem.W.Frag) (mg : Str → Option Value) (base : Heap) (k : Nat) (f : Addr) (fd : FuncData) (ps : List Str) (sp : Sp) : Prop where
  len : ∀ vs H Q E, sp vs H Q E → vs.length = ps.length
  go : ∀ (A : Around) (outer : List Env) (s : Shared) (H : Hp) (args : Args) (us : List Value) (vs : List V) (Q : VK) (E : XK), A.guards = some [] → Room k A → Env0 P w K mg base A outer s H → BindsTo s fd args (ps.zip us) → Vals vs us → sp vs H Q E →
    codeAny (model P w) A (.call (.ref f) args) (CR CX0 outer P w H s Q E) s
structure CalG (P : Program) (w : World) (K : PySem.W.Frag) (mg : Str → Option Value) (base : Heap) (k : Nat) (x : Str) (sp : Sp) : Prop where
  ex : ∃ (f : Addr) (fd : FuncData) (ps : List Str), FnG P w K mg base k f fd ps sp ∧ mg x = some (.ref f) ∧ PySem.W.keepIn K (.ref f) = true ∧ L2.Binds K fd ps []
section
variable {P : Program} {w : World} {K : PySem.W.Frag} {mg : Str → Option Value} {base : Heap}
theorem fn_g {k : Nat} {f : Addr} {nm ql : Str} {pr : Arguments} {bd : List Stmt} {sc : Scope} {dV kV dc pm cv ct oc : Value} {an od : Option Addr} {sl : Array (Option Value)} {N ps : List Str} {sp : Sp}
    (lk : K.lookup f = some ⟨oc, od, .func (PySem.W.fnOf nm ql pr bd sc dV kV dc pm an cv ct), sl⟩) (hcd : PySem.W.codeIn K cv ql = true) (S : FnScope N ps sc) (len : ∀ vs H Q E, sp vs H Q E → vs.length = ps.length)
    (body : ∀ (A : Around) (outer : List Env) (s : Shared) (H : Hp) (vs : List V) (Q : VK) (E : XK), A.guards = some [] → Room k (A.deeper (envOfC ql sc s.heap.objs.size f cv)) → sp vs H Q E →
      ∃ t, PSs (cxOf CX0 P w K mg base N ql sc f cv A outer s H E) bd t ∧ t { nx := fun _ H' => Q .non H', rt := Q } (L2.start N vs) H) :
    FnG P w K mg base (k + 1) f (PySem.W.fnOf nm ql pr bd sc dV kV dc pm an cv ct) ps sp := by
  refine ⟨len, ?_⟩
  intro A outer s H args us vs Q E hgd hrm e0 bnd rel want
  have nvs := len _ _ _ _ want
  have inH : K.In s.heap := e0.mod.kin.keeps fun b o z => (e0.bs b o z).1
  have noLim : s.heap.NoLimit := e0.mod.nolimit.keeps fun b o z => (e0.bs b o z).1
  have kinds : ∀ y ∈ ps.zip us, sc.names.lookup y.1 = some .local ∨ (sc.names.lookup y.1 = some .cell ∧ ((cellsFrom (s.heap.objs.size + 1) sc.names []).lookup y.1).isSome = true) := by
    rintro ⟨n, v⟩ hy
    rcases S.par n (List.of_mem_zip hy).1 with z | z
    · exact Or.inl z
    · exact Or.inr ⟨z, PySem.W.cellsFrom_some _ _ _ (Or.inl z)⟩
  refine codeAny_call_function hrm.depth (inH _ _ lk) rfl S.co S.gen rfl (PySem.W.codeRec_of inH hcd) (bnd _ _ _ _ (wpAny_newFunctionEnv_cells S.kind kinds fun env henv s1 st => ?_))
  subst henv
  obtain ⟨t, ht, run⟩ := body A outer s H vs Q E hgd (hrm.deeper _) want
  have inv0 : L2.Inv (cxOf CX0 P w K mg base N ql sc f cv A outer s H E) [] (L2.start N vs) H s1 := inv_start S hrm.hd e0 nvs rel st
  refine ⟨noLim.keeps st.toInCall.keep, codeAny_func (wpAny_mono (ht.run [] s1 (L2.start N vs) H _ inv0 run) (fun fl s2 hs => ?_) fun _ _ z => z)⟩
  cases fl with
  | ret u =>
    obtain ⟨v, σ', H', J, rv, q⟩ := hs
    exact ⟨v, H', J.os, J.bare, J.base, J.hok, rv, q⟩
  | next =>
    obtain ⟨σ', H', J, q⟩ := hs
    exact ⟨.non, H', J.os, J.bare, J.base, J.hok, rfl, q⟩
  | brk => exact (let ⟨_, _, _, q⟩ := hs; q.elim)
  | cont => exact (let ⟨_, _, _, q⟩ := hs; q.elim)
theorem cal_mkG {x : Str} {st : Stmt} {N ps : List Str} {k n : Nat} {R : List Sl → List MO → Sl → List MO → Prop} (D : Df K mg x st ps) (S : FnScope N ps (defScope st)) (hn : ps.length = n)
    (hb : ∀ (f : Addr) (cdv : Value) (A : Around) (outer : List Env) (s : Shared) (H : Hp) (E : XK), (A.deeper (envOfC x (defScope st) s.heap.objs.size f cdv)).guards = some [] → Room k (A.deeper (envOfC x (defScope st) s.heap.objs.size f cdv)) → ∀ ss M r M', R ss M r M' →
      ∃ t X, PSs (cxOf CX0 P w K mg base N x (defScope st) f cdv A outer s H E).nox (defBody st) t ∧ EvS K t (DJ.start N.length ss) M (.rt r (M' ++ X)) ∧ M.length ≤ M'.length ∧ ∀ j, r = .o j → j < M'.length) : CalG P w K mg base (k + 1) x (SpR K n R) := by
  obtain ⟨f, fd, F, hm, b⟩ := D.ex
  obtain ⟨oc, od, kV, doc, pm, an, cdv, ct, osl, rfl, lk, hcd⟩ := F.ex
  refine ⟨f, _, ps, fn_g lk hcd S (fun vs H Q E h => ?_) (fun A outer s H vs Q E hgd hr h => ?_), hm, F.kp, b⟩
  · obtain ⟨_, _, _, _, _, _, _, _, _, _, e, _⟩ := h
    rw [e, hn]
  · obtain ⟨F', B, as, ss, M, r, M', hR, ow, sl, _, q⟩ := h
    obtain ⟨t, X, ht, he, hl, hr'⟩ := hb f cdv A outer s H E hgd hr ss M r M' hR
    exact ⟨t, ht.nox, run_body (X := X) he hl hr' ow sl q⟩
end
section
variable {X : Cx} {k j : Nat} {x : Str} {sp : Sp} {p pos : Pos} {e : Expr} {es : List Expr} {t : TA}
theorem pe_cG (c : CalG X.prog X.w X.K X.mg X.base k x sp) (hgd : X.A.guards = some []) (hr : Room j X.A) (hk : k ≤ j) (hg : Gl X x) (ha : PA X (e :: es) t)
    (hdb : (x == ("__debug__" : Str)) = false := by decide) (he : starEach (e :: es) X.env = (false, eval e X.env) :: starEach es X.env := by rfl) (hpl : (backTo pos (starEach es X.env)).any (·.1) = false := by rfl) :
    PE X (.Call (.Name x p) (e :: es) [] pos) (tCall sp [] L2.E0 t) := by
  obtain ⟨f, fd, ps, F, hm, kp, hb⟩ := c.ex
  constructor
  intro pins s σ H Q I h
  refine wpAny_Call_Name_kw (ld_glob I hg hm ?_ hdb)
  refine PySem.W.callWith_K (h₀ := X.base) I.ok.mod.kin kp (thn (ha.run pos pins s σ H _ I h) fun us s1 got => ?_) he hpl
  obtain ⟨vs, H1, I1, r, q⟩ := got
  refine ⟨I1.kIn, ?_⟩
  rw [List.append_nil] at q
  have ln : us.length = ps.length := by rw [← r.length]; exact F.len _ _ _ _ q
  have run := F.go X.A X.stack s1 H1 ⟨us, []⟩ us vs Q L2.E0 hgd (hr.mono hk) I1.env0 (by
    have z := hb s1 us I1.kIn (by rw [List.append_nil]; exact ln)
    rw [List.append_nil] at z
    exact z) r q
  refine wpAny_call (codeAny_mono run fun r s3 res => ?_)
  cases r with
  | error e => exact (show False from res).elim
  | ok fl =>
    cases fl with
    | ret u => exact I1.after res
    | next => exact (show False from res).elim
    | brk => exact (show False from res).elim
    | cont => exact (show False from res).elim
end
end LJ
namespace PySem
open Sem (wp)
open AutoSeq1 (wpAny_loadPart')
/-- enumerate(tuple) -/
theorem dj_enum_new (t : Addr) (items : Array Value) (n : Nat) (dct : Option Addr) (sl : Array (Option Value)) :
    Meets (Builtin.«enumerate.__new__» ⟨[.type "enumerate", .ref t], []⟩) (fun _ R s => s.heap.get? t = some { cls := .type "tuple", dict := dct, data := .seq items n, slots := sl } ∧
      R (.ok (.ret (.ref (s.heap.push { cls := .type "tuple_iterator", data := .fields #[.ref t, .int 0 0] }).objs.size)))
        { s with heap := (s.heap.push { cls := .type "tuple_iterator", data := .fields #[.ref t, .int 0 0] }).push { cls := .type "enumerate", data := .fields #[.none, .bool false, .ref s.heap.objs.size, rawInt 0, .none, .none] } }) := by
  refine .of_wp fun prog w A R s h => ?_
  obtain ⟨hp, gn, dr, tk, os⟩ := s
  obtain ⟨ht, want⟩ := h
  have known := sub_enumerate
  have isT : Heap.IsTuple (Shared.heap ⟨hp, gn, dr, tk, os⟩) t items := ⟨_, ht, rfl, n, rfl⟩
  wp_walk using wpAny_loadPart' ht
  refine wpAny_stack_any fun st => wpAny_pure ?_
  split
  · rename_i c _ _ _ _ _
    cases (c == Value.type "enumerate")
    all_goals
      wp_walk using wpAny_loadPart' ht, wpAny_pyIter_tuple isT
      exact ⟨_, rfl, want⟩
  · wp_walk using wpAny_loadPart' ht, wpAny_pyIter_tuple isT
    exact ⟨_, rfl, want⟩
theorem dj_enum_call {prog : Program} {w : World} {A : Around} {E : Value → Shared → Prop} {s : Shared} {t : Addr} {items : Array Value} {Q : Value → Shared → Prop} (isT : s.heap.IsTuple t items)
    (want : ∀ h', IsEnum h' (s.heap.objs.size + 1) s.heap.objs.size 0 .none → h'.IsTupleIter s.heap.objs.size t 0 → h'.objs.size = s.heap.objs.size + 2 →
      (∀ b o, s.heap.get? b = some o → h'.get? b = some o) → Q (.ref (s.heap.objs.size + 1)) { s with heap := h' }) : wpAny (model prog w) A (call (.type "enumerate") [.ref t]) Q E s := by
  obtain ⟨⟨c, dct, dt, sl⟩, ho, hc, n, hd⟩ := isT
  have hc : c = .type "tuple" := hc
  have hd : dt = .seq items n := hd
  subst hc; subst hd
  refine callType_new F.called_enumerate (by decide) (F.typeCall_enumerate_1 _) (F.newCall_enumerate_1 _) (fun obj => F.args_object_init_2 obj _) F.entry_enumerate_new (dj_enum_new t items n dct sl) ⟨ho, ?_⟩
  have size1 : (s.heap.push { cls := .type "tuple_iterator", data := .fields #[.ref t, .int 0 0] }).objs.size = s.heap.objs.size + 1 := Heap.size_push ..
  show _ ∧ _
  rw [size1]
  have top : IsEnum ((s.heap.push { cls := .type "tuple_iterator", data := .fields #[.ref t, .int 0 0] }).push { cls := .type "enumerate", data := .fields #[.none, .bool false, .ref s.heap.objs.size, rawInt 0, .none, .none] }) (s.heap.objs.size + 1) s.heap.objs.size 0 .none := by
    have z := Heap.get?_push_size (s.heap.push { cls := .type "tuple_iterator", data := .fields #[.ref t, .int 0 0] }) (o := { cls := .type "enumerate", data := .fields #[.none, .bool false, .ref s.heap.objs.size, rawInt 0, .none, .none] }) rfl
    rw [size1] at z
    exact z
  refine ⟨⟨_, top, rfl⟩, want _ top ?_ ?_ ?_⟩
  · exact ⟨_, Heap.get?_push_of_some _ (Heap.get?_push_size _ rfl), rfl, rfl⟩
  · rw [Heap.size_push, size1]
  · exact fun b o x => Heap.get?_push_of_some _ (Heap.get?_push_of_some _ x)
end PySem
namespace DJ
open PySem PySem.Spec PyProof.Rows L2
def Itu (K : PySem.W.Frag) (a : Addr) : It :=
  ⟨fun i H => ∃ (xs : List V) (x : V), SqT K H a xs ∧ xs[i]? = some x, fun i H v H' => ∃ T x, v = .ref T ∧ H T = none ∧ H' = upd H T (.tup [.int (i : Nat), x]) ∧ ∀ xs, SqT K H a xs → xs[i]? = some x, fun i H => ∃ xs : List V, SqT K H a xs ∧ xs.length ≤ i⟩
theorem tup_ne {h : Heap} {a b : Addr} {its : Array Value} {o : Obj} {T : String} (p : IsTup h a its) (e : h.get? b = some o) (hc : o.cls = .type T) (ht : T ≠ "tuple") : a ≠ b := fun z => by
  obtain ⟨o', e', c', _⟩ := p
  rw [z, e] at e'
  cases e'
  rw [hc] at c'
  exact ht (by injection c')
section
variable {prog : Program} {w : World} {A : Around} {E : Value → Shared → Prop} {s : Shared}
theorem next_enum_tup_end {e it t : Addr} {items : Array Value} {i : Nat} {old : Value} {Q : Option Value → Shared → Prop} (hh : A.handled = none)
    (he : IsEnum s.heap e it ((i : Nat) : Int) old) (hit : s.heap.IsTupleIter it t i) (ht : s.heap.IsTuple t items) (hx : items[i]? = none) (hQ : ∀ h', Heap.ExtBut it s.heap h' → Q none { s with heap := h' }) : wpAny (model prog w) A (pyNext (.ref e)) Q E s := by
  have kind : s.TypeIs (.ref e) "enumerate" := ⟨_, he, rfl⟩
  unfold pyNext
  refine wpAny_bind (wpAny_attempt ?_)
  refine wpAny_callSpecial?_slot (name := Str.ofString "__next__") kind F.slot_enumerate_next ?_
  refine wpAny_call_entry F.slot_enumerate_next kind F.entry_enumerate_next ?_ (F.args_enumerate_next_1 _)
  show wpAny _ _ (field (.ref e) 2 >>= _) _ _ _
  refine wpAny_bind (wpAny_field he rfl (x := .ref it) rfl ?_)
  refine wpAny_bind (wpAny_nextOf_tuple_end (show A.in1.handled = none from hh) hit ht hx fun h' x he' hx' => ?_)
  obtain ⟨o, ho, hc⟩ := hx'
  refine wpAny_bind (wpAny_isInstance (T := "StopIteration") (b := true) ⟨o, ho, hc⟩ isSubtype_stop ?_)
  exact wpAny_pure (hQ _ he')
end
theorem turn_enumU {P : Program} {w : World} {K : PySem.W.Frag} {elts : List Expr} {kk : Nat} {tpos : Pos} (a e it : Addr) :
    Turn P w K (.Tuple elts kk tpos) (Itu K a) [e, it] e (fun i h => (∃ old, IsEnum h e it ((i : Nat) : Int) old) ∧ h.IsTupleIter it a i ∧ e ≠ it) where
  mem := by simp
  obj := fun i h st b hb => by
    obtain ⟨⟨old, he⟩, ⟨o, ho, hc, hd⟩, _⟩ := st
    have e' : b = e ∨ b = it := by simpa using hb
    rcases e' with z | z
    · rw [z]; exact ⟨_, he, fun v q => nomatch q⟩
    · rw [z]; exact ⟨o, ho, fun v q => by rw [hd] at q; cases q⟩
  keep := fun i h h' st k => let ⟨⟨old, he⟩, hi, hne⟩ := st; ⟨⟨old, k e (by simp) _ he⟩, hi.at fun o q => k it (by simp) o q, hne⟩
  item := by
    intro X hP hw hK hc i pins s σ H E I hf st hg
    subst hP hw hK
    obtain ⟨⟨old, he⟩, hit, hne⟩ := st
    obtain ⟨xs, x, hq, hx⟩ := hg
    obtain ⟨its, rv, p, hz⟩ := I.tuple hq
    obtain ⟨u, hu, ru⟩ := rv.get hx
    have hel : e < s.heap.objs.size := Heap.lt_size he
    have hil : it < s.heap.objs.size := by obtain ⟨_, q, _⟩ := hit; exact Heap.lt_size q
    have n1 : a ≠ it := by obtain ⟨o, q, c, _⟩ := hit; exact tup_ne p q c (by decide)
    have n2 : a ≠ e := tup_ne p he rfl (by decide)
    have hlt : i < its.toArray.size := by rw [List.size_toArray]; exact (List.getElem?_eq_some_iff.mp hu).1
    refine wpAny_pyNext_enum_itemD (PySem.Draws.tuple (show X.A.in1.handled = none from I.ok.hd hc) it a n1 its.toArray) he ⟨hit, p⟩ hlt hne (by simp [hne, Ne.symm n2]) fun v h' tk hv ho hit' hT hsz hk => ?_
    have ev : v = u := by
      rw [List.getElem?_toArray, hu] at hv
      exact (Option.some.inj hv).symm
    subst ev
    refine ⟨_, rfl, wpAny_letOwnedTupleGo_enum (s := { s with heap := h', toks := tk + 1 }) ho fun h'' he' sb => ?_⟩
    have hT2 : h''.get? s.heap.objs.size = some { cls := .type "tuple", data := .seq #[.int i tk, v] } := (sb.2 _ (Nat.ne_of_gt hel)).trans hT
    have new : ObjOk X.prog X.w (upd H s.heap.objs.size (.tup [.int (i : Nat), x])) h'' s.heap.objs.size (.tup [.int (i : Nat), x]) :=
      ⟨by show 2 ≤ sizeLine; decide, [.int i tk, v], .cons ⟨_, rfl⟩ (.cons ru .nil), ⟨_, hT2, rfl, _, rfl⟩⟩
    have I1 : Inv X pins σ (upd H s.heap.objs.size (.tup [.int (i : Nat), x])) { s with heap := h'', toks := tk + 1 } :=
      I.turnedNew (ch := [e, it]) (fun b ob hb q => (sb.2 b (fun z => hb (by simp [z]))).trans (hk b ob (fun z => hb (by simp [z])) (fun z => hb (by simp [z])) q)) hf (Nat.le_refl _) new
    refine ⟨.ref s.heap.objs.size, _, I1, rfl, ⟨_, x, rfl, I.hok.fresh (Nat.le_refl _), rfl, fun ys hy => by rw [I.tuple_inj hy hq]; exact hx⟩, ⟨⟨v, ?_⟩, ?_, hne⟩, fun b hb => ?_⟩
    · have e1 : ((i + 1 : Nat) : Int) = (i : Int) + 1 := by omega
      rw [e1]; exact he'
    · exact hit'.1.at fun o q => (sb.2 it (Ne.symm hne)).trans q
    · have hb' : b < s.heap.objs.size := by
        have e' : b = e ∨ b = it := by simpa using hb
        rcases e' with z | z
        · rw [z]; exact hel
        · rw [z]; exact hil
      rw [upd_ne (Nat.ne_of_lt hb')]
      exact (hf b hb).1
  done := by
    intro X hP hw hK hc i pins s σ H E I hf st hg
    subst hP hw hK
    obtain ⟨⟨old, he⟩, hit, hne⟩ := st
    obtain ⟨xs, hq, hx⟩ := hg
    obtain ⟨its, rv, p, hz⟩ := I.tuple hq
    obtain ⟨f0, f1, f2, f3, f4, f5⟩ := hf it (by simp)
    have hl := rv.length
    exact next_enum_tup_end (I.ok.hd hc) he hit p (by simp; omega) fun h' eb => ⟨rfl, I.turned (t' := s.toks) (fun b o hb q => eb b o hb q) f0 f1 f3 f4 f5⟩
  self := fun A i s Q E st h => let ⟨⟨_, he⟩, _⟩ := st; wpAny_pyIter_enum he h
def iEnumU (K : PySem.W.Frag) (ta : TA) : TI := fun σ H R => ta σ H fun vs H1 => ∃ a xs, vs = [.ref a] ∧ SqT K H1 a xs ∧ R (Itu K a) H1
theorem pi_enumU {X : Cx} {e : Expr} {ta : TA} {p pos tpos : Pos} {elts : List Expr} {kk : Nat} (hg : Gl X "enumerate") (hm : X.mg "enumerate" = none) (ha : PA X [e] ta) (hs : starEach [e] X.env = [(false, eval e X.env)] := by rfl) :
    PI X (.Tuple elts kk tpos) (.Call (.Name "enumerate" p) [e] [] pos) (iEnumU X.K ta) := by
  refine ⟨fun pins s σ H R I h => ?_⟩
  refine Call_ (ld_blt I hg hm boot_enumerate (PyProof.Rows.callWith_type1 (thn (ha.run pos pins s σ H _ I h) fun us s1 ⟨vs, H1, I1, r1, q1⟩ => ?_) hs rfl))
  obtain ⟨a, xs, ex, hq, q⟩ := q1
  subst ex
  obtain ⟨u, rfl, ru⟩ := vals1 r1
  cases (show u = Value.ref a from ru)
  obtain ⟨its, rv, p', hz⟩ := I1.tuple hq
  refine dj_enum_call p' fun h' he hit hsz hk => wpAny_pyIter_enum he ?_
  have I2 : Inv X pins σ H1 { s1 with heap := h' } := I1.kept (t' := s1.toks) hk
  refine ⟨s1.heap.objs.size + 1, [s1.heap.objs.size + 1, s1.heap.objs.size], _, _, H1, rfl, I2, turn_enumU a (s1.heap.objs.size + 1) s1.heap.objs.size, ⟨⟨.none, he⟩, hit, Nat.succ_ne_self _⟩, fun b hb => ?_, q⟩
  have e' : b = s1.heap.objs.size + 1 ∨ b = s1.heap.objs.size := by simpa using hb
  have hle : s1.heap.objs.size ≤ b := by
    rcases e' with z | z
    · rw [z]; exact Nat.le_add_right _ _
    · rw [z]; exact Nat.le_refl _
  exact I1.fpOk hle (I1.hok.fresh hle)
section
variable {K : PySem.W.Frag} {B : Hp} {G : List (Option Sl)} {M M1 : List MO}
theorem yl_enumU {a : Addr} {vs : List V} {xs : List Dt} (h : SqT K B a vs) (r : RpL K B xs vs) : Yl K B (Itu K a) (enumD 0 xs) := fun F B' as M H i e ow => by
  have h1 : SqT K H a vs := same_t ow.bb (same_t e h)
  refine ⟨fun x hx => ?_, fun hi => ⟨vs, h1, by rw [r.len]; rw [enumD_len] at hi; exact hi⟩⟩
  rw [enumD_get] at hx
  cases hy : xs[i]? with
  | none => rw [hy] at hx; cases hx
  | some y =>
    rw [hy] at hx
    have hx : Dt.tup [.int ((0 + i : Nat) : Nat), y] = x := Option.some.inj hx
    subst hx
    obtain ⟨v, hv, hr⟩ := r.get hy
    refine ⟨⟨vs, v, h1, hv⟩, fun w H' yl => ?_⟩
    obtain ⟨T, u, rfl, hT, rfl, hu⟩ := yl
    have e2 : v = u := Option.some.inj (hv.symm.trans (hu vs h1))
    subst e2
    have g := ow.gr hT (.tup [.int (i : Nat), v])
    refine ⟨_, g, ow.new hT _, T, _, rfl, .inl (.inl upd_same), _, _, rfl, ?_, _, _, rfl, Rp.mono (e.trans g.1) _ _ hr, rfl⟩
    rw [Nat.zero_add]
    rfl
theorem ei_enumU {ta : TA} {xs : List Dt} (h : EvA K ta G M [.d (.tup xs)] M1) : EvI K (iEnumU K ta) G M (enumD 0 xs) M1 := fun F B as σ H ow sl R q =>
  h F B as σ H ow sl _ fun vs B' as' H' g p o' r => by
    obtain ⟨v, r1, e1, h1, e2⟩ := r
    have e2 : r1 = [] := e2
    subst e2; subst e1
    obtain ⟨a, us, e, q1, q2⟩ := h1
    subst e
    exact ⟨a, us, rfl, same_t o'.bb q1, q _ B' as' H' g p o' (yl_enumU q1 q2)⟩
end
end DJ
namespace LJ
open PySem PySem.Spec PyProof.Rows L2 LamX DJ
section
variable {K : PySem.W.Frag} {G : List (Option Sl)} {M M1 M2 : List MO} {ta tb : TE}
theorem ro_ixT' {xs : List Dt} {x : Dt} {i : Int} (h : atI xs i = some x) : RO K (rIx K) (.tup xs) (.int i) x := fun F B as M H v u Q ow r1 r2 q => .inr (.inl (ro_ixT h F B as M H v u Q ow r1 r2 q))
theorem rc_tupOf {xs : List Dt} (h : xs.length ≤ 100000) : RC K (fun xs H Q => ∃ p ys, xs = [.ref p] ∧ ((SqL K H p ys ∧ ∀ l, H l = none → Q (.ref l) (upd H l (.tup ys))) ∨ (SqT K H p ys ∧ Q (.ref p) H))) [.lst xs] (.tup xs) := fun F B as M H vs Q ow r q => by
  obtain ⟨v1, rr, e, h1, h2⟩ := r
  obtain ⟨a, us, e1, h3, h4⟩ := h1
  have h2 : rr = [] := h2
  subst h2; subst e1
  refine ⟨a, us, e, .inl ⟨ow.bb.seq h3, fun l hl => ?_⟩⟩
  have g := ow.gr hl (.tup us)
  exact q _ _ _ g (ow.new hl _) ⟨l, us, rfl, .inl (.inl upd_same), RpL.mono g.1 _ _ h4⟩
end
end LJ
namespace LJ
open PySem PySem.Spec PyProof.Rows L2 LamX DJ
/-! ### instances of own classes, their attributes plain values -/
abbrev Fs := List (Str × V)
def insM (C : Addr) (fs : Fs) : MO := .abx fun _ _ o => ∃ dx, o = .ins C dx fs
def insD (C : Addr) (fs : Fs) : Dt := .ext fun H v => ∃ a dx, v = .ref a ∧ H a = some (.ins C dx fs)
theorem rp_ins {K : PySem.W.Frag} {B : Hp} {C : Addr} {fs : Fs} {v : V} (h : Rp K B (insD C fs) v) : ∃ a dx, v = .ref a ∧ B a = some (.ins C dx fs) := h B (Same.refl B)
theorem rp_ins_of {K : PySem.W.Frag} {B : Hp} {C a dx : Addr} {fs : Fs} (h : B a = some (.ins C dx fs)) : Rp K B (insD C fs) (.ref a) := fun H' e => ⟨a, dx, rfl, e _ _ h⟩
section
variable {K : PySem.W.Frag} {F B H : Hp} {as : List Addr} {G : List (Option Sl)} {M M1 M2 : List MO} {ta tb tv : TE} {tr : TA} {C : Addr} {fs gs : Fs} {E : XK}
theorem Ow_know {x : Addr} {o : HO} (h : Ow K F B as M H) (e0 : H x = some o) (b : B x = none) (f : F x = none) (n : x ∉ as) : Gr F B (upd B x o) ∧ Ow K F (upd B x o) as M H := by
  have sm : Same B (upd B x o) := fun c u e => by rw [upd_ne (ne_of_none e b)]; exact e
  refine ⟨⟨sm, fun c z n => ?_⟩, ⟨h.fb, fun c u e => ?_, h.len, h.nd, h.al, h.fa, fun j c m q1 q2 hn => ?_⟩⟩
  · rw [upd_ne (fun e => z.1 (by rw [e]; exact f))]; exact n
  · by_cases z : c = x
    · subst z; rw [upd_same] at e; rw [← e]; exact e0
    · rw [upd_ne z] at e; exact h.bb _ _ e
  · have ne : c ≠ x := fun e => n (e ▸ List.mem_of_getElem? q1)
    obtain ⟨r1, r2, r3⟩ := h.own j c m q1 q2 hn
    exact ⟨r1, by rw [upd_ne ne]; exact r2, MoR.mono sm rfl r3⟩
/-- C(..): data, once __init__ has come to its end -/
theorem ev_make {n : Nat} {R : List Sl → List MO → Sl → List MO → Prop} {ds : List Dt} (h : EvA K tr G M (ds.map Sl.d) M1) (hR : R (.o 0 :: ds.map Sl.d) [insM C []] (.d .non) [insM C fs]) (hn : ds.length + 1 = n) :
    EvE K (tMake C (SpR K n R) [] E tr) G M (.d (insD C fs)) M1 := fun F B as σ H ow sl Q q =>
  h F B as σ H ow sl _ fun vs B1 as1 H1 g1 p1 o1 r1 => fun x dx hx hdx ne => by
    have od := o1.new hdx (.own x)
    have gd := o1.gr hdx (.own x)
    have hx1 : (upd H1 dx (.own x)) x = none := by rw [upd_ne (Ne.symm ne)]; exact hx
    have bx : (upd B1 dx (.own x)) x = none := od.bb.free hx1
    have fx : F x = none := od.fb.free hx1
    have oc : Ow K (upd H1 dx (.own x)) (upd B1 dx (.own x)) [x] [insM C []] (upd (upd H1 dx (.own x)) x (.ins C dx [])) := by
      refine ⟨fun b u e => ?_, fun b u e => ?_, rfl, by simp, fun b hb => ?_, fun b hb => ?_, fun j b m e1 e2 hm => ?_⟩
      · rw [upd_ne (ne_of_none e hx1)]; exact e
      · rw [upd_ne (ne_of_none e bx)]; exact od.bb b u e
      · obtain rfl : b = x := by simpa using hb
        rw [upd_same]; exact fun z => nomatch z
      · obtain rfl : b = x := by simpa using hb
        exact hx1
      · cases j with
        | zero =>
          obtain rfl : x = b := Option.some.inj e1
          obtain rfl : insM C [] = m := Option.some.inj e2
          exact ⟨hx1, bx, _, upd_same, (by intro vs z; cases z), fun B' _ => ⟨dx, rfl⟩⟩
        | succ j => simp at e1
    refine ⟨_, _, [x], .o 0 :: ds.map Sl.d, [insM C []], .d .non, [insM C fs], hR, oc, ⟨.ref x, vs ++ [], rfl, ⟨x, rfl, rfl⟩, ?_⟩, ?_, fun v B' as' H' g p o' r' => ⟨r', ?_⟩⟩
    · rw [List.append_nil]; exact SlL.of_data (RpL.mono gd.1 _ _ (SlL.data r1))
    · rw [List.length_cons, List.append_nil, r1.len, List.length_map]; exact hn
    · obtain ⟨tl, rfl⟩ := p
      obtain ⟨f0, b0, o, ho, nt, φ⟩ := o'.own 0 x _ rfl rfl (fun z => nomatch z)
      obtain ⟨dx', rfl⟩ := φ B' (Same.refl B')
      obtain ⟨g2, o2⟩ := back0 od g o'
      obtain ⟨g3, o3⟩ := Ow_know o2 ho b0 fx (fun hm => od.al x hm hx1)
      exact q _ _ as1 H' (g1.trans (gd.trans (g2.trans g3))) p1 o3 (rp_ins_of (K := K) upd_same)
/-- e.f, a property that hands an attribute on -/
theorem ev_prop {f : Str} {v : V} {y : Dt} (h : EvE K ta G M (.d (insD C fs)) M1) (l : fs.lookup f = some v) (r : ∀ B, Rp K B y v) : EvE K (tProp C (getSp C f) [] E ta) G M (.d y) M1 := fun F B as σ H ow sl Q q =>
  h F B as σ H ow sl _ fun x B1 as1 H1 g1 p1 o1 r1 => by
    obtain ⟨a, dx, rfl, e⟩ := rp_ins (K := K) r1
    have e' := o1.bb _ _ e
    exact ⟨a, dx, fs, rfl, e', a, dx, fs, v, rfl, e', l, q v B1 as1 H1 g1 p1 o1 (r B1)⟩
/-- self.f = value, self made anew -/
theorem es_fld {k : Nat} {f : Str} {y : Dt} {v : V} (hv : EvE K tv G M (.d y) M1) (hy : ∀ B w, Rp K B y w → w = v) (hs : EvE K ta G M1 (.o k) M2) (hm : M2[k]? = some (insM C fs)) (c : Cls K C) (n : NoAttr K C f) (hl : fs.length < 1000) :
    EvS K (sFld K ta tv f) G M (.nx G (M2.set k (insM C (putF f v fs)))) := fun F B as σ H ow sl D gd =>
  hv F B as σ H ow sl _ fun w B1 as1 H1 g1 p1 o1 r1 => hs F B1 as1 σ H1 o1 (sl.mono g1.1 p1) _ fun x B2 as2 H2 g2 p2 o2 r2 => by
    obtain ⟨a, ha, rfl⟩ := r2
    obtain ⟨f0, b0, o, ho, nt, φ⟩ := o2.own k a _ ha hm (fun z => nomatch z)
    obtain ⟨dx, rfl⟩ := φ B2 (Same.refl B2)
    obtain rfl := hy B1 w r1
    refine ⟨a, C, dx, fs, rfl, ho, c, n, hl, ?_⟩
    exact gd B2 as2 σ _ (g1.trans g2) (p1.trans p2) (o2.put ha hm (fun z => nomatch z) ⟨_, upd_same, (by intro vs z; cases z), fun B' _ => ⟨dx, rfl⟩⟩) (sl.mono (g1.trans g2).1 (p1.trans p2))
/-- isinstance of an instance of the class itself -/
theorem rc_isI (c : C8.InsC K C) : RC K (rIsi K) [insD C fs, .raw (.ref C)] (.bl true) := fun F B as M H vs Q ow r q => by
  obtain ⟨v1, rr, e, h1, v2, rr2, e2, h2, h3⟩ := r
  obtain ⟨a, dx, rfl, ea⟩ := rp_ins (K := K) h1
  obtain rfl : v2 = V.ref C := h2
  obtain rfl : rr2 = [] := h3
  subst e2; subst e
  exact ⟨.ref a, .ref C, .ref C, .ref C, true, rfl, .own C, .base (TyOf.ins (ow.bb _ _ ea) c.cl c.ha c.hn c.htk c.hm), c.me, q _ B H (Gr.refl F B) ow rfl⟩
end
/-! ### == by a def of the class -/
def rOwnI (C : Addr) (sp : Sp) (E : XK) : R2 := fun x y H Q => ∃ a b dx dy fs gs, x = .ref a ∧ y = .ref b ∧ H a = some (.ins C dx fs) ∧ H b = some (.ins C dy gs) ∧ sp [x, y] H Q E
theorem op_ownI {X : Cx} {CX : CXT} {C f : Addr} {fd : FuncData} {ps : List Str} {n : Nat} {sp : Sp} {E : XK} (F : FnOk X.prog X.w X.K X.mg X.base CX n f fd ps sp)
    (hs : PySem.W.findIn X.K (.ref C) "__eq__" = some (some (.ref f))) (hf : PySem.W.isFn X.K (.ref f) = true) (hb : Binds X.K fd ps []) (hr : Room n X.A) (hx : Passes CX X E) : OpR X (compareOp .Eq) (rOwnI C sp E) := by
  intro pins s σ H x y v u Q I rx ry h
  obtain ⟨a, b, dx, dy, fs, gs, rfl, rfl, ha, hb', q⟩ := h
  cases (show v = Value.ref a from rx)
  cases (show u = Value.ref b from ry)
  obtain ⟨mA, J, _⟩ := ins_get I.hok ha
  obtain ⟨mB, J', _⟩ := ins_get I.hok hb'
  obtain ⟨od, J, _⟩ := J.look
  obtain ⟨od', J', _⟩ := J'.look
  obtain ⟨m, hF⟩ := I.fr
  show wpAny (model X.prog X.w) X.A (richCompare .Eq (.ref a) (.ref b)) (EP X pins σ Q) X.xe s
  refine PySem.W.cmp_K (op := .Eq) (tb := .ref C) hr.units0 hF I.ok.mod.kin J J'.type (by simp [PySem.W.notFirst]) hs hf ?_
  refine wpAny_mono (run_fn (us := [.ref a, .ref b]) (vs := [.ref a, .ref b]) (ds := []) (dvs := []) F hr hb .nil hx I (.cons rfl (.cons rfl .nil)) (by rw [List.append_nil]; exact q)) (fun w s' z => ?_) fun _ _ x => x
  obtain ⟨z', H', I', rz, qz⟩ := z
  exact SlX.cmpback rz ⟨z', H', I', rz, qz⟩
theorem ro_ownI {K : PySem.W.Frag} {C : Addr} {fs gs : Fs} {R : List Sl → List MO → Sl → List MO → Prop} {z : Dt} {E : XK} (hR : R [.d (insD C fs), .d (insD C gs)] [] (.d z) []) : RO K (rOwnI C (SpR K 2 R) E) (insD C fs) (insD C gs) z := fun F B as M H v u Q ow rv ru q => by
  obtain ⟨a, dx, rfl, ea⟩ := rp_ins (K := K) rv
  obtain ⟨b, dy, rfl, eb⟩ := rp_ins (K := K) ru
  refine ⟨a, b, dx, dy, fs, gs, rfl, rfl, ow.bb _ _ ea, ow.bb _ _ eb, ?_⟩
  exact call_core (ds := [insD C fs, insD C gs]) hR rfl ow ⟨_, _, rfl, rv, _, _, rfl, ru, rfl⟩ fun w B' as' H' g o' r' => by
    obtain ⟨g2, o2⟩ := back0 ow g o'
    exact q w B' H' g2 o2 r'
/-! ### the class's defs, what they promise -/
section
variable {P : Program} {w : World} {K : PySem.W.Frag} {mg : Str → Option Value} {base : Heap}
/-- a def of the class, under whatever name it is found -/
structure Mtd (P : Program) (w : World) (K : PySem.W.Frag) (mg : Str → Option Value) (base : Heap) (k : Nat) (f : Addr) (sp : Sp) : Prop where
  ex : ∃ (fd : FuncData) (ps : List Str), FnOk P w K mg base CX0 k f fd ps sp ∧ Binds K fd ps []
theorem mtd_mk {x qual : Str} {f : Addr} {st : Stmt} {N ps : List Str} {k n : Nat} {R : List Sl → List MO → Sl → List MO → Prop} (D : ∃ fd, L2.Fun K x qual st f fd ∧ Binds K fd ps []) (S : FnScope N ps (defScope st)) (hn : ps.length = n)
    (hb : ∀ (cdv : Value) (A : Around) (outer : List Env) (s : Shared) (H : Hp) (E : XK), Room k (A.deeper (envOfC qual (defScope st) s.heap.objs.size f cdv)) → ∀ ss M r M', R ss M r M' →
      ∃ t X, PSs (cxOf CX0 P w K mg base N qual (defScope st) f cdv A outer s H E).nox (defBody st) t ∧ EvS K t (DJ.start N.length ss) M (.rt r (M' ++ X)) ∧ M.length ≤ M'.length ∧ ∀ j, r = .o j → j < M'.length) :
    Mtd P w K mg base (k + 1) f (SpR K n R) := by
  obtain ⟨fd, F, b⟩ := D
  refine ⟨fd, ps, F.ok S (fun vs H Q E h => ?_) (fun cdv A outer s H vs Q E hr h => ?_), b⟩
  · obtain ⟨_, _, _, _, _, _, _, _, _, _, e, _⟩ := h
    rw [e, hn]
  · obtain ⟨F', B, as, ss, M, r, M', hR, ow, sl, _, q⟩ := h
    obtain ⟨t, X, ht, he, hl, hr'⟩ := hb cdv A outer s H E hr ss M r M' hR
    exact ⟨t, ht, run_body (X := X) he hl hr' ow sl q⟩
theorem mtd_mkN {x qual : Str} {f : Addr} {st : Stmt} {N ps : List Str} {k n : Nat} {R : List Sl → List MO → Sl → List MO → Prop} (D : ∃ fd, L2.Fun K x qual st f fd ∧ Binds K fd ps []) (S : FnScope N ps (defScope st)) (hn : ps.length = n)
    (hb : ∀ (cdv : Value) (A : Around) (outer : List Env) (s : Shared) (H : Hp) (E : XK), Room k (A.deeper (envOfC qual (defScope st) s.heap.objs.size f cdv)) → ∀ ss M r M', R ss M r M' →
      ∃ t X G1, PSs (cxOf CX0 P w K mg base N qual (defScope st) f cdv A outer s H E).nox (defBody st) t ∧ EvS K t (DJ.start N.length ss) M (.nx G1 (M' ++ X)) ∧ M.length ≤ M'.length ∧ r = .d .non) :
    Mtd P w K mg base (k + 1) f (SpR K n R) := by
  obtain ⟨fd, F, b⟩ := D
  refine ⟨fd, ps, F.ok S (fun vs H Q E h => ?_) (fun cdv A outer s H vs Q E hr h => ?_), b⟩
  · obtain ⟨_, _, _, _, _, _, _, _, _, _, e, _⟩ := h
    rw [e, hn]
  · obtain ⟨F', B, as, ss, M, r, M', hR, ow, sl, _, q⟩ := h
    obtain ⟨t, X, G1, ht, he, hl, hr'⟩ := hb cdv A outer s H E hr ss M r M' hR
    subst hr'
    exact ⟨t, ht, run_bodyN (X := X) he hl ow sl q⟩
/-- a property, by its getter -/
structure Prp (P : Program) (w : World) (K : PySem.W.Frag) (mg : Str → Option Value) (base : Heap) (k : Nat) (C : Addr) (f g : Str) : Prop where
  ex : ∃ (p ga : Addr), Cls K C ∧ PropOf K C f p ga ∧ Mtd P w K mg base k ga (getSp C g)
theorem prp_mk {f g qual : Str} {C p ga : Addr} {st : Stmt} {N : List Str} {k : Nat} {p1 p2 p3 : Pos} (c : Cls K C) (hp : PropOf K C f p ga) (D : ∃ fd, L2.Fun K f qual st ga fd ∧ Binds K fd ["self"] []) (S : FnScope N ["self"] (defScope st)) (hN : N[0]? = some ("self" : Str))
    (hb : defBody st = [.Return (some (.Attribute (.Name "self" p1) g p2)) p3]) (n : NoAttr K C g) : Prp P w K mg base (k + 1) C f g := by
  obtain ⟨fd, F, b⟩ := D
  obtain ⟨oc, od, kV, doc, pm, an, cdv, ct, osl, rfl, lk, hcd⟩ := F.ex
  exact ⟨p, ga, c, hp, ⟨_, _, fn_getter lk hcd S hN hb c n, b⟩⟩
/-- own == -/
structure OEq (P : Program) (w : World) (K : PySem.W.Frag) (mg : Str → Option Value) (base : Heap) (k : Nat) (C : Addr) (sp : Sp) : Prop where
  ex : ∃ (f : Addr), PySem.W.findIn K (.ref C) "__eq__" = some (some (.ref f)) ∧ PySem.W.isFn K (.ref f) = true ∧ Mtd P w K mg base k f sp
/-- C(..) -/
structure Mkr (P : Program) (w : World) (K : PySem.W.Frag) (mg : Str → Option Value) (base : Heap) (k : Nat) (x : Str) (C : Addr) (sp : Sp) : Prop where
  ex : ∃ (f : Addr), Mk K C f ∧ mg x = some (.ref C) ∧ Mtd P w K mg base k f sp
end
section
variable {X : Cx} {k j : Nat} {C : Addr} {x f g : Str} {sp : Sp} {p pos : Pos} {e : Expr} {es : List Expr} {ta : TE} {t : TA}
theorem pe_prp (c : Prp X.prog X.w X.K X.mg X.base k C f g) (hr : Room j X.A) (hk : k + 1 ≤ j) (he : PE X e ta) (hab : attributeBase e f X.env (eval e X.env) = eval e X.env := by rfl) : PE X (.Attribute e f pos) (tProp C (getSp C g) [] L2.E0 ta) := by
  obtain ⟨q, ga, hc, hp, fd, ps, F, b⟩ := c.ex
  exact pe_prop he hc hp F (hr.mono hk) b .nil L2.pass0 hab
theorem op_oeq (c : OEq X.prog X.w X.K X.mg X.base k C sp) (hr : Room j X.A) (hk : k ≤ j) : OpR X (compareOp .Eq) (rOwnI C sp L2.E0) := by
  obtain ⟨f, hs, hf, fd, ps, F, b⟩ := c.ex
  exact op_ownI F hs hf b (hr.mono hk) L2.pass0
theorem pe_mkr (c : Mkr X.prog X.w X.K X.mg X.base k x C sp) (hr : Room j X.A) (hk : k + 1 ≤ j) (hg : Gl X x) (ha : PA X (e :: es) t)
    (hdb : (x == ("__debug__" : Str)) = false := by decide) (he : starEach (e :: es) X.env = (false, eval e X.env) :: starEach es X.env := by rfl) (hpl : (backTo pos (starEach es X.env)).any (·.1) = false := by rfl) :
    PE X (.Call (.Name x p) (e :: es) [] pos) (tMake C sp [] L2.E0 t) := by
  obtain ⟨f, M, hm, fd, ps, F, b⟩ := c.ex
  exact pe_make M F (hr.mono hk) hg hm b .nil L2.pass0 ha hdb he hpl
end
end LJ
namespace LJ
open PySem PySem.Spec PyProof.Rows L2 LamX DJ
/-! ### int(text) of at most 4,300 figures -/
open PySem.NumText in
theorem wp_textD {M : Model} {A : Around} {E : Value → Shared → Prop} {s : Shared} {Q : Value → Shared → Prop} {v : Value} {text : List Nat} {n : Int} (hn : s.heap.NoDigits)
    (hr0 : (text.takeWhile (· != 0)).length ≤ 640 → (int_private% "readNumeral") 0 10 (text.takeWhile (· != 0)) = (int_private% "Numeral.value") n)
    (hr : (int_private% "readNumeral") 4300 10 (text.takeWhile (· != 0)) = (int_private% "Numeral.value") n)
    (ha : ((text.takeWhile (· != 0)).length == text.length) = true) (h : Q (.int n s.toks) { s with toks := s.toks + 1 }) :
    wpAny M A ((int_private% "intFromText") v text 10) Q E s := by
  by_cases hs : (text.takeWhile (· != 0)).length ≤ 640
  · exact PySem.W.KIN.wp_text hs (hr0 hs) ha h
  · obtain ⟨hp, g, d, tk, os⟩ := s
    repeat (any_goals (first
      | assumption
      | (with_reducible refine wpAny_ite_false (decide_eq_false hs) ?_)
      | ((with_reducible show wpAny _ _ Builtin.intMaxStrDigits _ _ _); refine dig_any hn ?_)
      | (with_reducible refine wpAny_ite_true (decide_eq_true ha) ?_)
      | wp_step))
    all_goals (try rw [hr])
    all_goals (try dsimp only)
    repeat (any_goals (first
      | assumption
      | (with_reducible refine wpAny_ite_true (decide_eq_true ha) ?_)
      | wp_step))
open PySem.NumText in
theorem core_dec {x : PySem.Str} {u : Tok} {n : Int} (hl : x.length ≤ 4300) (hx : PySem.intText? x = some n)
    {M : Model} {A : Around} {E : Value → Shared → Prop} {s : Shared} {Q : Value → Shared → Prop} (hn : s.heap.NoDigits) (hQ : Q (.int n s.toks) { s with toks := s.toks + 1 }) :
    wpAny M A (Builtin.«int.__new__» ⟨[.type "int", .str x u], []⟩) (fun fin s' => ∃ v, fin = .done (.ret v) ∧ Q v s') E s := by
  have f1 := F.conv_sub_int
  have f2 := F.madeHere_int
  have f3 := PySem.W.KIN.str_int
  have f4 := PySem.W.KIN.str_idx
  have f5 := PySem.W.KIN.str_trunc
  have f6 : typeOf (.str x u) = pure (.type "str") := rfl
  have r4 : (int_private% "readNumeral") 4300 10 (numSeenOf x) = (int_private% "Numeral.value") n ∧ ((numSeenOf x).length == (numTextOf x).length) = true := by
    rcases read4300 x (Nat.le_trans hl (by decide)) with ⟨m, h1, h2, h3⟩ | ⟨h1, _⟩
    · rw [hx] at h1; injection h1 with h1; subst h1; exact ⟨h3, h2⟩
    · rw [hx] at h1; cases h1
  have r0 : (numSeenOf x).length ≤ 640 → (int_private% "readNumeral") 0 10 (numSeenOf x) = (int_private% "Numeral.value") n := fun hs => by
    rcases read0 x hs with ⟨m, h1, h2, h3⟩ | ⟨h1, _⟩
    · rw [hx] at h1; injection h1 with h1; subst h1; exact h3
    · rw [hx] at h1; cases h1
  have hk := Hx.Hid.mk (And.intro hn (And.intro r0 (And.intro r4.1 r4.2)))
  obtain ⟨hp, g, d, tk, os⟩ := s
  clear r4 r0 hx hl hn
  repeat (any_goals (first
    | assumption
    | ((with_reducible show wpAny _ _ ((int_private% "intFromText") _ _ _) _ _ _); refine wp_textD hk.out.1 hk.out.2.1 hk.out.2.2.1 hk.out.2.2.2 ?_)
    | wp_step))
  all_goals first | exact ⟨_, rfl, hQ⟩ | skip
theorem meets_dec {x : PySem.Str} {u : Tok} {n : Int} (hl : x.length ≤ 4300) (hx : PySem.intText? x = some n) :
    Meets (Builtin.«int.__new__» ⟨[.type "int", .str x u], []⟩) (fun _ R s => s.heap.NoDigits ∧ R (.ok (.ret (.int n s.toks))) { s with toks := s.toks + 1 }) := fun prog w A R s hS =>
  wpAny_mono (core_dec (Q := fun v s' => R (.ok (.ret v)) s') hl hx hS.1 hS.2) (fun fin s' h' => by obtain ⟨v, rfl, hv⟩ := h'; exact hv) fun _ _ x => x
def rIntL : List V → Hp → VK → Prop := fun xs H Q => ∃ a n, xs = [.str a] ∧ PySem.intText? a = some n ∧ a.length ≤ 4300 ∧ Q (.int n) H
theorem call_int_long {X : Cx} (e : DgK X.K) : CallR X (.type "int") rIntL := by
  intro pins s σ H xs us Q I r h
  obtain ⟨a, n, rfl, hx, hl, q⟩ := h
  obtain ⟨u, rfl, r1⟩ := vals1 r
  obtain ⟨t1, rfl⟩ := r1
  exact callType_new F.called_int F.newNe_int (F.typeCall_int_1 _) (F.newCall_int_1 _) (fun obj => F.args_object_init_2 obj _) F.entry_int_new (meets_dec hl hx) ⟨nodig I e, rfl, ⟨.int n, H, I.tok _, ⟨_, rfl⟩, q⟩⟩
section
variable {K : PySem.W.Frag} {G : List (Option Sl)} {M M1 M2 : List MO} {ta tb tv : TE} {tr : TA}
theorem rc_intL {l : List Nat} (h : l.all (fun c => decide (48 ≤ c) && decide (c ≤ 57)) = true) (hne : l ≠ []) (hl : l.length ≤ 4300) : RC K rIntL [.str l] (.int ((NumText.digitsVal l : Nat) : Int)) := fun F B as M H vs Q ow r q =>
  ⟨tx l, _, two_str r, SX.int_S h hne hl, by rw [tx_len]; exact hl, q _ B H (Gr.refl F B) ow rfl⟩
theorem rc_tenL {k : Nat} (h : k ≤ 4299) : RC K rIntL [.str (49 :: List.replicate k 48)] (.int ((10 ^ k : Nat) : Int)) := by
  have := rc_intL (K := K) (l := 49 :: List.replicate k 48) (by
    rw [List.all_cons, List.all_replicate]
    cases k <;> simp) (List.cons_ne_nil _ _) (by rw [List.length_cons, List.length_replicate]; omega)
  rw [ten_val] at this
  exact this
/-! ### zip of two lists -/
theorem yl_zip {B : Hp} {a b : Addr} {vs us : List V} {xs ys : List Dt} (h : SqL K B a vs) (h2 : SqL K B b us) (r : RpL K B xs vs) (r2 : RpL K B ys us) : Yl K B (Itz K a b) ((xs.zip ys).map fun p => .tup [p.1, p.2]) := fun F B' as M H i e ow => by
  have h1 : SqL K H a vs := ow.bb.seq (e.seq h)
  have h2 : SqL K H b us := ow.bb.seq (e.seq h2)
  refine ⟨fun x hx => ?_, fun hi => ⟨vs, us, h1, h2, by
    rw [List.length_map, List.length_zip] at hi
    rw [r.len, r2.len]
    omega⟩⟩
  rw [List.getElem?_map] at hx
  cases hz : (xs.zip ys)[i]? with
  | none => rw [hz] at hx; cases hx
  | some p =>
    rw [hz] at hx
    have hx : Dt.tup [p.1, p.2] = x := Option.some.inj hx
    subst hx
    obtain ⟨z1, z2⟩ := List.getElem?_zip_eq_some.mp hz
    obtain ⟨v, hv, hr⟩ := r.get z1
    obtain ⟨u, hu, hr2⟩ := r2.get z2
    refine ⟨⟨vs, us, v, u, h1, h2, hv, hu⟩, fun w H' y => ?_⟩
    obtain ⟨T, v', u', rfl, hT, rfl, y1, y2⟩ := y
    have e1 : v = v' := Option.some.inj (hv.symm.trans (y1 vs h1))
    have e2 : u = u' := Option.some.inj (hu.symm.trans (y2 us h2))
    subst e1; subst e2
    have g := ow.gr hT (.tup [v, u])
    exact ⟨_, g, ow.new hT _, T, [v, u], rfl, .inl (.inl upd_same), v, [u], rfl, Rp.mono (e.trans g.1) _ _ hr, u, [], rfl, Rp.mono (e.trans g.1) _ _ hr2, rfl⟩
theorem ei_zip {xs ys : List Dt} (h : EvA K tr G M [.d (.lst xs), .d (.lst ys)] M1) : EvI K (iZip K tr) G M ((xs.zip ys).map fun p => .tup [p.1, p.2]) M1 := fun F B as σ H ow sl R k =>
  h F B as σ H ow sl _ fun vs B1 as1 H1 g1 p1 o1 r1 => by
    obtain ⟨v, rr, e, h1, u, rr2, e2, h2, e3⟩ := r1
    obtain ⟨a, vs1, rfl, q1, r1⟩ := h1
    obtain ⟨b, us1, rfl, q2, r2⟩ := h2
    have e3 : rr2 = [] := e3
    subst e3; subst e2; subst e
    exact ⟨a, b, vs1, us1, rfl, o1.bb.seq q1, o1.bb.seq q2, k _ B1 as1 H1 g1 p1 o1 (yl_zip q1 q2 r1 r2)⟩
/-! ### < of pairs: a number, a text -/
def rLtT (K : PySem.W.Frag) : R2 := fun x y H Q => ∃ p q i j l m, x = .ref p ∧ y = .ref q ∧ SqT K H p [.int i, .str (tx l)] ∧ SqT K H q [.int j, .str (tx m)] ∧ Q (.bl (if i = j then decide (l < m) else decide (i < j))) H
theorem ro_ltT {i j : Int} {l m : List Nat} : RO K (rLtT K) (.tup [.int i, .str l]) (.tup [.int j, .str m]) (.bl (if i = j then decide (l < m) else decide (i < j))) := fun F B as M H v u Q ow rv ru q => by
  obtain ⟨a, vs, rfl, q1, v1, r1, e1, h1, v2, r2, e2, h2, h3⟩ := rv
  obtain ⟨b, us, rfl, q2, u1, s1, f1, g1, u2, s2, f2, g2, g3⟩ := ru
  have h1 : v1 = V.int i := h1
  have h2 : v2 = V.str (tx l) := h2
  have h3 : r2 = [] := h3
  have g1 : u1 = V.int j := g1
  have g2 : u2 = V.str (tx m) := g2
  have g3 : s2 = [] := g3
  subst h3; subst h2; subst h1; subst g3; subst g2; subst g1; subst e2; subst e1; subst f2; subst f1
  exact ⟨a, b, i, j, l, m, rfl, rfl, same_t ow.bb q1, same_t ow.bb q2, q _ B H (Gr.refl F B) ow rfl⟩
end
theorem op_ltT {X : Cx} (hr : Room 0 X.A) : OpR X (compareOp .Lt) (rLtT X.K) := by
  intro pins s σ H x y v u Q I rx ry h
  obtain ⟨p, q, i, j, l, m, rfl, rfl, h1, h2, hq⟩ := h
  cases (show v = Value.ref p from rx)
  cases (show u = Value.ref q from ry)
  obtain ⟨its, r1, t1, _⟩ := I.tuple h1
  obtain ⟨its2, r2, t2, _⟩ := I.tuple h2
  obtain ⟨a1, a2, rfl, ra1, ra2⟩ := vals2 r1
  obtain ⟨b1, b2, rfl, rb1, rb2⟩ := vals2 r2
  obtain ⟨k1, rfl⟩ := (show ∃ t, a1 = Value.int i t from ra1)
  obtain ⟨k2, rfl⟩ := (show ∃ t, a2 = Value.str (tx l) t from ra2)
  obtain ⟨k3, rfl⟩ := (show ∃ t, b1 = Value.int j t from rb1)
  obtain ⟨k4, rfl⟩ := (show ∃ t, b2 = Value.str (tx m) t from rb2)
  show wpAny (model X.prog X.w) X.A (richCompare .Lt (.ref p) (.ref q)) (EP X pins σ Q) X.xe s
  refine Ob.RcOp.tuples_lt (e := fun k => match k with | 0 => i == j | _ => tx l == tx m) (r := fun k => match k with | 0 => decide (i < j) | _ => decide ((tx l).cps.toList < (tx m).cps.toList)) t1 t2 hr.units0 (fun k z1 z2 => ?_) (fun k z1 z2 _ => ?_) X.prog X.w X.xe _ ?_
  · match k with
    | 0 => exact SeqAt.EqAt.int_int i k1 j k3
    | 1 => exact SeqAt.EqAt.str_str (tx l) k2 (tx m) k4
    | k + 2 => exact absurd z1 (by simp)
  · match k with
    | 0 => exact Ob.RcOp.lt_int i j k1 k3
    | 1 => exact fun _ _ _ _ h => lt_str h
    | k + 2 => exact absurd z1 (by simp)
  · refine ⟨.bl (if i = j then decide (l < m) else decide (i < j)), H, I, ?_, hq⟩
    show Value.bool _ = Value.bool _
    congr 1
    show (if (i == j) = true then (if (tx l == tx m) = true then false else decide ((tx l).cps.toList < (tx m).cps.toList)) else decide (i < j)) = _
    by_cases h : i = j
    · subst h
      rw [if_pos (beq_self_eq_true i), if_pos rfl]
      by_cases h : l = m
      · subst h
        rw [if_pos (beq_self_eq_true _), decide_eq_false (List.lt_irrefl l)]
      · rw [if_neg (by
          intro z
          have z := congrArg (fun x : Str => x.cps.toList) (beq_iff_eq.mp z)
          exact h z)]
    · rw [if_neg (by rw [beq_iff_eq]; exact h), if_neg h]
end LJ
namespace LJ
open PySem PySem.Spec PyProof.Rows L2 LamX DJ
/-! ### == by a def of the class, of a value of another kind -/
inductive PlV : V → Value → Prop where
  | non : PlV .non (.type "NoneType")
  | int (i : Int) : PlV (.int i) (.type "int")
  | str (x : Str) : PlV (.str x) (.type "str")
def rOwnP (K : PySem.W.Frag) (C : Addr) (sp : Sp) (E : XK) : R2 := fun x y H Q => ∃ a dx fs t, x = .ref a ∧ H a = some (.ins C dx fs) ∧ PlV y t ∧ PySem.W.notFirst K C t = true ∧ sp [x, y] H Q E
theorem op_ownP {X : Cx} {CX : CXT} {C f : Addr} {fd : FuncData} {ps : List Str} {n : Nat} {sp : Sp} {E : XK} (F : FnOk X.prog X.w X.K X.mg X.base CX n f fd ps sp)
    (hs : PySem.W.findIn X.K (.ref C) "__eq__" = some (some (.ref f))) (hf : PySem.W.isFn X.K (.ref f) = true) (hb : Binds X.K fd ps []) (hr : Room n X.A) (hx : Passes CX X E) : OpR X (compareOp .Eq) (rOwnP X.K C sp E) := by
  intro pins s σ H x y v u Q I rx ry h
  obtain ⟨a, dx, fs, t, rfl, ha, hp, hn, q⟩ := h
  cases (show v = Value.ref a from rx)
  obtain ⟨mA, J, _⟩ := ins_get I.hok ha
  obtain ⟨od, J, _⟩ := J.look
  obtain ⟨m, hF⟩ := I.fr
  show wpAny (model X.prog X.w) X.A (richCompare .Eq (.ref a) u) (EP X pins σ Q) X.xe s
  have hl : PySem.W.Looks (model X.prog X.w) s.heap (typeOf u) t := by
    cases hp with
    | non => cases (show u = Value.none from ry); exact PySem.W.Looks.of_pure rfl
    | int i => obtain ⟨k, rfl⟩ := (show ∃ k, u = Value.int i k from ry); exact PySem.W.Looks.of_pure rfl
    | str z => obtain ⟨k, rfl⟩ := (show ∃ k, u = Value.str z k from ry); exact PySem.W.Looks.of_pure rfl
  refine PySem.W.cmp_K (op := .Eq) (tb := t) hr.units0 hF I.ok.mod.kin J hl hn hs hf ?_
  refine wpAny_mono (run_fn (us := [.ref a, u]) (vs := [.ref a, y]) (ds := []) (dvs := []) F hr hb .nil hx I (.cons rfl (.cons ry .nil)) (by rw [List.append_nil]; exact q)) (fun w s' z => ?_) fun _ _ x => x
  obtain ⟨z', H', I', rz, qz⟩ := z
  exact SlX.cmpback rz ⟨z', H', I', rz, qz⟩
theorem op_oeqP {X : Cx} {k j : Nat} {C : Addr} {sp : Sp} (c : OEq X.prog X.w X.K X.mg X.base k C sp) (hr : Room j X.A) (hk : k ≤ j) : OpR X (compareOp .Eq) (rOwnP X.K C sp L2.E0) := by
  obtain ⟨f, hs, hf, fd, ps, F, b⟩ := c.ex
  exact op_ownP F hs hf b (hr.mono hk) L2.pass0
section
variable {K : PySem.W.Frag} {F B B1 H H1 : Hp} {as as1 : List Addr} {G : List (Option Sl)} {M M1 M2 : List MO} {ta tb tv : TE} {tr tk : TA} {C : Addr} {fs gs : Fs} {E : XK}
theorem ro_ownP {R : List Sl → List MO → Sl → List MO → Prop} {z y : Dt} {t : Value} (ht : ∀ B v, Rp K B y v → PlV v t) (hn : PySem.W.notFirst K C t = true) (hR : R [.d (insD C fs), .d y] [] (.d z) []) : RO K (rOwnP K C (SpR K 2 R) E) (insD C fs) y z := fun F B as M H v u Q ow rv ru q => by
  obtain ⟨a, dx, rfl, ea⟩ := rp_ins (K := K) rv
  refine ⟨a, dx, fs, t, rfl, ow.bb _ _ ea, ht B u ru, hn, ?_⟩
  exact call_core (ds := [insD C fs, y]) hR rfl ow ⟨_, _, rfl, rv, _, _, rfl, ru, rfl⟩ fun w B' as' H' g o' r' => by
    obtain ⟨g2, o2⟩ := back0 ow g o'
    exact q w B' H' g2 o2 r'
/-! ### C(..) at large: what stands behind the new object -/
theorem made_own {x dx : Addr} (o1 : Ow K F B1 as1 M1 H1) (hx : H1 x = none) (hdx : H1 dx = none) (ne : dx ≠ x) :
    Ow K F (upd B1 dx (.own x)) as1 M1 (upd H1 dx (.own x)) ∧ Gr F B1 (upd B1 dx (.own x)) ∧ F x = none ∧ (upd H1 dx (.own x)) x = none ∧ Ow K (upd H1 dx (.own x)) (upd B1 dx (.own x)) [x] [insM C []] (upd (upd H1 dx (.own x)) x (.ins C dx [])) := by
  have od := o1.new hdx (.own x)
  have gd := o1.gr hdx (.own x)
  have hx1 : (upd H1 dx (.own x)) x = none := by rw [upd_ne (Ne.symm ne)]; exact hx
  have bx : (upd B1 dx (.own x)) x = none := od.bb.free hx1
  refine ⟨od, gd, od.fb.free hx1, hx1, ⟨fun b u e => ?_, fun b u e => ?_, rfl, by simp, fun b hb => ?_, fun b hb => ?_, fun j b m e1 e2 hm => ?_⟩⟩
  · rw [upd_ne (ne_of_none e hx1)]; exact e
  · rw [upd_ne (ne_of_none e bx)]; exact od.bb b u e
  · obtain rfl : b = x := by simpa using hb
    rw [upd_same]; exact fun z => nomatch z
  · obtain rfl : b = x := by simpa using hb
    exact hx1
  · cases j with
    | zero =>
      obtain rfl : x = b := Option.some.inj e1
      obtain rfl : insM C [] = m := Option.some.inj e2
      exact ⟨hx1, bx, _, upd_same, (by intro vs z; cases z), fun B' _ => ⟨dx, rfl⟩⟩
    | succ j => simp at e1
/-- C(k = v, ..) -/
theorem ev_makeK {n m : Nat} {R : List Sl → List MO → Sl → List MO → Prop} {ds es : List Dt} {gV : List V → List V → List V} (h : EvA K tk G M (ds.map Sl.d) M1) (hm : ds.length = m)
    (hg : ∀ x zs B, RpL K B ds zs → ∃ rs, gV [x] zs = x :: rs ∧ RpL K B es rs) (hR : R (.o 0 :: es.map Sl.d) [insM C []] (.d .non) [insM C fs]) (hn : es.length + 1 = n) :
    EvE K (tMakeK C 0 m (SpR K n R) gV E tNil tk) G M (.d (insD C fs)) M1 := fun F B as σ H ow sl Q q =>
  h F B as σ H ow sl _ fun zs B1 as1 H1 g1 p1 o1 r1 => ⟨rfl, by rw [r1.len, List.length_map]; exact hm, fun x dx hx hdx ne => by
    obtain ⟨od, gd, fx, hx1, oc⟩ := made_own (C := C) o1 hx hdx ne
    obtain ⟨rs, e, hr⟩ := hg (.ref x) zs B1 (SlL.data r1)
    rw [e]
    refine ⟨_, _, [x], .o 0 :: es.map Sl.d, [insM C []], .d .non, [insM C fs], hR, oc, ⟨.ref x, rs, rfl, ⟨x, rfl, rfl⟩, SlL.of_data (RpL.mono gd.1 _ _ hr)⟩, ?_, fun v B' as' H' g p o' r' => ⟨r', ?_⟩⟩
    · rw [List.length_cons, hr.len]; exact hn
    · obtain ⟨tl, rfl⟩ := p
      obtain ⟨f0, b0, o, ho, nt, φ⟩ := o'.own 0 x _ rfl rfl (fun z => nomatch z)
      obtain ⟨dx', rfl⟩ := φ B' (Same.refl B')
      obtain ⟨g2, o2⟩ := back0 od g o'
      obtain ⟨g3, o3⟩ := Ow_know o2 ho b0 fx (fun hm => od.al x hm hx1)
      exact q _ _ as1 H' (g1.trans (gd.trans (g2.trans g3))) p1 o3 (rp_ins_of (K := K) upd_same)⟩
end
/-! ### C(..), where __init__ may raise -/
def tMakeSD (C : Addr) (sp : Sp) (E : L2.St → XK) (t : TA) : TE := fun σ H Q => t σ H fun vs H1 => ∀ x dx, H1 x = none → H1 dx = none → dx ≠ x →
  sp (.ref x :: vs) (upd (upd H1 dx (.own x)) x (.ins C dx [])) (fun v H2 => v = .non ∧ Q (.ref x) H2) (E σ)
section
variable {X : Cx} {CX : CXT} {k : Nat} {f C : Addr} {fd : FuncData} {ps : List Str} {sp : Sp} {E : L2.St → XK} {x : Str} {p pos : Pos} {e : Expr} {es : List Expr} {t : TA}
theorem run_makeSD {pins : List (Addr × Obj)} {σ : L2.St} {H : Hp} {s : Shared} {Q : VK} {us : List Value} {vs : List V} (M : Mk X.K C f) (F : FnOk X.prog X.w X.K X.mg X.base CX k f fd ps sp) (hr : Room (k + 1) X.A) (hb : Binds X.K fd ps [])
    (hx : PassesAt CX X σ (E σ)) (I : Inv X pins σ H s) (r : Vals vs us)
    (h : ∀ x dx, H x = none → H dx = none → dx ≠ x → sp (.ref x :: vs) (upd (upd H dx (.own x)) x (.ins C dx [])) (fun v H2 => v = .non ∧ Q (.ref x) H2) (E σ)) :
    wpAny (model X.prog X.w) X.A (call (.ref C) us) (EP X pins σ Q) X.xe s := by
  have hq := h (s.heap.objs.size + 1) s.heap.objs.size (I.hok.fresh (Nat.le_succ _)) (I.hok.fresh (Nat.le_refl _)) (Nat.ne_of_lt (Nat.lt_succ_self _))
  have I2 := Inv.made (C := C) I
  have r2 : Vals (V.ref (s.heap.objs.size + 1) :: vs) (Value.ref (s.heap.objs.size + 1) :: us) := .cons rfl r
  have hl : (Value.ref (s.heap.objs.size + 1) :: us).length = ps.length := by
    have e := r2.length
    rw [F.len _ _ _ _ hq] at e
    exact e.symm
  refine wpAny_call (make_map (f := f) I.kIn M.makes M.init (beq_iff_eq.mp M.fn) (codeAny_mono (F.run _ X.stack _ _ ⟨Value.ref (s.heap.objs.size + 1) :: us, []⟩ (Value.ref (s.heap.objs.size + 1) :: us) _ _ (E σ) (hr.make C us [])
    (I2.env0.make C us []) (by
      have := hb _ (Value.ref (s.heap.objs.size + 1) :: us) I2.kIn (by rw [List.append_nil]; exact hl)
      rw [List.append_nil] at this
      exact this) r2 hq) fun r s' hq' => ?_))
  cases r with
  | error e => exact hx pins _ _ e s' I2 hq'
  | ok fl =>
    cases fl with
    | ret u =>
      obtain ⟨v, H', I3, rv, ev, q3⟩ := I2.after hq'
      subst ev
      exact ⟨rv, ⟨V.ref (s.heap.objs.size + 1), H', I3, rfl, q3⟩⟩
    | next => exact False.elim hq'
    | brk => exact False.elim hq'
    | cont => exact False.elim hq'
theorem pe_makeSD (M : Mk X.K C f) (F : FnOk X.prog X.w X.K X.mg X.base CX k f fd ps sp) (hr : Room (k + 1) X.A) (hg : Gl X x) (hm : X.mg x = some (.ref C)) (hb : Binds X.K fd ps []) (hx : ∀ σ, PassesAt CX X σ (E σ))
    (ha : PA X (e :: es) t) (hdb : (x == ("__debug__" : Str)) = false := by decide) (he : starEach (e :: es) X.env = (false, eval e X.env) :: starEach es X.env := by rfl) (hpl : (backTo pos (starEach es X.env)).any (·.1) = false := by rfl) :
    PE X (.Call (.Name x p) (e :: es) [] pos) (tMakeSD C sp E t) := by
  refine ⟨fun pins s σ H Q I h => ?_⟩
  refine wpAny_Call_Name_kw (ld_glob I hg hm ?_ hdb)
  refine PySem.W.callWith_K (h₀ := X.base) I.ok.mod.kin M.kp (thn (ha.run pos pins s σ H _ I h) fun us s1 ⟨vs, H1, I1, r, q⟩ => ⟨I1.kIn, ?_⟩) he hpl
  exact run_makeSD M F hr hb (hx σ) I1 r q
end
section
variable {K : PySem.W.Frag} {G : List (Option Sl)} {M M1 : List MO} {tr : TA} {C : Addr} {fs : Fs} {E : L2.St → XK} {W : WX} {x' : Ex} {n : Nat} {R : List Sl → List MO → Sl → List MO → Prop} {RX : List Sl → List MO → Ex → List MO → Prop} {ds : List Dt}
theorem ev_makeX (h : EvA K tr G M (ds.map Sl.d) M1) (hR : R (.o 0 :: ds.map Sl.d) [insM C []] (.d .non) [insM C fs]) (hn : ds.length + 1 = n) :
    EvE K (tMakeSD C (SpX K n R RX) E tr) G M (.d (insD C fs)) M1 := fun F B as σ H ow sl Q q =>
  h F B as σ H ow sl _ fun vs B1 as1 H1 g1 p1 o1 r1 => fun x dx hx hdx ne => by
    obtain ⟨od, gd, fx, hx1, oc⟩ := made_own (C := C) o1 hx hdx ne
    refine ⟨_, _, [x], .o 0 :: ds.map Sl.d, [insM C []], oc, ⟨.ref x, vs, rfl, ⟨x, rfl, rfl⟩, SlL.of_data (RpL.mono gd.1 _ _ (SlL.data r1))⟩, by rw [List.length_cons, r1.len, List.length_map]; exact hn, .inl ⟨.d .non, [insM C fs], hR, fun v B' as' H' g p o' r' => ⟨r', ?_⟩⟩⟩
    obtain ⟨tl, rfl⟩ := p
    obtain ⟨f0, b0, o, ho, nt, φ⟩ := o'.own 0 x _ rfl rfl (fun z => nomatch z)
    obtain ⟨dx', rfl⟩ := φ B' (Same.refl B')
    obtain ⟨g2, o2⟩ := back0 od g o'
    obtain ⟨g3, o3⟩ := Ow_know o2 ho b0 fx (fun hm => od.al x hm hx1)
    exact q _ _ as1 H' (g1.trans (gd.trans (g2.trans g3))) p1 o3 (rp_ins_of (K := K) upd_same)
theorem ex_makeX {N : List MO} (h : EvA K tr G M (ds.map Sl.d) M1) (hR : RX (.o 0 :: ds.map Sl.d) [insM C []] x' N) (hn : ds.length + 1 = n) :
    EvX K (tMakeSD C (SpX K n R RX) (WE W) tr) W G M x' M1 := fun F B as σ H ow sl q Q =>
  h F B as σ H ow sl _ fun vs B1 as1 H1 g1 p1 o1 r1 => fun x dx hx hdx ne => by
    obtain ⟨od, gd, fx, hx1, oc⟩ := made_own (C := C) o1 hx hdx ne
    refine ⟨_, _, [x], .o 0 :: ds.map Sl.d, [insM C []], oc, ⟨.ref x, vs, rfl, ⟨x, rfl, rfl⟩, SlL.of_data (RpL.mono gd.1 _ _ (SlL.data r1))⟩, by rw [List.length_cons, r1.len, List.length_map]; exact hn, .inr ⟨x', N, hR, fun cls d B' as' H' g p o' r' => ?_⟩⟩
    obtain ⟨g2, o2⟩ := back0 od g o'
    exact q B' as1 H' cls d (g1.trans (gd.trans g2)) p1 o2 r'
end
end LJ
namespace DJ
open PySem PySem.Spec PyProof.Rows L2
section
variable {K : PySem.W.Frag} {G G1 G2 : List (Option Sl)} {M M1 M2 : List MO} {ta tb te : TE} {tt : TT} {W : WX} {x : Ex}
/-- a text, or another one in the place of none -/
theorem ev_orS {l m : List Nat} (h1 : EvE K ta G M (.d (.str l)) M1) (hl : l.length ≤ 1000000) (h2 : l = [] → EvE K tb G M1 (.d (.str m)) M1) : EvE K (tOrT K ta tb) G M (.d (.str (if l = [] then m else l))) M1 := fun F B as σ H o sl Q q =>
  h1 F B as σ H o sl _ fun v B1 as1 H1 g1 p1 o1 r1 => by
    have r1 : v = .str (tx l) := r1
    subst r1
    have e1 : (tx l).length = l.length := by simp [Str.length]
    refine ⟨!decide (l = []), ⟨by rw [e1, sizeLine_eq]; omega, ?_⟩, ?_⟩
    · show _ = (((tx l).length : Int) != 0)
      rw [e1]
      cases l with
      | nil => rfl
      | cons a r => simp; omega
    · by_cases z : l = []
      · rw [decide_eq_true z, if_neg (by simp)]
        rw [if_pos z] at q
        exact h2 z F B1 as1 σ H1 o1 (sl.mono g1.1 p1) _ fun w B2 as2 H2 g2 p2 o2 r2 => q w B2 as2 H2 (g1.trans g2) (p1.trans p2) o2 r2
      · rw [decide_eq_false z, if_pos (by simp)]
        rw [if_neg z] at q
        exact q _ B1 as1 H1 g1 p1 o1 rfl
/-- a text of a module's dict -/
theorem ro_kd {w : World} {d : Addr} {k z : List Nat} (h : KDct K w d (tx k) (.str (tx z))) : RO K (rIxD K w) (.raw (.ref d)) (.str k) (.str z) := fun F B as M H v u Q ow r1 r2 q => by
  have r1 : v = .ref d := r1
  have r2 : u = .str (tx k) := r2
  subst r1; subst r2
  exact ⟨d, tx k, _, rfl, rfl, h, q _ B H (Gr.refl F B) ow rfl⟩
/-- a while that raises in one of its turns -/
theorem er_while {α : Type} {tb : TS} (enc : α → List (Option Sl)) (encM : α → List MO) (P : α → Prop) (μ : α → Nat) (a0 : α) (hp : P a0) (h0 : Lg G (enc a0)) (hM : M = encM a0)
    (test : ∀ a, P a → EvT K tt (enc a) (encM a) true (encM a))
    (turn : ∀ a, P a → (∃ a', P a' ∧ μ a' < μ a ∧ EvS K tb (enc a) (encM a) (.nx (enc a') (encM a'))) ∨ EvR K tb W (enc a) (encM a) x G2 M2) :
    EvR K (tWhile tt tb) W G M x G2 M2 := fun F B as σ H ow sl q D => by
  subst hM
  refine ⟨fun m σ' H' => ∃ B' as' a, m = μ a ∧ P a ∧ Gr F B B' ∧ Px as as' ∧ Ow K F B' as' (encM a) H' ∧ Slt K B' as' (enc a) σ', ⟨μ a0, B, as, a0, rfl, hp, Gr.refl F B, Px.refl as, ow, sl.weak h0⟩, fun m σ' H' z => ?_⟩
  obtain ⟨B1, as1, a, rfl, pa, g1, p1, o1, s1⟩ := z
  refine test a pa F B1 as1 σ' H' o1 s1 _ fun B2 as2 H2 g2 p2 o2 => ?_
  rw [if_pos rfl]
  have gg := g1.trans g2
  have pp := p1.trans p2
  refine ⟨fun σ3 H3 => ∃ B' as' a', P a' ∧ μ a' < μ a ∧ Gr F B B' ∧ Px as as' ∧ Ow K F B' as' (encM a') H3 ∧ Slt K B' as' (enc a') σ3, fun σ3 H3 n3 => ?_, ?_⟩
  · obtain ⟨B3, as3, a', pa', lt, q1, q2, q3, q4⟩ := n3
    exact ⟨μ a', lt, B3, as3, a', rfl, pa', q1, q2, q3, q4⟩
  · rcases turn a pa with ⟨a', pa', lt, ht⟩ | ht
    · exact ht F B2 as2 σ' H2 o2 (s1.mono g2.1 p2) _ fun B4 as4 σ4 H4 g4 p4 o4 s4 => ⟨B4, as4, a', pa', lt, gg.trans g4, pp.trans p4, o4, s4⟩
    · exact ht F B2 as2 σ' H2 o2 (s1.mono g2.1 p2) (fun B' as' σ4 H4 cls d g4 p4 o4 s4 r4 => q B' as' σ4 H4 cls d (gg.trans g4) (pp.trans p4) o4 s4 r4) _
/-- name op= e, of integers -/
theorem es_augI {i : Nat} {a b : Int} {f : Int → Int → Int} (hi : G[i]? = some (some (.d (.int a)))) (h : EvE K te G M (.d (.int b)) M1) : EvS K (tAug i te (ipI f)) G M (.nx (G.set i (some (.d (.int (f a b))))) M1) := fun F B as σ H ow sl D gd => by
  obtain ⟨v, e, r⟩ := sl.2 i _ hi
  have r : v = .int a := r
  subst r
  refine ⟨_, e, h F B as σ H ow sl _ fun v B' as' H' g p o' r => ?_⟩
  have r : v = .int b := r
  subst r
  exact ⟨a, b, rfl, rfl, gd B' as' _ H' g p o' ((sl.mono g.1 p).set i rfl)⟩
/-- a while that is passed -/
theorem es_while_no {tb : TS} (h : EvT K tt G M false M) : EvS K (tWhile tt tb) G M (.nx G M) :=
  es_while (α := Unit) (fun _ => G) (fun _ => M) (fun _ => True) (fun _ => false) (fun _ => .inl ()) (fun _ => 0) (fun _ => .inl ()) () trivial (fun _ _ => rfl) (Lg.refl G) rfl (fun _ _ => h) (fun _ _ h => nomatch h)
theorem Ow.letgo {F B H : Hp} {as : List Addr} (h : Ow K F B as M H) (k : Nat) : Ow K F B as (M.set k .gone) H := by
  refine ⟨h.fb, h.bb, by rw [List.length_set]; exact h.len, h.nd, h.al, h.fa, fun j c n q1 q2 hn => ?_⟩
  by_cases z : k = j
  · subst z
    by_cases hl : k < M.length
    · rw [List.getElem?_set_self hl] at q2
      exact absurd (Option.some.inj q2).symm hn
    · rw [List.getElem?_eq_none (by rw [List.length_set]; omega)] at q2
      cases q2
  · rw [List.getElem?_set_ne z] at q2
    exact h.own j c n q1 q2 hn
theorem er_gone {t : TS} (k : Nat) (h : EvR K t W G M x G1 M1) : EvR K t W G M x G1 (M1.set k .gone) := fun F B as σ H ow sl q D =>
  h F B as σ H ow sl (fun B' as' σ' H' cls d g p o' s' r => q B' as' σ' H' cls d g p (o'.letgo k) s' r) D
theorem er_nM {t : TS} {M' : List MO} (e : M = M') (h : EvR K t W G M' x G1 M1) : EvR K t W G M x G1 M1 := e ▸ h
theorem es_whileO {α : Type} {tb : TS} {o : Out} (enc : α → List (Option Sl)) (encM : α → List MO) (P : α → Prop) (c : α → Bool) (f : α → α ⊕ Out) (μ : α → Nat) (w : α → α ⊕ Out) (a0 : α) (he : outF enc encM (w a0) = o) (hp : P a0)
    (hw : ∀ a, P a → w a = if c a = true then (match f a with | .inl a' => w a' | .inr o => .inr o) else .inl a)
    (h0 : Lg G (enc a0)) (hM : M = encM a0) (test : ∀ a, P a → EvT K tt (enc a) (encM a) (c a) (encM a))
    (turn : ∀ a, P a → c a = true → Turns K enc encM tb (enc a) (encM a) (f a) ∧ ∀ a', f a = .inl a' → P a' ∧ μ a' < μ a) :
    EvS K (tWhile tt tb) G M o := he ▸ es_while enc encM P c f μ w a0 hp hw h0 hM test turn
end
theorem es_forNn {K : PySem.W.Frag} {G : List (Option Sl)} {M : List MO} {β : Type} {wi : TI} {g : TG} {tb : TS} (xs : List β) (n : Nat) (hn : xs.length = n) (en : β → Dt) (Gn : Nat → List (Option Sl)) (Mn : Nat → List MO) (hI : EvI K wi G M (xs.map en) (Mn 0)) (h0 : Lg G (Gn 0))
    (turn : ∀ (i : Nat) (x : β), i < n → xs[i]? = some x → ∃ G1, EvG K g (Gn i) (.d (en x)) G1 ∧ EvS K tb G1 (Mn i) (.nx (Gn (i + 1)) (Mn (i + 1)))) : EvS K (tFor wi g tb) G M (.nx (Gn n) (Mn n)) := by
  subst hn
  exact es_forN xs en Gn Mn hI h0 fun i x hx => by
    obtain ⟨G1, h1, h2⟩ := turn i x (List.getElem?_eq_some_iff.mp hx).1 hx
    exact ⟨G1, h1, .inl h2⟩
theorem gc_ref {K : PySem.W.Frag} {h : Heap} {mg : Str → Option Value} {x : Str} {a : Addr} (X : K.In h) (G : h.Ns mainGlobals mg) (e : PySem.W.nsIn K mainGlobals x = some (some (.ref a))) : Gc K mg x (.raw (.ref a)) := ⟨.ref a, _, PySem.W.mg_of X G e, rfl, fun _ => rfl⟩
end DJ
namespace DJ
open PySem PySem.Spec PyProof.Rows L2
/-! ### a dict of the module, texts to texts: all its keys are told -/
abbrev Kvs := List (List Nat × List Nat)
def getK : Kvs → List Nat → Option (List Nat)
  | [], _ => none
  | (k, v) :: r, z => if k = z then some v else getK r z
def entsOf : Kvs → List DictEntry → Bool
  | [], [] => true
  | (k, v) :: r, e :: es => (match e.key, e.val with
    | .str x _, .str y _ => decide (x = tx k) && decide (y = tx v)
    | _, _ => false) && entsOf r es
  | _, _ => false
structure TDict (K : PySem.W.Frag) (w : World) (d : Addr) (kvs : Kvs) (es : Array DictEntry) (n : Nat) : Prop where
  kd : KDict K w d es n
  ents : entsOf kvs es.toList = true
theorem isStr_tx (x : Str) (t : Tok) (z : Str) : (Value.str x t).isStr z = (x == z) := rfl
theorem find_ents : ∀ {kvs : Kvs} {l : List DictEntry}, entsOf kvs l = true → ∀ z, match getK kvs z with
    | some v => ∃ e t, l.find? (·.key.isStr (tx z)) = some e ∧ e.val = .str (tx v) t
    | none => l.find? (·.key.isStr (tx z)) = none ∧ l.any (·.refKey) = false
  | [], [], _, z => ⟨rfl, rfl⟩
  | [], _ :: _, h, z => by cases h
  | _ :: _, [], h, z => by cases h
  | (k, v) :: r, e :: es, h, z => by
    obtain ⟨hs, key, val⟩ := e
    unfold entsOf at h
    rw [Bool.and_eq_true] at h
    obtain ⟨h1, h2⟩ := h
    have ih := find_ents h2 z
    cases key <;> try (exact absurd h1 Bool.false_ne_true)
    rename_i x t
    cases val <;> try (exact absurd h1 Bool.false_ne_true)
    rename_i y u
    simp only [Bool.and_eq_true, decide_eq_true_eq] at h1
    obtain ⟨rfl, rfl⟩ := h1
    unfold getK
    by_cases q : k = z
    · subst q
      rw [if_pos rfl]
      exact ⟨_, u, List.find?_cons_of_pos (by rw [isStr_tx]; exact beq_self_eq_true _), rfl⟩
    · rw [if_neg q]
      have hn : ¬ (Value.str (tx k) t).isStr (tx z) = true := by
        rw [isStr_tx]
        intro e
        exact q (tx_inj (eq_of_beq e))
      have e1 : ∀ (o : DictEntry), o.key = .str (tx k) t → (o :: es).find? (·.key.isStr (tx z)) = es.find? (·.key.isStr (tx z)) := fun o ho => List.find?_cons_of_neg (by rw [ho]; exact hn)
      rw [e1 _ rfl]
      cases hg : getK r z with
      | some v' => rw [hg] at ih; exact ih
      | none =>
        rw [hg] at ih
        refine ⟨ih.1, ?_⟩
        rw [List.any_cons, ih.2] <;> rfl
section
variable {K : PySem.W.Frag} {w : World} {d : Addr} {kvs : Kvs} {es : Array DictEntry} {n : Nat}
theorem TDict.hit (D : TDict K w d kvs es n) {z v : List Nat} (h : getK kvs z = some v) : KDct K w d (tx z) (.str (tx v)) := by
  have := find_ents D.ents z
  rw [h] at this
  obtain ⟨e, t, h1, h2⟩ := this
  refine ⟨es, n, .str (tx v) t, D.kd.at_, D.kd.lit, ?_, ⟨t, rfl⟩⟩
  unfold PySem.W.nsIn
  rw [D.kd.at_]
  show (match es.toList.find? (·.key.isStr (tx z)) with | some e => some (some e.val) | none => if es.toList.any (·.refKey) then none else some none) = _
  rw [h1]
  show some (some e.val) = _
  rw [h2]
theorem TDict.ns (D : TDict K w d kvs es n) (z : List Nat) : ∃ r, PySem.W.nsIn K d (tx z) = some r ∧ r.isSome = (getK kvs z).isSome := by
  have := find_ents D.ents z
  unfold PySem.W.nsIn
  rw [D.kd.at_]
  show ∃ r, (match es.toList.find? (·.key.isStr (tx z)) with | some e => some (some e.val) | none => if es.toList.any (·.refKey) then none else some none) = some r ∧ _
  cases h : getK kvs z with
  | some v =>
    rw [h] at this
    obtain ⟨e, t, h1, h2⟩ := this
    rw [h1]
    exact ⟨_, rfl, rfl⟩
  | none =>
    rw [h] at this
    rw [this.1, this.2]
    exact ⟨none, rfl, rfl⟩
theorem ro_inKd (D : TDict K w d kvs es n) {z : List Nat} : RO K (fun x y H Q => ∃ (z : Str) (r : Option Value), x = .str z ∧ y = .ref d ∧ PySem.W.nsIn K d z = some r ∧ Q (.bl r.isSome) H) (.str z) (.raw (.ref d)) (.bl (getK kvs z).isSome) := fun F B as M H v u Q ow r1 r2 q => by
  have r1 : v = .str (tx z) := r1
  have r2 : u = .ref d := r2
  subst r1; subst r2
  obtain ⟨r, h1, h2⟩ := D.ns z
  exact ⟨tx z, r, rfl, rfl, h1, q _ B H (Gr.refl F B) ow (by rw [h2] <;> rfl)⟩
end
end DJ
/-! ### text.find(one sign, place) -/
namespace DJ
open PySem PySem.Spec PyProof.Rows L2
theorem occ_full (s y : Str) (hi : Nat) : ∀ (l : List Nat) (st : Array Nat × Nat), st.1.size = 1 → (forIn l st (StrLaws.occBody s y hi 1)).run.1 = st.1
  | [], st, _ => rfl
  | a :: l, st, h => by
    rw [List.forIn_cons]
    unfold StrLaws.occBody
    rw [if_neg (fun z => by have := z.1.1.1; omega)]
    exact occ_full s y hi l _ h
theorem occ_first (s y : Str) (hi : Nat) : ∀ (m cur free : Nat), free ≤ cur → ∀ i, cur ≤ i → i < cur + m → i + y.length ≤ hi → Builtin.Str.subAt s y i = true → (∀ k, cur ≤ k → k < i → Builtin.Str.subAt s y k = false) →
    (forIn (List.range' cur m) ((#[] : Array Nat), free) (StrLaws.occBody s y hi 1)).run.1.toList = [i]
  | 0, cur, free, _, i, h1, h2, _, _, _ => by omega
  | m + 1, cur, free, hf, i, h1, h2, h3, h4, h5 => by
    rw [List.range'_succ, List.forIn_cons]
    unfold StrLaws.occBody
    by_cases e : cur = i
    · subst e
      rw [if_pos ⟨⟨⟨by simp, hf⟩, h3⟩, h4⟩]
      have := occ_full s y hi (List.range' (cur + 1) m) ((#[] : Array Nat).push cur, cur + y.length) rfl
      show (forIn (List.range' (cur + 1) m) ((#[] : Array Nat).push cur, cur + y.length) (StrLaws.occBody s y hi 1)).run.1.toList = _
      rw [this] <;> rfl
    · rw [if_neg (fun z => by have := h5 cur (Nat.le_refl _) (by omega); rw [this] at z; exact absurd z.2 (by decide))]
      exact occ_first s y hi m (cur + 1) free (by omega) i (by omega) (by omega) h3 h4 (fun k k1 k2 => h5 k (by omega) k2)
theorem find3_tx {t l r : List Nat} {c p : Nat} (h : t.drop p = l ++ c :: r) (hn : c ∉ l) : Txt.find3 (tx t) (tx [c]) (p : Int) = ((p + l.length : Nat) : Int) := by
  have hp : p + (l.length + (r.length + 1)) = t.length := by
    have := congrArg List.length h
    rw [List.length_drop, List.length_append, List.length_cons] at this
    omega
  have hf : PySem.fromIndex (tx t).length (p : Int) = p := by
    unfold PySem.fromIndex
    rw [if_neg (by omega)]
    omega
  have ge : ∀ i, p ≤ i → Builtin.Str.subAt (tx t) (tx [c]) i = (((l ++ c :: r).drop (i - p)).take 1 == [c]) := fun i hi => by
    rw [sub_tl, ← h, List.drop_drop]
    have : p + (i - p) = i := by omega
    rw [this] <;> rfl
  unfold Txt.find3
  rw [hf, StrLaws.occ_eq, tx_len]
  rw [occ_first (tx t) (tx [c]) t.length (t.length + 1 - p) p p (Nat.le_refl _) (p + l.length) (by omega) (by omega) (by rw [tx_len]; show p + l.length + 1 ≤ _; omega) ?_ ?_]
  · rw [ge _ (by omega), Nat.add_sub_cancel_left, List.drop_left]
    exact beq_self_eq_true _
  · intro k k1 k2
    rw [ge k k1]
    have hk : k - p < l.length := by omega
    rw [List.drop_append_of_le_length (by omega)]
    refine beq_eq_false_iff_ne.mpr fun z => hn ?_
    rw [List.drop_eq_getElem_cons hk, List.cons_append, List.take_succ_cons] at z
    have z : l[k - p] = c := (List.cons.inj z).1
    rw [← z]
    exact List.getElem_mem hk
theorem rm_find3 {K : PySem.W.Frag} {t l r : List Nat} {c p : Nat} (h : t.drop p = l ++ c :: r) (hn : c ∉ l) : RM K (fun x xs H Q => ∃ (a b : Str) (i : Int), x = .str a ∧ xs = [.str b, .int i] ∧ Q (.int (Txt.find3 a b i)) H) (.str t) [.str [c], .int (p : Int)] (.int ((p + l.length : Nat) : Int)) := fun F B as M H v vs Q ow r1 r2 q => by
  obtain ⟨v1, rr, e, h1, v2, rr2, e2, h2, h3⟩ := r2
  obtain rfl : v = V.str (tx t) := r1
  obtain rfl : v1 = V.str (tx [c]) := h1
  obtain rfl : v2 = V.int (p : Int) := h2
  obtain rfl : rr2 = [] := h3
  subst e2; subst e
  refine ⟨tx t, tx [c], (p : Int), rfl, rfl, ?_⟩
  rw [find3_tx h hn]
  exact q _ B H (Gr.refl F B) ow rfl
/-- a while whose test changes what is owned -/
theorem es_whileT {K : PySem.W.Frag} {G : List (Option Sl)} {M : List MO} {tt : TT} {o : Out} {α : Type} {tb : TS} (enc : α → List (Option Sl)) (encM encT : α → List MO) (P : α → Prop) (c : α → Bool) (f : α → α ⊕ Out) (μ : α → Nat) (w : α → α ⊕ Out) (a0 : α) (he : outF enc encM (w a0) = o) (hp : P a0)
    (hw : ∀ a, P a → w a = if c a = true then (match f a with | .inl a' => w a' | .inr o => .inr o) else .inl a)
    (h0 : Lg G (enc a0)) (hM : M = encM a0) (hT : ∀ a, P a → c a = false → encT a = encM a) (test : ∀ a, P a → EvT K tt (enc a) (encM a) (c a) (encT a))
    (turn : ∀ a, P a → c a = true → Turns K enc encM tb (enc a) (encT a) (f a) ∧ ∀ a', f a = .inl a' → P a' ∧ μ a' < μ a) :
    EvS K (tWhile tt tb) G M o := fun F B as σ H ow sl D gd => by
  subst hM
  subst he
  refine ⟨fun m σ' H' => ∃ B' as' a, m = μ a ∧ P a ∧ w a = w a0 ∧ Gr F B B' ∧ Px as as' ∧ Ow K F B' as' (encM a) H' ∧ Slt K B' as' (enc a) σ', ⟨μ a0, B, as, a0, rfl, hp, rfl, Gr.refl F B, Px.refl as, ow, sl.weak h0⟩, fun m σ' H' q => ?_⟩
  obtain ⟨B1, as1, a, rfl, pa, wa, g1, p1, o1, s1⟩ := q
  refine test a pa F B1 as1 σ' H' o1 s1 _ fun B2 as2 H2 g2 p2 o2 => ?_
  have hwa := hw a pa
  cases ec : c a with
  | false =>
    rw [ec] at hwa
    rw [if_neg Bool.false_ne_true] at hwa ⊢
    rw [← wa, hwa] at gd
    rw [hT a pa ec] at o2
    exact gd B2 as2 σ' H2 (g1.trans g2) (p1.trans p2) o2 (s1.mono g2.1 p2)
  | true =>
    rw [ec] at hwa
    rw [if_pos rfl] at hwa ⊢
    obtain ⟨ht, hd⟩ := turn a pa ec
    refine ⟨fun σ3 H3 => ∃ B' as' a', f a = .inl a' ∧ Gr F B B' ∧ Px as as' ∧ Ow K F B' as' (encM a') H3 ∧ Slt K B' as' (enc a') σ3, fun σ3 H3 n3 => ?_, ?_⟩
    · obtain ⟨B3, as3, a', e, q1, q2, q3, q4⟩ := n3
      obtain ⟨pa', lt⟩ := hd a' e
      rw [e] at hwa
      exact ⟨μ a', lt, B3, as3, a', rfl, pa', hwa.symm.trans wa, q1, q2, q3, q4⟩
    · have gg := g1.trans g2
      have pp := p1.trans p2
      cases e : f a with
      | inl a' =>
        rw [e] at ht
        rcases ht with ht | ht
        · exact ht F B2 as2 σ' H2 o2 (s1.mono g2.1 p2) _ fun B4 as4 σ4 H4 g4 p4 o4 s4 => ⟨B4, as4, a', rfl, gg.trans g4, pp.trans p4, o4, s4⟩
        · exact ht F B2 as2 σ' H2 o2 (s1.mono g2.1 p2) _ fun B4 as4 σ4 H4 g4 p4 o4 s4 => ⟨B4, as4, a', rfl, gg.trans g4, pp.trans p4, o4, s4⟩
      | inr o =>
        rw [e] at ht hwa
        rw [← wa, hwa] at gd
        cases o with
        | nx G' M' => exact ht F B2 as2 σ' H2 o2 (s1.mono g2.1 p2) _ fun B4 as4 σ4 H4 g4 p4 o4 s4 => gd B4 as4 σ4 H4 (gg.trans g4) (pp.trans p4) o4 s4
        | rt r M' => exact ht F B2 as2 σ' H2 o2 (s1.mono g2.1 p2) _ fun v B4 as4 H4 g4 p4 o4 s4 => gd v B4 as4 H4 (gg.trans g4) (pp.trans p4) o4 s4
        | bk _ _ => exact ht.elim
        | ct _ _ => exact ht.elim
/-- text.m(a, b) -/
def tM2 (r : V → List V → Hp → VK → Prop) (to te tf : TE) : TE := fun σ H Q => to σ H fun x H1 => (∃ a, x = .str a) ∧ te σ H1 fun y H2 => tf σ H2 fun z H3 => r x [y, z] H3 Q
theorem pe_m2 {X : Cx} {o e e' : Expr} {to te tf : TE} {id : String} {name : Str} {apos pos : Pos} {r : V → List V → Hp → VK → Prop} (slot : PySem.Slot "str" name id) (ty : typeOf (.builtin id) = pure (.type "method_descriptor")) (rule : MtR X id r) (ho : PE X o to) (he : PE X e te) (hf : PE X e' tf)
    (hs : starEach [e, e'] X.env = [(false, eval e X.env), (false, eval e' X.env)] := by rfl) (hbase : attributeBase o name X.env (eval o X.env) = eval o X.env := by rfl) (hline : (apos.endLine == pos.line) = true := by rfl) :
    PE X (.Call (.Attribute o name apos) [e, e'] [] pos) (tM2 r to te tf) := by
  refine ⟨fun pins s σ H Q I h => ?_⟩
  refine PySem.Call_method2 hbase hs hline (thn (ho.run pins s σ H _ I h) fun v s1 ⟨x, H1, I1, r1, q1⟩ => ?_)
  obtain ⟨⟨a, rfl⟩, q1⟩ := q1
  obtain ⟨t, rfl⟩ := _root_.id r1
  refine ⟨"str", _, PySem.F.plainAttrs_str, slot, ty, typeIs_str _ _ _, (fun _ e => nomatch e), Calls.callWith_builtin rfl (Calls.evalArgs_plain (Calls.spliced_cons ?_))⟩
  exact thn (he.run pins s1 σ H1 _ I1 q1) fun u s2 ⟨y, H2, I2, r2, q2⟩ => Calls.spliced_cons (thn (hf.run pins s2 σ H2 _ I2 q2) fun u' s3 ⟨z, H3, I3, r3, q3⟩ => Calls.spliced_nil (rule pins s3 σ H3 _ [y, z] _ [u, u'] Q I3 r1 (.cons r2 (.cons r3 .nil)) q3))
theorem ev_m2 {K : PySem.W.Frag} {G : List (Option Sl)} {M M1 M2 M3 : List MO} {ta tb tc : TE} {l : List Nat} {y y' z : Dt} {rm : V → List V → Hp → VK → Prop} (ha : EvE K ta G M (.d (.str l)) M1) (hb : EvE K tb G M1 (.d y) M2) (hc : EvE K tc G M2 (.d y') M3) (hr : RM K rm (.str l) [y, y'] z) : EvE K (tM2 rm ta tb tc) G M (.d z) M3 := fun F B as σ H ow sl Q q =>
  ha F B as σ H ow sl _ fun v B1 as1 H1 g1 p1 o1 r1 => ⟨⟨tx l, r1⟩, hb F B1 as1 σ H1 o1 (sl.mono g1.1 p1) _ fun u B2 as2 H2 g2 p2 o2 r2 =>
    hc F B2 as2 σ H2 o2 (sl.mono (g1.trans g2).1 (p1.trans p2)) _ fun u' B3 as3 H3 g3 p3 o3 r3 =>
      hr F B3 as3 M3 H3 v [u, u'] Q o3 (Rp.mono (g2.trans g3).1 _ _ r1) ⟨u, [u'], rfl, Rp.mono g3.1 _ _ r2, RpL.one r3⟩ fun w B4 H4 g4 o4 r4 => q w B4 as3 H4 (g1.trans (g2.trans (g3.trans g4))) (p1.trans (p2.trans p3)) o4 r4⟩
end DJ
/-! ### instances of a class with methods -/
namespace LJ
open PySem PySem.Spec PyProof.Rows L2 LamX DJ
section
variable {K : PySem.W.Frag} {F B B1 H H1 : Hp} {as as1 : List Addr} {G : List (Option Sl)} {M M1 M2 : List MO} {ta tb tv : TE} {tr tk t : TA} {C : Addr} {fs gs : Fs} {E : XK}
/-- e.f of the instance that is owned -/
theorem ev_fldM {k : Nat} {f : Str} {v : V} {y : Dt} (h : EvE K ta G M (.o k) M1) (hm : M1[k]? = some (insM C fs)) (c : Cls K C) (n : NoAttr K C f) (l : fs.lookup f = some v) (r : ∀ B, Rp K B y v) : EvE K (tFld K ta f) G M (.d y) M1 := fun F B as σ H ow sl Q q =>
  h F B as σ H ow sl _ fun x B1 as1 H1 g1 p1 o1 r1 => by
    obtain ⟨a, ha, rfl⟩ := r1
    obtain ⟨f0, b0, o, ho, nt, φ⟩ := o1.own k a _ ha hm (fun z => nomatch z)
    obtain ⟨dx, rfl⟩ := φ B1 (Same.refl B1)
    exact ⟨a, C, dx, fs, v, rfl, ho, c, n, l, q v B1 as1 H1 g1 p1 o1 (r B1)⟩
/-- e.f of an instance that is data -/
theorem ev_fldD {f : Str} {v : V} {y : Dt} (h : EvE K ta G M (.d (insD C fs)) M1) (c : Cls K C) (n : NoAttr K C f) (l : fs.lookup f = some v) (r : ∀ B, Rp K B y v) : EvE K (tFld K ta f) G M (.d y) M1 := fun F B as σ H ow sl Q q =>
  h F B as σ H ow sl _ fun x B1 as1 H1 g1 p1 o1 r1 => by
    obtain ⟨a, dx, rfl, e⟩ := rp_ins (K := K) r1
    exact ⟨a, C, dx, fs, v, rfl, o1.bb _ _ e, c, n, l, q v B1 as1 H1 g1 p1 o1 (r B1)⟩
/-- e.f += value -/
theorem es_fldAug {k : Nat} {f : Str} {x y z : Dt} {v u : V} {rd : R2} (hs : EvE K ta G M (.o k) M1) (hm : M1[k]? = some (insM C fs)) (c : Cls K C) (n : NoAttr K C f) (l : fs.lookup f = some v) (rv : ∀ B, Rp K B x v) (hv : EvE K tv G M1 (.d y) M1) (ro : RO K rd x y z) (hz : ∀ B w, Rp K B z w → w = u) (hl : (putF f u fs).length ≤ 1000) (hl2 : fs.length < 1000) :
    EvS K (sFldAug K ta tv rd f) G M (.nx G (M1.set k (insM C (putF f u fs)))) := fun F B as σ H ow sl D gd =>
  hs F B as σ H ow sl _ fun x' B1 as1 H1 g1 p1 o1 r1 => by
    obtain ⟨a, ha, rfl⟩ := r1
    obtain ⟨f0, b0, o, ho, nt, φ⟩ := o1.own k a _ ha hm (fun z => nomatch z)
    obtain ⟨dx, rfl⟩ := φ B1 (Same.refl B1)
    refine ⟨a, C, dx, fs, v, rfl, ho, c, n, l, ?_⟩
    refine hv F B1 as1 σ H1 o1 (sl.mono g1.1 p1) _ fun y' B2 as2 H2 g2 p2 o2 r2 => ?_
    refine ro F B2 as2 M1 H2 v y' _ o2 (rv B2) r2 fun w B3 H3 g3 o3 r3 => ?_
    obtain rfl := hz B3 w r3
    have ha2 : as2[k]? = some a := by
      obtain ⟨tl, rfl⟩ := p2
      rw [List.getElem?_append_left (List.getElem?_eq_some_iff.mp ha).1]; exact ha
    obtain ⟨_, _, o, ho, nt, φ⟩ := o3.own k a _ ha2 hm (fun z => nomatch z)
    obtain ⟨dx', rfl⟩ := φ B3 (Same.refl B3)
    exact ⟨dx', fs, ho, hl2, gd B3 as2 σ _ (g1.trans (g2.trans g3)) (p1.trans p2) (o3.put ha2 hm (fun z => nomatch z) ⟨_, upd_same, (by intro vs z; cases z), fun B' _ => ⟨dx', rfl⟩⟩) (sl.mono (g1.trans (g2.trans g3)).1 (p1.trans p2))⟩
/-- self.m(..): the owned instance is handed on, alone -/
theorem ev_meth {n : Nat} {R : List Sl → List MO → Sl → List MO → Prop} {m : Str} {ds : List Dt} {z : Dt} (h : EvE K ta G M (.o 0) [insM C fs]) (l : fs.lookup m = none) (ht : EvA K t G [insM C fs] (ds.map Sl.d) [insM C fs]) (hR : R (.o 0 :: ds.map Sl.d) [insM C fs] (.d z) M2) (hn : ds.length + 1 = n) :
    EvE K (tMeth C m (SpR K n R) [] E ta t) G M (.d z) M2 := fun F B as σ H ow sl Q q =>
  h F B as σ H ow sl _ fun x B1 as1 H1 g1 p1 o1 r1 => by
    obtain ⟨a, ha, rfl⟩ := r1
    obtain ⟨f0, b0, o, ho, nt, φ⟩ := o1.own 0 a _ ha rfl (fun z => nomatch z)
    obtain ⟨dx, rfl⟩ := φ B1 (Same.refl B1)
    refine ⟨a, dx, fs, rfl, ho, l, ?_⟩
    refine ht F B1 as1 σ H1 o1 (sl.mono g1.1 p1) _ fun vs B2 as2 H2 g2 p2 o2 r2 => ?_
    have ha2 : as2[0]? = some a := by
      obtain ⟨tl, rfl⟩ := p2
      rw [List.getElem?_append_left (List.getElem?_eq_some_iff.mp ha).1]; exact ha
    refine ⟨F, B2, as2, .o 0 :: ds.map Sl.d, [insM C fs], .d z, M2, hR, o2, ⟨.ref a, vs ++ [], rfl, ⟨a, ha2, rfl⟩, by rw [List.append_nil]; exact r2⟩, by rw [List.append_nil, List.length_cons, r2.len, List.length_map]; exact hn, fun v B' as' H' g p o' r' => q v B' as' H' (g1.trans (g2.trans g)) (p1.trans (p2.trans p)) o' r'⟩
end
/-- a method, found in the class -/
structure Mth (P : Program) (w : World) (K : PySem.W.Frag) (mg : Str → Option Value) (base : Heap) (k : Nat) (C : Addr) (m : Str) (sp : Sp) : Prop where
  ex : ∃ (f : Addr), Cls K C ∧ Meth K C m f ∧ Mtd P w K mg base k f sp
theorem Mth.met {P : Program} {w : World} {K : PySem.W.Frag} {mg : Str → Option Value} {base : Heap} {k : Nat} {C : Addr} {m : Str} {sp : Sp} (c : Mth P w K mg base k C m sp) : C8.Met P w K mg base k C m sp [] := by
  obtain ⟨f, hc, hm, fd, ps, F, b⟩ := c.ex
  exact ⟨f, fd, ps, [], hc, hm, F, b, .nil⟩
/-! ### __init__ that may raise -/
structure MtdX (P : Program) (w : World) (K : PySem.W.Frag) (mg : Str → Option Value) (base : Heap) (k : Nat) (f : Addr) (sp : Sp) : Prop where
  ex : ∃ (fd : FuncData) (ps : List Str), FnOk P w K mg base (L2.CX P w) k f fd ps sp ∧ Binds K fd ps []
theorem mtd_mkKX {P : Program} {w : World} {K : PySem.W.Frag} {mg : Str → Option Value} {base : Heap} {x qual : Str} {f : Addr} {st : Stmt} {N ps : List Str} {k n : Nat} {R : List Sl → List MO → Sl → List MO → Prop} {RX : List Sl → List MO → Ex → List MO → Prop} (D : ∃ fd, L2.Fun K x qual st f fd ∧ Binds K fd ps []) (S : FnScope N ps (defScope st)) (hn : ps.length = n)
    (hb : ∀ (cdv : Value) (A : Around) (outer : List Env) (s : Shared) (H : Hp) (E : XK), Room k (A.deeper (envOfC qual (defScope st) s.heap.objs.size f cdv)) → Takes (cxOf (L2.CX P w) P w K mg base N qual (defScope st) f cdv A outer s H E) (fun cls d _ H => E cls d H) →
      PassesOwn (model P w) (cxOf (L2.CX P w) P w K mg base N qual (defScope st) f cdv A outer s H E).A (cxOf (L2.CX P w) P w K mg base N qual (defScope st) f cdv A outer s H E).env (cxOf (L2.CX P w) P w K mg base N qual (defScope st) f cdv A outer s H E).xe →
      (∀ ss M r M', R ss M r M' → ∃ t X G1, PSs (cxOf (L2.CX P w) P w K mg base N qual (defScope st) f cdv A outer s H E) (defBody st) t ∧ EvS K t (DJ.start N.length ss) M (.nx G1 (M' ++ X)) ∧ M.length ≤ M'.length ∧ r = .d .non) ∧
      (∀ ss M x' M', RX ss M x' M' → ∃ t X G', PSs (cxOf (L2.CX P w) P w K mg base N qual (defScope st) f cdv A outer s H E) (defBody st) t ∧ EvR K t (fun cls d _ H => E cls d H) (DJ.start N.length ss) M x' G' (M' ++ X) ∧ M.length ≤ M'.length)) :
    MtdX P w K mg base (k + 1) f (SpX K n R RX) := by
  obtain ⟨fd, F, b⟩ := D
  refine ⟨fd, ps, F.okX S (fun vs H Q E h => ?_) (fun cdv A outer s H vs Q E hr h => ?_), b⟩
  · obtain ⟨_, _, _, _, _, _, _, e, _⟩ := h
    rw [e, hn]
  · obtain ⟨F', B', as, ss, M, ow, sl, _, q⟩ := h
    obtain ⟨h1, h2⟩ := hb cdv A outer s H E hr (takes_of rfl rfl rfl rfl) (passes_of rfl)
    rcases q with ⟨r, M', hR, q⟩ | ⟨x', M', hR, q⟩
    · obtain ⟨t, X, G1, ht, he, hl, hr'⟩ := h1 ss M r M' hR
      subst hr'
      exact ⟨t, ht, run_bodyN (X := X) he hl ow sl q⟩
    · obtain ⟨t, X, G', ht, he, hl⟩ := h2 ss M x' M' hR
      exact ⟨t, ht, run_bodyX (X := X) he hl ow sl q⟩
structure MkrX (P : Program) (w : World) (K : PySem.W.Frag) (mg : Str → Option Value) (base : Heap) (k : Nat) (x : Str) (C : Addr) (sp : Sp) : Prop where
  ex : ∃ (f : Addr), Mk K C f ∧ mg x = some (.ref C) ∧ MtdX P w K mg base k f sp
theorem pe_mkrX {X : Cx} {W : WX} {k j : Nat} {C : Addr} {x : Str} {sp : Sp} {p pos : Pos} {e : Expr} {es : List Expr} {t : TA} (c : MkrX X.prog X.w X.K X.mg X.base k x C sp) (tk : Takes X W) (hr : Room j X.A) (hk : k + 1 ≤ j) (hg : Gl X x) (ha : PA X (e :: es) t)
    (hdb : (x == ("__debug__" : Str)) = false := by decide) (he : starEach (e :: es) X.env = (false, eval e X.env) :: starEach es X.env := by rfl) (hpl : (backTo pos (starEach es X.env)).any (·.1) = false := by rfl) :
    PE X (.Call (.Name x p) (e :: es) [] pos) (tMakeSD C sp (WE W) t) := by
  obtain ⟨f, M, hm, fd, ps, F, b⟩ := c.ex
  exact pe_makeSD M F (hr.mono hk) hg hm b (fun σ => L2.passAt tk σ) ha hdb he hpl
end LJ
namespace DJ
open PySem PySem.Spec PyProof.Rows L2
section
variable {K : PySem.W.Frag} {G : List (Option Sl)} {M M1 M2 : List MO} {ta tb : TE}
/-- == and != of a list that is owned, which stays owned -/
theorem ev_neO {k : Nat} {xs : List Dt} {e : Dt} (ha : EvE K ta G M (.o k) M1) (hb : EvE K tb G M1 (.d e) M2) (hm : M2[k]? = some (.lst xs)) (h1 : plD (.lst xs) = true) (h2 : plD e = true) (n1 : dpD (.lst xs) ≤ 64) (n2 : dpD e ≤ 64) :
    EvE K (tOp (rNeD K) ta tb) G M (.d (.bl (!eqD (.lst xs) e))) M2 := fun F B as σ H ow sl Q q =>
  ha F B as σ H ow sl _ fun v B1 as1 H1 g1 p1 o1 r1 => hb F B1 as1 σ H1 o1 (sl.mono g1.1 p1) _ fun u B2 as2 H2 g2 p2 o2 r2 => by
    obtain ⟨a, ha, rfl⟩ := r1
    obtain ⟨_, _, vs, hv, hr⟩ := o2.own k a _ (p2.get ha) hm (fun z => nomatch z)
    have r : Rp K H2 (.lst xs) (.ref a) := ⟨a, vs, rfl, .inl (.inl hv), RpL.mono o2.bb xs vs hr⟩
    exact ⟨_, _, dp_of (.lst xs) (.ref a) h1 r, dp_of e u h2 (Rp.mono o2.bb _ _ r2), shp_of h1 n1, shp_of h2 n2, q _ B2 as2 H2 (g1.trans g2) (p1.trans p2) o2 rfl⟩
end
end DJ
/-! ### f"..{n:X}": an integer's figures to the base 16 -/
namespace Hx16
open PySem PySem.W PySem.Spec PyProof.Rows PySem.Builtin PySem.Builtin.Str PySem.Builtin.Int
def hexA (a : Int) : List Nat := (Nat.toDigits 16 a.natAbs).map fun c => c.toUpper.toNat
def fX : PySem.Builtin.Float.FormatSpec := { align := 62, type := some 88 }
theorem hex_meets {a : Int} {t : Tok} (h0 : 0 ≤ a) (hz : (hexA a).length ≤ sizeLine) (u : Tok) : Meets (Builtin.«int.__format__» ⟨[.int a t, .str ("X" : PySem.Str) u], []⟩) (fun _ R s => ∀ t' k, R (.ok (.ret (.str ⟨(hexA a).toArray⟩ t'))) { s with toks := k }) := by
  apply KPc.meets_of; intro prog w A s Q E hq; unfold Builtin.«int.__format__»
  refine wpAny_bind (wpAny_of_eq (a := (Value.int a t, Value.str ("X" : PySem.Str) u)) rfl ?_)
  refine wpAny_bind (wpAny_of_eq (a := a) rfl ?_)
  simp only [show (Value.str (Str.ofString "X") u == Value.none) = false from rfl, Bool.false_eq_true, if_false, asStr?, pure_bind, show ((Str.ofString "X").length == 0) = false from by decide +kernel, bind_assoc]
  refine wpAny_bind (wpAny_typeNameOf (typeIs_str _ _ _) (by decide) fun nm => ?_)
  have e1 : (((List.drop 1 (Str.ofString "X").cps.toList).any fun x => decide (x ≥ 128)) || (decide ((Str.ofString "X").cps.getD 0 0 ≥ 128) && !([60, 62, 61, 94] : List Nat).contains ((Str.ofString "X").cps.getD 1 0))) = false := by decide +kernel
  simp only [e1, Bool.false_eq_true, if_false]
  refine wpAny_bind (wpAny_typeNameOfCut_int ?_)
  have hp : ∃ f : PySem.Builtin.Float.FormatSpec, Float.parseFormatSpec (Str.ofString "X").cps.toList "int" 62 = .ok f ∧ f.type = some 88 ∧ f.precision = none ∧ f.noNeg0 = false ∧ f.width = none ∧ f.alt = false ∧ f.grouping = none ∧ f.sign = none ∧ f.fill = 32 ∧ f.align = 62 := ⟨fX, by kernel_rfl, rfl, rfl, rfl, rfl, rfl, rfl, rfl, rfl, rfl⟩
  obtain ⟨f, hp, f1, f2, f3, f4, f5, f6, f7, f8, f9⟩ := hp
  simp only [hp, f1, Option.getD_some]
  rw [if_pos (by decide)]
  show wpAny _ _ (if _ then _ else _) _ _ _
  rw [if_neg (by rw [f2] <;> exact Bool.false_ne_true)]
  show wpAny _ _ (if _ then _ else _) _ _ _
  rw [if_neg (by rw [f3] <;> exact Bool.false_ne_true)]
  show wpAny _ _ (if _ then _ else _) _ _ _
  rw [if_neg (by decide)]
  show wpAny _ _ (if _ then _ else _) _ _ _
  rw [if_neg (by decide)]
  show wpAny _ _ (if _ then _ else _) _ _ _
  rw [if_neg (by rw [f4] <;> decide)]
  show wpAny _ _ (retStr _) _ _ _
  have key : ∀ X : PySem.Str, X = ⟨(hexA a).toArray⟩ → X.length ≤ sizeLine := fun X e => by
    rw [e]
    show (hexA a).toArray.size ≤ _
    simpa using hz
  refine (fun he => KXf.ret_text he (key _ he) hq) ?_
  · rw [f5, decide_eq_false (by omega)]
    obtain ⟨_, _, _, _, _, _, _, _, _⟩ := f
    simp only at f1 f2 f3 f4 f5 f6 f7 f8 f9
    subst f1 f2 f3 f4 f5 f6 f7 f8 f9
    show _ = (⟨(List.map (fun c => c.toUpper.toNat) (Nat.toDigits 16 a.natAbs)).toArray⟩ : PySem.Str)
    simp only [show ((88 : Nat) == 88) = true from rfl, if_true, Bool.false_eq_true, if_false]
    generalize List.map (fun c : Char => c.toUpper.toNat) (Nat.toDigits 16 a.natAbs) = ds
    conv => lhs; whnf
    cases ds with
    | nil => simp
    | cons c r =>
      simp
      all_goals first | omega | (refine ⟨?_, ?_⟩ <;> omega) | trace_state
end Hx16
namespace DJ
open PySem PySem.Spec PyProof.Rows L2
def tFmtX (te : TE) : TE := fun σ H Q => te σ H fun x H1 => ∃ i : Int, x = .int i ∧ 0 ≤ i ∧ (Hx16.hexA i).length ≤ sizeLine ∧ Q (.str ⟨(Hx16.hexA i).toArray⟩) H1
theorem pe_fmtX {X : Cx} {e : Expr} {te : TE} {pos p2 cp : Pos} {j : Nat} (he : PE X e te) : PE X (.FormattedValue e (-1) (some (.JoinedStr [.Constant (.str "X") j cp] p2)) pos) (tFmtX te) := by
  refine ⟨fun pins s σ H Q I h => ?_⟩
  refine wpAny_FormattedValue_spec (thn (he.run pins s σ H _ I h) fun v s1 hv => ?_)
  obtain ⟨x, H1, I1, r1, i, rfl, h0, hz, q⟩ := hv
  obtain ⟨t, rfl⟩ := r1
  refine wpAny_JoinedStr_one (Calls.Constant_str ?_)
  exact ⟨_, _, rfl, PySem.W.KXf.field_int rfl (by decide +kernel) (by decide +kernel) (Hx16.hex_meets h0 hz) fun t' k => ⟨.str _, H1, I1.tok _, ⟨_, rfl⟩, q⟩⟩
section
variable {K : PySem.W.Frag} {G : List (Option Sl)} {M M1 M2 : List MO} {ta tb te : TE}
theorem ev_fmtX {i : Int} (h : EvE K te G M (.d (.int i)) M1) (h0 : 0 ≤ i) (hz : (Hx16.hexA i).length ≤ sizeLine) : EvE K (tFmtX te) G M (.d (.str (Hx16.hexA i))) M1 := fun F B as σ H ow sl Q q =>
  h F B as σ H ow sl _ fun v B1 as1 H1 g1 p1 o1 r1 => ⟨i, r1, h0, hz, q _ B1 as1 H1 g1 p1 o1 rfl⟩
theorem ev_js2 {l m : List Nat} (ha : EvE K ta G M (.d (.str l)) M1) (hb : EvE K tb G M1 (.d (.str m)) M2) (hz : l.length + m.length ≤ sizeLine) :
    EvE K (fun σ H Q => tJs [ta, tb] Str.empty σ H fun out H1 => Q (.str out) H1) G M (.d (.str (l ++ m))) M2 := fun F B as σ H ow sl Q q =>
  ha F B as σ H ow sl _ fun v B1 as1 H1 g1 p1 o1 r1 => by
    refine ⟨tx l, r1, ?_, ?_⟩
    · show (Str.empty ++ tx l).length ≤ _
      rw [Str.empty_append, tx_len]
      omega
    · refine hb F B1 as1 σ H1 o1 (sl.mono g1.1 p1) _ fun w B2 as2 H2 g2 p2 o2 r2 => ?_
      refine ⟨tx m, r2, ?_, ?_⟩
      · show (Str.empty ++ tx l ++ tx m).length ≤ _
        rw [Str.empty_append, PySem.strLen_append, tx_len, tx_len]
        exact hz
      · have e : Str.empty ++ tx l ++ tx m = tx (l ++ m) := by
          rw [Str.empty_append]
          show (⟨l.toArray ++ m.toArray⟩ : Str) = ⟨(l ++ m).toArray⟩
          simp
        show Q (.str (Str.empty ++ tx l ++ tx m)) H2
        rw [e]
        exact q _ B2 as2 H2 (g1.trans g2) (p1.trans p2) o2 rfl
end
end DJ
/-! ### min of a list of pairs (int, text) -/
namespace DJ
open PySem PySem.W PyProof.Rows PySem.Spec L2
def rMinT (K : PySem.W.Frag) : List V → Hp → VK → Prop := fun vs H Q => ∃ (a : Addr) (ws : List V) (x : PyData) (xs : List PyData), vs = [.ref a] ∧ SqL K H a ws ∧ DpAll K H ws (x :: xs) ∧ AlikeAll (x :: xs) ∧ PyData.depthAll (x :: xs) ≤ 60 ∧ ∀ (i : Nat) (w : V), ws[i]? = some w → (x :: xs)[i]? = some (minD x xs) → Q w H
theorem vals_get : ∀ {ws : List V} {us : List Value}, Vals ws us → ∀ (i : Nat) {v : Value}, us[i]? = some v → ∃ w : V, ws[i]? = some w ∧ RelV w v
  | _, _, .nil, i, v, h => by simp at h
  | _, _, .cons r1 rs, 0, v, h => ⟨_, rfl, by simp at h; rw [← h]; exact r1⟩
  | _, _, .cons r1 rs, i + 1, v, h => by
    obtain ⟨w, h1, h2⟩ := vals_get rs i (by simpa using h)
    exact ⟨w, by simpa using h1, h2⟩
theorem cr_minT {X : Cx} (hc : X.calm = true) (hu : X.A.units + 64 < cLine) : CallR X (.builtin "min") (rMinT X.K) := by
  intro pins s σ H vs us Q I r h
  obtain ⟨a, ws, x, xs, rfl, hs, hd, hal, hdep, q⟩ := h
  obtain ⟨its, rv, hl, hz⟩ := I.list hs
  rw [Vals.ref1 r]
  obtain ⟨as, hr⟩ := Dp.readsAll I (x :: xs) ws its hd rv
  refine min_list_data (vs := its.toArray) (I.ok.hd hc) hl.isList (by simpa using hr) hal (by omega) fun i v h' tk bs hv rd k => ?_
  obtain ⟨bs2, r2, hi, _, _⟩ := readsAll_atA (vs := its.toArray) (by simpa using hr) i v hv
  have r3 := reads_keeps k r2
  have e := (Reads.unique r3 _ _ rd).1
  have hv2 : its[i]? = some v := by simpa using hv
  obtain ⟨w, hw, rw_⟩ := vals_get rv i hv2
  exact ⟨w, H, I.kept k, rw_, q i w hw (by rw [← e, List.getD_eq_getElem?_getD, List.getElem?_eq_getElem hi] <;> rfl)⟩
abbrev PIS := Int × List Nat
def pairD (q : PIS) : Dt := .tup [.int q.1, .str q.2]
def ltP (p q : PIS) : Bool := if p.1 = q.1 then decide (p.2 < q.2) else decide (p.1 < q.1)
def bestP (p : PIS) (ps : List PIS) : PIS := ps.foldl (fun a y => if ltP y a = true then y else a) p
theorem lex_refl (l : List (Int ⊕ List Nat)) (h : lexLt itemOrd l l = false) : lexLt itemOrd l l = false := h
theorem dataLt_pair (p q : PIS) : dataLt (toP (pairD p)) (toP (pairD q)) = ltP p q := by
  obtain ⟨i, l⟩ := p
  obtain ⟨j, m⟩ := q
  show dataLt (.tuple [.int i, .str (tx l)]) (.tuple [.int j, .str (tx m)]) = _
  rw [dataLt_tuple]
  unfold ltP
  by_cases e : i = j
  · subst e
    rw [if_pos rfl, dataLt_all_yes rfl (by simp [PyData.eqv])]
    by_cases e2 : l = m
    · subst e2
      rw [dataLt_all_yes rfl (by simp [PyData.eqv])]
      show lexLt itemOrd [Sum.inl 0] [Sum.inl 0] = decide (l < l)
      rw [lex_one, decide_eq_false (List.lt_irrefl l)]
      rfl
    · have hne : PyData.eqv (.str (tx l)) (.str (tx m)) = false := by
        cases z : PyData.eqv (.str (tx l)) (.str (tx m)) with
        | false => rfl
        | true => exact absurd (tx_inj (by simpa [PyData.eqv] using z)) e2
      rw [dataLt_all_no rfl hne, dataLt_str]
  · rw [if_neg e, dataLt_all_no rfl (by simp [PyData.eqv, e]), dataLt_int]
theorem minD_pairs : ∀ (ps : List PIS) (p : PIS), minD (toP (pairD p)) (toPs (ps.map pairD)) = toP (pairD (bestP p ps))
  | [], p => rfl
  | q :: ps, p => by
    show (toPs (ps.map pairD)).foldl (fun a y => if dataLt y a = true then y else a) (if dataLt (toP (pairD q)) (toP (pairD p)) = true then toP (pairD q) else toP (pairD p)) = _
    rw [dataLt_pair]
    have e : (if ltP q p = true then toP (pairD q) else toP (pairD p)) = toP (pairD (if ltP q p = true then q else p)) := by split <;> rfl
    rw [e]
    exact minD_pairs ps (if ltP q p = true then q else p)
theorem toPs_mem : ∀ {ps : List PIS} {x : PyData}, x ∈ toPs (ps.map pairD) → ∃ q, x = toP (pairD q)
  | q :: ps, x, h => by
    rcases List.mem_cons.mp (show x ∈ toP (pairD q) :: toPs (ps.map pairD) from h) with e | e
    · exact ⟨q, e⟩
    · exact toPs_mem e
theorem toPs_get : ∀ {ps : List PIS} {i : Nat} {x : PyData}, (toPs (ps.map pairD))[i]? = some x → ∃ q, ps[i]? = some q ∧ x = toP (pairD q)
  | q :: ps, 0, x, h => ⟨q, rfl, by
    have h : some (toP (pairD q)) = some x := h
    exact (Option.some.inj h).symm⟩
  | q :: ps, i + 1, x, h => by
    obtain ⟨r, h1, h2⟩ := toPs_get (ps := ps) (i := i) (x := x) (by simpa [toPs] using h)
    exact ⟨r, by simpa using h1, h2⟩
theorem pair_inj {p q : PIS} (h : toP (pairD p) = toP (pairD q)) : p = q := by
  obtain ⟨i, l⟩ := p
  obtain ⟨j, m⟩ := q
  have h : PyData.tuple [.int i, .str (tx l)] = PyData.tuple [.int j, .str (tx m)] := h
  injection h with h
  injection h with h1 h
  injection h1 with h1
  injection h with h2 _
  injection h2 with h2
  rw [h1, tx_inj h2]
theorem pl_pairs : ∀ {ps : List PIS}, (∀ q ∈ ps, ∀ c ∈ q.2, c < 128) → plDs (ps.map pairD) = true ∧ dpDs (ps.map pairD) ≤ 1
  | [], _ => ⟨rfl, Nat.zero_le _⟩
  | q :: ps, h => by
    obtain ⟨h1, h2⟩ := pl_pairs fun x hx => h x (List.mem_cons_of_mem q hx)
    have hq := h q List.mem_cons_self
    refine ⟨?_, Nat.max_le.mpr ⟨show 1 ≤ 1 by decide, h2⟩⟩
    show (plD (pairD q) && plDs (ps.map pairD)) = true
    rw [h1, Bool.and_true]
    show (true && (q.2.all (fun c => decide (c < 128)) && true)) = true
    rw [Bool.true_and, Bool.and_true]
    exact List.all_eq_true.mpr fun c hc => decide_eq_true (hq c hc)
section
variable {K : PySem.W.Frag} {G : List (Option Sl)} {M M1 : List MO} {te : TE}
theorem ev_minP {p : PIS} {ps : List PIS} (h : EvE K te G M (.d (.lst ((p :: ps).map pairD))) M1) (ha : ∀ q ∈ p :: ps, ∀ c ∈ q.2, c < 128) : EvE K (tCB (rMinT K) (tCons te tNil)) G M (.d (pairD (bestP p ps))) M1 := fun F B as σ H ow sl Q q =>
  h F B as σ H ow sl _ fun v B1 as1 H1 g1 p1 o1 r1 => by
    obtain ⟨a, ws, rfl, h1, h2⟩ := r1
    obtain ⟨l1, l2⟩ := pl_pairs ha
    refine ⟨a, ws, toP (pairD p), toPs (ps.map pairD), rfl, o1.bb.seq h1, dp_ofs _ _ l1 (RpL.mono o1.bb _ _ h2), ⟨fun x hx y hy => ?_, fun x hx => ?_⟩, ?_, fun i w hw hm => ?_⟩
    · obtain ⟨q1, rfl⟩ := toPs_mem (ps := p :: ps) hx
      obtain ⟨q2, rfl⟩ := toPs_mem (ps := p :: ps) hy
      rfl
    · obtain ⟨q1, rfl⟩ := toPs_mem (ps := p :: ps) hx
      exact fun z => nomatch z
    · have := (lay_ofs ((p :: ps).map pairD) l1).2
      show PyData.depthAll (toPs ((p :: ps).map pairD)) ≤ 60
      rw [this]
      omega
    · rw [minD_pairs] at hm
      obtain ⟨r, hr, er⟩ := toPs_get (ps := p :: ps) hm
      have er := pair_inj er
      obtain ⟨w2, hw2, hrp⟩ := h2.get (show ((p :: ps).map pairD)[i]? = some (pairD r) by rw [List.getElem?_map, hr] <;> rfl)
      have : w2 = w := Option.some.inj (hw2.symm.trans hw)
      subst this
      rw [← er] at hrp
      exact q w2 B1 as1 H1 g1 p1 o1 hrp
end
end DJ
namespace LJ
open PySem PySem.Spec PyProof.Rows L2 LamX DJ
section
variable {P : Program} {w : World} {K : PySem.W.Frag} {mg : Str → Option Value} {base : Heap}
/-- a def with keyword-only parameters that lets nothing out, called by place -/
theorem cal_mkK0 {x : Str} {st : Stmt} {N ps : List Str} {kws : List (Str × V)} {k n m : Nat} {R : List Sl → List MO → Sl → List MO → Prop} (D : DfK K mg x st kws) (S : FnScope N ps (defScope st)) (hn : ps.length = n) (hk : kws ≠ []) (hm : m + kws.length = ps.length)
    (h : ∀ (D : Addr) (doc pm : Value) (an : Option Addr) (cdv ct : Value) (us ks : List Value), us.length = m → ks.length = kws.length →
      KwChain D ((kws.map (·.1)).zip ks) (bindArgs (PySem.W.fnOf x x (defArgs st) (defBody st) (defScope st) .none (.ref D) doc pm an cdv ct) ⟨us, []⟩) (ps.zip (us ++ ks)))
    (hb : ∀ (f : Addr) (cdv : Value) (A : Around) (outer : List Env) (s : Shared) (H : Hp) (E : XK), Room k (A.deeper (envOfC x (defScope st) s.heap.objs.size f cdv)) → ∀ ss M r M', R ss M r M' →
      ∃ t X, PSs (cxOf CX0 P w K mg base N x (defScope st) f cdv A outer s H E).nox (defBody st) t ∧ EvS K t (start N.length ss) M (.rt r (M' ++ X)) ∧ M.length ≤ M'.length ∧ ∀ j, r = .o j → j < M'.length) :
    Cal P w K mg base (k + 1) x (SpR K n R) (kws.map (·.2)) := by
  obtain ⟨f, fd, F, hf⟩ := D.ex
  obtain ⟨ds, hv, hbd⟩ := F.binds0 (ps := ps) m hk hm h
  refine ⟨f, fd, ps, ds, F.ok S (fun vs H Q E h => ?_) (fun cdv A outer s H vs Q E hr h => ?_), hf, F.kp, hbd, hv⟩
  · obtain ⟨_, _, _, _, _, _, _, _, _, _, e, _⟩ := h
    rw [e, hn]
  · obtain ⟨F', B, as, ss, M, r, M', hR, ow, sl, _, q⟩ := h
    obtain ⟨t, X, ht, he, hl, hr'⟩ := hb f cdv A outer s H E hr ss M r M' hR
    exact ⟨t, PSs.nox ht, run_body (X := X) he hl hr' ow sl q⟩
end
end LJ
namespace DJ
open PySem PySem.Spec PyProof.Rows L2
/-! ### a text's place, how often it stands, an integer's text with a sign -/
section
variable {K : PySem.W.Frag} {l m : List Nat}
theorem rm_find : RM K (fun x xs H Q => ∃ a b : Str, x = .str a ∧ xs = [.str b] ∧ Q (.int (Txt.find a b)) H) (.str l) [.str m] (.int (Txt.find (tx l) (tx m))) := fun F B as M H v vs Q ow r1 r2 q => ⟨tx l, tx m, r1, two_str r2, q _ B H (Gr.refl F B) ow rfl⟩
theorem rm_count : RM K (fun x xs H Q => ∃ a b : Str, x = .str a ∧ xs = [.str b] ∧ Q (.int (Txt.count a b)) H) (.str l) [.str m] (.int (Txt.count (tx l) (tx m))) := fun F B as M H v vs Q ow r1 r2 q => ⟨tx l, tx m, r1, two_str r2, q _ B H (Gr.refl F B) ow rfl⟩
theorem rc_intT {n : Int} (h : PySem.intText? (tx l) = some n) (hl : l.length ≤ 640) : RC K (fun xs H Q => ∃ a n, xs = [.str a] ∧ PySem.intText? a = some n ∧ a.length ≤ 640 ∧ Q (.int n) H) [.str l] (.int n) := fun F B as M H vs Q ow r q =>
  ⟨tx l, n, two_str r, h, by rw [tx_len]; exact hl, q _ B H (Gr.refl F B) ow rfl⟩
end
end DJ
/-! ### sorting any number of tuples of two texts -/
namespace DJ
open PySem PySem.W PyProof.Rows PySem.Spec L2
theorem lex2_swo {α : Type} (g : α → Str × Str) : SrtO.Swo fun v u => lex2 (g v) (g u) := by
  have tri : ∀ a b : List Nat, a < b ∨ a = b ∨ b < a := fun a b => by
    by_cases h : a < b
    · exact .inl h
    · by_cases h2 : b < a
      · exact .inr (.inr h2)
      · exact .inr (.inl (List.le_antisymm (List.not_lt.mp h2) (List.not_lt.mp h)))
  refine ⟨fun x y h => ?_, fun x y z h1 h2 => ?_⟩
  · have h : lex2 (g x) (g y) = true := h
    show lex2 (g y) (g x) = false
    unfold lex2 at *
    by_cases e : (g x).1 = (g y).1
    · rw [if_pos e] at h
      rw [if_pos e.symm]
      exact decide_eq_false (List.lt_asymm (of_decide_eq_true h))
    · rw [if_neg e] at h
      rw [if_neg (Ne.symm e)]
      exact decide_eq_false (List.lt_asymm (of_decide_eq_true h))
  · have h1 : lex2 (g y) (g x) = false := h1
    have h2 : lex2 (g z) (g y) = false := h2
    show lex2 (g z) (g x) = false
    have sx : ∀ {a b : Str}, a.cps.toList = b.cps.toList → a = b := fun {a b} e => by
      cases a; cases b
      simpa using congrArg List.toArray e
    unfold lex2 at *
    by_cases e1 : (g y).1 = (g x).1
    · rw [if_pos e1] at h1
      have h1 := of_decide_eq_false h1
      by_cases e2 : (g z).1 = (g y).1
      · rw [if_pos e2] at h2
        have h2 := of_decide_eq_false h2
        rw [if_pos (e2.trans e1)]
        exact decide_eq_false (List.not_lt.mpr (List.le_trans (List.not_lt.mp h1) (List.not_lt.mp h2)))
      · rw [if_neg e2] at h2
        rw [if_neg (fun e => e2 (e.trans e1.symm)), ← e1]
        exact h2
    · rw [if_neg e1] at h1
      have h1 := of_decide_eq_false h1
      by_cases e2 : (g z).1 = (g y).1
      · rw [e2, if_neg e1]
        exact decide_eq_false h1
      · rw [if_neg e2] at h2
        have h2 := of_decide_eq_false h2
        have l1 : (g x).1.cps.toList < (g y).1.cps.toList := by
          rcases tri (g x).1.cps.toList (g y).1.cps.toList with h | h | h
          · exact h
          · exact absurd (sx h).symm e1
          · exact absurd h h1
        have l2 : (g y).1.cps.toList < (g z).1.cps.toList := by
          rcases tri (g y).1.cps.toList (g z).1.cps.toList with h | h | h
          · exact h
          · exact absurd (sx h).symm e2
          · exact absurd h h2
        have l3 := List.lt_trans l1 l2
        rw [if_neg (fun e => List.lt_irrefl _ (by rw [e] at l3; exact l3))]
        exact decide_eq_false (List.lt_asymm l3)
section
variable {prog : Program} {w : World} {A : Around} {s : Shared}
theorem two_sortable {a : Addr} {vs : List Value} (h0 : 2 ≤ vs.length) (x : ∀ v ∈ vs, ∃ e, Two s.heap v e) (ha : ∀ o, s.heap.get? a = some o → o.cls ≠ .type "tuple") :
    SrtO.SortableO prog w A s a vs fun v u => lex2 (twoAt s.heap v) (twoAt s.heap u) := by
  intro h' keep
  have x' : ∀ v ∈ vs, ∃ e, Two h' v e ∧ twoAt s.heap v = e := fun v hv => by
    obtain ⟨e, he⟩ := x v hv
    exact ⟨e, he.keeps fun b o e0 c => keep b o (fun z => by subst z; exact ha o e0 c) e0, he.at⟩
  obtain ⟨fs, k, hl, hi⟩ := firsts2 vs (h := h') fun v hv => by
    obtain ⟨e, he, _⟩ := x' v hv
    exact ⟨e, he⟩
  refine ⟨tuples' true, fun Q E hq => ?_, fun p q mp mq => ?_⟩
  · refine kat_kind (s := { s with heap := h' }) (T := Value.type "str") k (by omega) (fun f hf => ?_) rfl ?_
    · obtain ⟨y, t, rfl⟩ := hi f hf
      exact PySem.W.Looks.of_pure rfl
    · have hb : (Value.type "str" != Value.type "tuple") = true := by first | rfl | decide | simp
      rw [hb]
      exact hq
  · obtain ⟨e, pe, e1⟩ := x' _ mp
    obtain ⟨f, pf, e2⟩ := x' _ mq
    show wpAny _ _ _ (fun r s' => s' = { s with heap := h' } ∧ r = lex2 (twoAt s.heap p.1) (twoAt s.heap q.1)) _ _
    rw [e1, e2]
    obtain ⟨a, t, u, e1, o, ho, hc, n, hd⟩ := pe
    obtain ⟨a', t', u', e2, o', ho', hc', n', hd'⟩ := pf
    rw [e1, e2]
    refine kat_lt (s := { s with heap := h' }) ho hd ho' hd' ?_
    show KatLex prog w A true false (fun r s' => s' = { s with heap := h' } ∧ r = lex2 e f) [(Value.str e.1 t, Value.str f.1 t'), (Value.str e.2 u, Value.str f.2 u')] 0 { s with heap := h' }
    refine kat_cons (wpAny_eqBool_str (kat_go (fun e0 => ?_) (fun e0 => ?_)))
    · have e0 : e.1 = f.1 := of_decide_eq_true e0
      have z : lex2 e f = decide (e.2.cps.toList < f.2.cps.toList) := if_pos e0
      rw [z]
      refine kat_yes (kat_cons (wpAny_eqBool_str (kat_go (fun e3 => ?_) (fun e3 => ?_))))
      · have e3 : e.2 = f.2 := of_decide_eq_true e3
        refine kat_yes (kat_nil ⟨rfl, ?_⟩)
        rw [e3]
        exact (decide_eq_false (List.lt_irrefl _)).symm
      · refine kat_no ?_
        show wpAny _ _ (oneLt' false _ _) _ _ _
        exact kat_one _ _ (PyProof.Rows.lt_str ⟨rfl, rfl⟩)
    · have e0 : ¬ e.1 = f.1 := of_decide_eq_false e0
      have z : lex2 e f = decide (e.1.cps.toList < f.1.cps.toList) := if_neg e0
      rw [z]
      refine kat_no ?_
      show wpAny _ _ (oneLt' true _ _) _ _ _
      exact oneLt_str ⟨rfl, rfl⟩
end
/-! ### sorted(d), any number of keys, tuples of two texts -/
def rSortN : List V → Hp → VK → Prop := fun vs H Q => ∃ (a : Addr) (kvs : List (List Key × V)) (ks : List (Str × Str)), vs = [.ref a] ∧ H a = some (.dT kvs) ∧ kvs.map (·.1) = ks.map keyOf2 ∧ ks.length ≤ 100000 ∧
  ∀ (l : Addr) (ps : List (Addr × Str × Str)), H l = none → (ps.map (·.2)).Perm ks → (ps.map (·.2)).Pairwise (fun e f => lex2 f e = false) → (∀ z ∈ ps, H z.1 = some (.tup [.str z.2.1, .str z.2.2])) → Q (.ref l) (upd H l (.lst (ps.map fun z => V.ref z.1)))
section
variable {X : Cx}
theorem cr_sortN (hc : X.calm = true) : CallR X (.builtin "sorted") rSortN := by
  intro pins s σ H xs us Q I r h
  obtain ⟨a, kvs, ks, rfl, ha, hks, h64, q⟩ := h
  obtain rfl := Vals.ref1 r
  obtain ⟨z, hd, xs', rel, o, es, ep, ho, hx, hdat, hes, his, hn⟩ := dt_of I.hok ha
  have l1 : kvs.length = xs'.length := Paired.length rel
  have l2 : es.size = xs'.length := size_of_entries hes
  have l3 : kvs.length = ks.length := by
    have e := congrArg List.length hks
    rw [List.length_map, List.length_map] at e
    exact e
  have hh : X.A.handled = none := I.ok.hd hc
  refine PySem.Calls.call_function_entry PyProof.Rows.kind_sorted PyProof.Rows.plain_sorted PyProof.Rows.entry_sorted (PyProof.Rows.args_sorted1 _) ?_
  unfold Builtin.«sorted»
  refine wpAny_bind (m := checkCount "sorted" 1 1 _) (wpAny_pure ?_)
  refine wpAny_bind (PySem.W.kdu_collect (A := X.A.in1) (kdl_raw (prog := X.prog) (w := X.w) hd hx hdat) hh ho (by rw [sizeLine_eq]; omega) fun h' tk acc hk hacc => ?_)
  have ea : acc.toList = (xs'.map fun x => x.2.1).map Value.ref := by
    have hl : acc.toList.length = xs'.length := by rw [Array.length_toList, hacc.1]; exact l2
    refine List.ext_getElem? fun j => ?_
    rw [List.getElem?_map, List.getElem?_map]
    cases hj : acc.toList[j]? with
    | none =>
      have h1 := List.getElem?_eq_none_iff.mp hj
      rw [List.getElem?_eq_none (by omega)] <;> rfl
    | some v =>
      obtain ⟨en, hen, hv⟩ := hacc.2 j v (by rw [← Array.getElem?_toList]; exact hj)
      have qe := entry_at hes j
      rw [hen] at qe
      cases hb : xs'[j]? with
      | none =>
        rw [hb] at qe
        exact nomatch (show some en = none from qe)
      | some b =>
        rw [hb] at qe
        have e2 : en = entryOfKey (tupleKind (mixKind X.prog X.w)) b := Option.some.inj qe
        rw [hv, e2] <;> rfl
  generalize hbs : (xs'.map fun x => x.2.1) = bs at ea
  have lb : bs.length = ks.length := by rw [← hbs, List.length_map]; omega
  -- each key's tuple
  have key : ∀ (j : Nat) (b : Addr), bs[j]? = some b → ∃ e, ks[j]? = some e ∧ H b = some (.tup [.str e.1, .str e.2]) := by
    intro j b hj
    rw [← hbs, List.getElem?_map] at hj
    cases hxj : xs'[j]? with
    | none => rw [hxj] at hj; exact nomatch (show (none : Option Addr) = some b from hj)
    | some x =>
      rw [hxj] at hj
      have eb : x.2.1 = b := Option.some.inj hj
      obtain ⟨e0, he0, r1, r2, r3⟩ := DX.pget rel hxj
      have hk0 : (kvs.map (·.1))[j]? = some e0.1 := by rw [List.getElem?_map, he0] <;> rfl
      rw [hks, List.getElem?_map] at hk0
      cases hkj : ks[j]? with
      | none => rw [hkj] at hk0; exact nomatch (show (none : Option (List Key)) = some e0.1 from hk0)
      | some e =>
        rw [hkj] at hk0
        have ee : keyOf2 e = e0.1 := Option.some.inj hk0
        rw [← ee, eb] at r2
        exact ⟨e, rfl, r2⟩
  have two : ∀ (h2 : Heap), (∀ b ob, s.heap.get? b = some ob → ob.cls = .type "tuple" → h2.get? b = some ob) → ∀ (j : Nat) (b : Addr), bs[j]? = some b → ∃ e, ks[j]? = some e ∧ Two h2 (.ref b) e := by
    intro h2 kp j b hj
    obtain ⟨e, he, hb⟩ := key j b hj
    obtain ⟨_, its, rv, ot, hot, hct, nt, hdt⟩ := (show ObjOk X.prog X.w H s.heap b (.tup [.str e.1, .str e.2]) from I.hok b _ hb)
    obtain ⟨t, u, rfl⟩ : ∃ t u, its = [Value.str e.1 t, Value.str e.2 u] := by
      cases rv with
      | cons r1 r2 =>
        cases r2 with
        | cons r2 r3 =>
          cases r3
          obtain ⟨t, rfl⟩ := r1
          obtain ⟨u, rfl⟩ := r2
          exact ⟨t, u, rfl⟩
    exact ⟨e, he, b, t, u, rfl, ot, kp _ _ hot hct, hct, nt, hdt⟩
  rw [ea]
  refine wpAny_bind (wpAny_newList ?_ (by rw [List.length_map, sizeLine_eq]; omega))
  have hob : (h'.push (seqObj "list" (bs.map Value.ref).toArray 0)).get? h'.objs.size = some (seqObj "list" (bs.map Value.ref).toArray 0) := Heap.get?_push_size _ rfl
  show wpAny _ _ _ _ _ { s with heap := h'.push (seqObj "list" (bs.map Value.ref).toArray 0), toks := tk }
  have kb : ∀ b o, s.heap.get? b = some o → (h'.push (seqObj "list" (bs.map Value.ref).toArray 0)).get? b = some o := fun b o e => Heap.get?_push_of_some _ (hk b o e)
  have ne0 : ∀ b o, s.heap.get? b = some o → b ≠ h'.objs.size := fun b o e => Nat.ne_of_lt (Heap.lt_size (hk b o e))
  generalize hh2 : h'.push (seqObj "list" (bs.map Value.ref).toArray 0) = h2 at hob kb ⊢
  refine wpAny_bind (wpAny_holding (wpAny_call_entry PyProof.Rows.slot_list_sort ⟨_, hob, rfl⟩ PyProof.Rows.entry_list_sort
    (SrtO.list_sort_ord (s := { s with heap := h2, toks := tk }) (lex2_swo fun v => twoAt h2 v) hob (by rw [List.length_map, sizeLine_eq]; omega) (fun h2' => two_sortable (s := { s with heap := h2, toks := tk }) h2' (fun v hv => ?_) fun o e => ?_) fun out0 o3 o2 => ⟨.none, rfl, ?_⟩) (PyProof.Rows.args_list_sort _)))
  · obtain ⟨b, hb, rfl⟩ := List.mem_map.mp hv
    obtain ⟨j, hj⟩ := List.mem_iff_getElem?.mp hb
    obtain ⟨e, _, ht⟩ := two h2 (fun b ob e _ => kb b ob e) j b hj
    exact ⟨e, ht⟩
  · have e' : some o = some (seqObj "list" (bs.map Value.ref).toArray 0) := e.symm.trans hob
    cases e'
    intro c
    exact absurd (Value.type.inj c) (by decide)
  · obtain ⟨zs, pz, ez⟩ := perm_lift (fun z : Addr × Str × Str => Value.ref z.1) o2.perm (bs.zip ks) (by
      have m1 : (bs.zip ks).map (·.1) = bs := List.map_fst_zip (by rw [lb]; exact Nat.le_refl _)
      conv => rhs; rw [← m1]
      rw [List.map_map] <;> rfl)
    generalize hou : out0.toArray = out at *
    have hout0 : out.toList = out0 := by rw [← hou]
    have idx : ∀ z ∈ zs, ∃ j : Nat, bs[j]? = some z.1 ∧ ks[j]? = some z.2 := by
      intro z' hz'
      obtain ⟨j, hj⟩ := List.mem_iff_getElem?.mp (pz.mem_iff.mp hz')
      exact ⟨j, List.getElem?_zip_eq_some.mp hj⟩
    have tw : ∀ z ∈ zs, twoAt h2 (.ref z.1) = z.2 := by
      intro z' hz'
      obtain ⟨j, j1, j2⟩ := idx z' hz'
      obtain ⟨e, he, ht⟩ := two h2 (fun b ob e _ => kb b ob e) j z'.1 j1
      rw [ht.at]
      exact Option.some.inj (he.symm.trans j2)
    have hout : out.toList = zs.map fun z => Value.ref z.1 := by
      rw [hout0, ← ez]
    have hperm : (zs.map (·.2)).Perm ks := by
      have e := pz.map (·.2)
      have m2 : (bs.zip ks).map (·.2) = ks := List.map_snd_zip (by rw [lb]; exact Nat.le_refl _)
      rw [m2] at e
      exact e
    have hsort : (zs.map (·.2)).Pairwise (fun e f => lex2 f e = false) := by
      have o3 : out0.Pairwise fun x y => lex2 (twoAt h2 y) (twoAt h2 x) = false := o3
      rw [← ez, List.pairwise_map] at o3
      rw [List.pairwise_map]
      refine List.Pairwise.imp_of_mem (fun {x y} hx hy h => ?_) o3
      rw [tw x hx, tw y hy] at h
      exact h
    have kS : ∀ b o, s.heap.get? b = some o → (sortedHeap h2 h'.objs.size (bs.map Value.ref) out).get? b = some o := fun b o e => (PyProof.Rows.sortedHeap_old (ne0 b o e) (Heap.lt_size (kb b o e))).trans (kb b o e)
    obtain ⟨eF, heF⟩ := PyProof.Rows.sortedHeap_at (vs := bs.map Value.ref) (out := out) hob
    have I1 : Inv X pins σ H { s with heap := h', toks := tk } := I.kept (t' := tk) hk
    have kS' : ∀ b o, h'.get? b = some o → (sortedHeap h2 h'.objs.size (bs.map Value.ref) out).get? b = some o := fun b o e => by
      have e2 : h2.get? b = some o := by rw [← hh2]; exact Heap.get?_push_of_some _ e
      exact (PyProof.Rows.sortedHeap_old (Nat.ne_of_lt (Heap.lt_size e)) (Heap.lt_size e2)).trans e2
    have hlen : (zs.map fun z => V.ref z.1).length ≤ sizeLine := by
      have e := hperm.length_eq
      rw [List.length_map] at e
      rw [List.length_map, sizeLine_eq]
      omega
    have rv : Vals (zs.map fun z => V.ref z.1) out.toList := by
      rw [hout]
      exact vals_maps (fun z : Addr × Str × Str => V.ref z.1) (fun z => Value.ref z.1) zs fun _ _ => rfl
    have I2 : Inv X pins σ (upd H h'.objs.size (.lst (zs.map fun z => V.ref z.1))) { s with heap := sortedHeap h2 h'.objs.size (bs.map Value.ref) out, toks := tk } :=
      I1.laid (t' := tk) kS' (Nat.le_refl _) (show ObjOk X.prog X.w _ _ _ (.lst (zs.map fun z => V.ref z.1)) from ⟨hlen, out.toList, eF, rv, heF⟩)
    refine wpAny_pure ⟨_, rfl, .ref h'.objs.size, _, I2, rfl, q _ zs (I1.hok.fresh (Nat.le_refl _)) hperm hsort fun z' hz' => ?_⟩
    obtain ⟨j, j1, j2⟩ := idx z' hz'
    obtain ⟨e, he, hH⟩ := key j z'.1 j1
    have ee : e = z'.2 := Option.some.inj (he.symm.trans j2)
    rw [ee] at hH
    exact hH
end
theorem perm_uniq {α : Type} {lt : α → α → Bool} (anti : ∀ x y, lt x y = false → lt y x = false → x = y) : ∀ (l m : List α), l.Perm m → l.Pairwise (fun x y => lt y x = false) → m.Pairwise (fun x y => lt y x = false) → l = m
  | [], m, p, _, _ => by
    have := p.length_eq
    cases m with
    | nil => rfl
    | cons y m => simp at this
  | x :: l, [], p, _, _ => by
    have := p.length_eq
    simp at this
  | x :: l, y :: m, p, h1, h2 => by
    obtain ⟨a1, b1⟩ := List.pairwise_cons.mp h1
    obtain ⟨a2, b2⟩ := List.pairwise_cons.mp h2
    have e : x = y := by
      rcases List.mem_cons.mp (p.mem_iff.mp (List.mem_cons_self (a := x) (l := l))) with e | hx
      · exact e
      · rcases List.mem_cons.mp (p.mem_iff.mpr (List.mem_cons_self (a := y) (l := m))) with e | hy
        · exact e.symm
        · exact anti x y (a2 x hx) (a1 y hy)
    subst e
    rw [perm_uniq anti l m (List.Perm.cons_inv p) b1 b2]
theorem lexL_anti {e f : P2} (h1 : lexL e f = false) (h2 : lexL f e = false) : e = f := by
  unfold lexL at h1 h2
  by_cases z : e.1 = f.1
  · rw [if_pos z] at h1
    rw [if_pos z.symm] at h2
    have := List.le_antisymm (List.not_lt.mp (of_decide_eq_false h2)) (List.not_lt.mp (of_decide_eq_false h1))
    exact Prod.ext z this
  · rw [if_neg z] at h1
    rw [if_neg (Ne.symm z)] at h2
    exact absurd (List.le_antisymm (List.not_lt.mp (of_decide_eq_false h2)) (List.not_lt.mp (of_decide_eq_false h1))) z
section
variable {K : PySem.W.Frag} {G : List (Option Sl)} {M M1 : List MO} {td : TE}
/-- the sorted keys are so, where so is the keys in their order -/
theorem ev_sortN {kvs : Tb} {ks so : List P2} (hd : EvE K td G M (.d (dicD kvs)) M1) (hk : kvs.map (·.1) = ks.map fun e => [e.1, e.2]) (hl : ks.length ≤ 100000) (hp : so.Perm ks) (hs : so.Pairwise fun e f => lexL f e = false) :
    EvE K (tCB rSortN (tCons td tNil)) G M (.d (.lst (so.map fun e => .tup [.str e.1, .str e.2]))) M1 := fun F B as σ H ow sl Q q =>
  hd F B as σ H ow sl _ fun v B1 as1 H1 g1 p1 o1 r1 => by
    obtain ⟨a, rfl, ha⟩ := r1 B1 (Same.refl _)
    refine ⟨a, encTb kvs, ks.map key2, rfl, o1.bb _ _ ha, ?_, by rw [List.length_map]; exact hl, fun l ps hn hperm hsort hz => ?_⟩
    · have e1 : (encTb kvs).map (·.1) = (kvs.map (·.1)).map fun k => k.map fun x => (Sum.inr (tx x) : Key) := by rw [List.map_map, List.map_map] <;> rfl
      rw [e1, hk, List.map_map, List.map_map] <;> rfl
    · obtain ⟨qs, pq, eqs⟩ := perm_lift key2 hperm ks rfl
      have e0 : qs = so := perm_uniq (lt := lexL) (fun x y h1 h2 => lexL_anti h1 h2) qs so (pq.trans hp.symm) (by
        rw [← eqs, List.pairwise_map] at hsort
        exact hsort.imp fun {x y} h => by rw [lex_key] at h; exact h) hs
      have eq : ps.map (·.2) = so.map key2 := by rw [← eqs, e0]
      obtain ⟨B2, g2, o2, hB⟩ := o1.tups (ps.map fun z => (z.1, [V.str z.2.1, V.str z.2.2])) fun z hz' => by
        obtain ⟨y, hy, rfl⟩ := List.mem_map.mp hz'
        exact hz y hy
      have g3 := o2.gr hn (.lst (ps.map fun z => V.ref z.1))
      refine q _ _ as1 _ ((g1.trans g2).trans g3) p1 (o2.new hn _) ⟨l, _, rfl, .inl (.inl upd_same), ?_⟩
      have all : ∀ (ps : List (Addr × Str × Str)) (so : List P2), ps.map (·.2) = so.map key2 → (∀ z ∈ ps, B2 z.1 = some (.tup [V.str z.2.1, V.str z.2.2])) → RpL K B2 (so.map fun e => Dt.tup [.str e.1, .str e.2]) (ps.map fun z => V.ref z.1) := by
        intro ps
        induction ps with
        | nil =>
          intro so e _
          cases so with
          | nil => rfl
          | cons x xs => cases e
        | cons z ps ih =>
          intro so e hb
          cases so with
          | nil => cases e
          | cons x xs =>
            rw [List.map_cons, List.map_cons] at e
            injection e with e1 e2
            refine ⟨_, _, rfl, ⟨z.1, _, rfl, .inl (.inl (hb z List.mem_cons_self)), ?_⟩, ih xs e2 fun y hy => hb y (List.mem_cons_of_mem _ hy)⟩
            rw [e1]
            exact ⟨_, _, rfl, rfl, _, _, rfl, rfl, rfl⟩
      exact RpL.mono g3.1 _ _ (all ps so eq fun z hz' => hB (z.1, [V.str z.2.1, V.str z.2.2]) (List.mem_map.mpr ⟨z, hz', rfl⟩))
end
end DJ
/-! ### the hash of None -/
namespace DJ
open PySem PySem.W PyProof.Rows PySem.Spec L2
section
variable {prog : Program} {w : World} {A : Around} {E : Value → Shared → Prop} {s : Shared}
theorem pyHash_none {Q : Int → Shared → Prop} (h : Q 0xFCA86420 { s with toks := s.toks + 1 }) : wpAny (model prog w) A (pyHash .none) Q E s := by
  have tn : s.TypeIs .none "NoneType" := rfl
  unfold pyHash
  have hv : [Value.none].any Value.onHeap = false := rfl
  refine wpAny_bind ?_
  rw [cRoomFor, if_neg (by rw [hv]; exact Bool.false_ne_true)]; refine wpAny_pure ?_
  refine wpAny_bind (wpAny_specialOf tn PySem.F.slot_NoneType_hash.lookup ?_)
  show wpAny _ _ (if (some (Value.builtin "NoneType.__hash__") == some Value.none) = true then _ else _) Q E s
  rw [if_neg (by rw [beq_builtin_none]; exact Bool.false_ne_true)]
  refine wpAny_bind (wpAny_specialOf tn PySem.F.slot_NoneType_hash.lookup ?_)
  show wpAny _ _ (callSpecialIfBoundUnlessNone? .none "__hash__" _ >>= _) Q E s
  refine wpAny_bind (wpAny_callSpecialIfBoundUnlessNone?_slot tn PySem.F.slot_NoneType_hash
    (wpAny_call_entry PySem.F.slot_NoneType_hash tn PySem.F.entry_NoneType_hash
      (show wpAny _ _ (do let _ ← slotArgs "__hash__" 0 _; retInt 0xFCA86420) _ _ s from ?_) (by kernel_rfl)))
  refine wpAny_bind (wpAny_pure ?_)
  refine wpAny_ret_mkInt ?_
  show wpAny _ _ (if (decide (-(2 : Int) ^ 63 ≤ 0xFCA86420) && decide ((0xFCA86420 : Int) < 2 ^ 63)) = true then _ else _) Q E _
  rw [if_pos (by decide)]
  exact wpAny_pure h
end
end DJ
/-! ### None is no key of a dict whose keys are tuples -/
namespace DJ
open PySem PySem.W PyProof.Rows PySem.Spec L2
section
variable {prog : Program} {w : World} {K : Type} [DecidableEq K] {knd : HeapKind prog w K} {A : Around} {E : Value → Shared → Prop} {s : Shared}
theorem walk_none {d : Addr} {o : Obj} {es : Array DictEntry} {ep : Nat} {hs : Int} {places : List Nat} {Q : Option Nat → Shared → Prop} (ho : s.heap.get? d = some o) (hd : o.data = .dict es ep)
    (hne : ∀ e ∈ es, ∀ (Q : Bool → Shared → Prop), Q false s → wpAny (model prog w) A (eqBool e.key .none) Q E s) (h : Q none s) : wpAny (model prog w) A (dictWalkPlain d .none hs es places) Q E s := by
  unfold dictWalkPlain
  refine wpAny_bind ?_
  refine wpAny_forIn_list _ (fun rest b s' => s' = s ∧ b = (none, ())) _ ?_ ?_ _ _ ⟨rfl, rfl⟩
  · rintro i rest b s' ⟨rfl, rfl⟩
    cases hi : es[i]? with
    | none => exact wpAny_pure ⟨rfl, rfl⟩
    | some e =>
      have hm : e ∈ es := Array.mem_of_getElem? hi
      dsimp only
      by_cases hh : (e.hash == hs) = true
      · rw [if_pos hh]
        refine wpAny_bind (wpAny_dictEpoch ho hd (wpAny_bind (hne e hm _ (wpAny_bind (wpAny_dictEpoch ho hd ?_)))))
        show wpAny _ _ (if (ep != ep) = true then _ else _) _ E _
        rw [if_neg (by simp)]
        simp only [Bool.false_eq_true, if_false]
        refine wpAny_bind (wpAny_rule ?_)
        exact wpAny_pure ⟨rfl, rfl⟩
      · rw [if_neg hh]
        exact wpAny_pure ⟨rfl, rfl⟩
  · rintro b s' ⟨rfl, rfl⟩
    exact wpAny_pure h
theorem quiet0 {Q : Bool → Shared → Prop} (h : Q true s) : wpAny (model prog w) A (eqIsQuiet 8 .none) Q E s := by
  unfold eqIsQuiet
  exact wpAny_pure h
theorem quiet_none {st : List Value} {Q : Bool → Shared → Prop} (hst : ∀ v ∈ st, ∃ k' b, v = .ref b ∧ knd.is s.heap k' b) (h : Q false s) : wpAny (model prog w) A (tableMayTell .none st) Q E s := by
  unfold tableMayTell
  split
  · exact wpAny_pure h
  · refine wpAny_bind (quiet0 ?_)
    simp only [Bool.not_true, Bool.false_eq_true, if_false]
    refine wpAny_bind ?_
    refine wpAny_forIn_list _ (fun rest r s' => s' = s ∧ r = (none, ()) ∧ ∀ v ∈ rest, ∃ k' b, v = .ref b ∧ knd.is s.heap k' b) _ ?_ ?_ _ _ ⟨rfl, rfl, hst⟩
    · rintro x rest r s' ⟨rfl, rfl, hr⟩
      obtain ⟨k', b, rfl, hb⟩ := hr x List.mem_cons_self
      refine wpAny_bind (knd.quiet hb ?_)
      simp only [Bool.not_true, Bool.false_eq_true, if_false]
      exact wpAny_pure ⟨rfl, rfl, fun v hv => hr v (List.mem_cons_of_mem _ hv)⟩
    · rintro r s' ⟨rfl, rfl, _⟩
      exact wpAny_pure h
theorem find_none {d : Addr} {o : Obj} {es : Array DictEntry} {ep : Nat} {hs : Int} {Q : Option Nat → Shared → Prop} (ho : s.heap.get? d = some o) (hd : o.data = .dict es ep)
    (hk : ∀ e ∈ es, ∃ k' b, e.key = .ref b ∧ knd.is s.heap k' b) (hne : ∀ e ∈ es, ∀ (Q : Bool → Shared → Prop), Q false s → wpAny (model prog w) A (eqBool e.key .none) Q E s) (h : Q none s) : wpAny (model prog w) A (dictFind d .none hs) Q E s := by
  have hst : ∀ v ∈ (placesWithHash es.size (fun i => es[i]?.map (·.hash)) hs).filterMap (fun i => es[i]?.map (·.key)), ∃ k' b, v = .ref b ∧ knd.is s.heap k' b := by
    intro v hv
    obtain ⟨i, _, hi⟩ := List.mem_filterMap.mp hv
    cases hei : es[i]? with
    | none => rw [hei] at hi; cases hi
    | some e =>
      rw [hei] at hi
      obtain rfl : e.key = v := by simpa using hi
      exact hk e (Array.mem_of_getElem? hei)
  unfold dictFind
  try with_reducible refine wpAny_holding ?_
  refine wpAny_bind (wpAny_dictEntries ho hd ?_)
  dsimp only
  by_cases hc : (Value.none :: (placesWithHash es.size (fun i => es[i]?.map (·.hash)) hs).filterMap (fun i => es[i]?.map (·.key))).all carriedByValue = true
  · rw [if_pos hc]
    exact walk_none ho hd hne h
  · rw [if_neg hc]
    by_cases hone : (((placesWithHash es.size (fun i => es[i]?.map (·.hash)) hs).filterMap (fun i => es[i]?.map (·.key))) == [Value.none]) = true <;>
    (first | rw [if_pos hone] | rw [if_neg hone]) <;> (first | refine wpAny_bind (wpAny_pure ?_) | refine wpAny_bind (quiet_none hst ?_)) <;> (
      rw [if_neg (by simp)]
      refine wpAny_bind ?_
      refine wpAny_forIn_list _ (fun rest b s' => s' = s ∧ b = (none, none)) _ ?_ ?_ _ _ ⟨rfl, rfl⟩
      · rintro i rest b s' ⟨rfl, rfl⟩
        cases hi : es[i]? with
        | none => exact wpAny_pure ⟨rfl, rfl⟩
        | some e =>
          have hm : e ∈ es := Array.mem_of_getElem? hi
          dsimp only
          by_cases hh : (e.hash == hs) = true
          · rw [if_pos hh]
            refine wpAny_bind (wpAny_dictEpoch ho hd (wpAny_bind (hne e hm _ (wpAny_bind (wpAny_dictEpoch ho hd ?_)))))
            show wpAny _ _ (if (ep != ep) = true then _ else _) _ E _
            rw [if_neg (by simp)]
            simp only [Bool.false_eq_true, if_false]
            refine wpAny_bind (wpAny_rule ?_)
            first | rw [if_neg (by simp)] | skip
            first
              | exact wpAny_pure ⟨rfl, rfl⟩
              | exact wpAny_bind (wpAny_pure (wpAny_pure ⟨rfl, rfl⟩))
          · rw [if_neg hh]
            exact wpAny_pure ⟨rfl, rfl⟩
      · rintro b s' ⟨rfl, rfl⟩
        exact wpAny_pure h)
end
end DJ
/-! ### d.get(None, x) of a dict whose keys are tuples of texts -/
namespace DJ
open PySem PySem.W PyProof.Rows PySem.Spec L2
section
variable {prog : Program} {w : World} {K : Type} [DecidableEq K] {knd : HeapKind prog w K} {A : Around} {E : Value → Shared → Prop} {s : Shared}
theorem get_none {d : Addr} {xs : List (K × Addr × Value)} {Q : Option Value → Shared → Prop} (hm : s.heap.DictOfH knd d xs)
    (hne : ∀ x ∈ xs, ∀ (Q : Bool → Shared → Prop), Q false { s with toks := s.toks + 1 } → wpAny (model prog w) A (eqBool (.ref x.2.1) .none) Q E { s with toks := s.toks + 1 }) (h : Q none { s with toks := s.toks + 1 }) : wpAny (model prog w) A (dictGet d .none) Q E s := by
  obtain ⟨o, es, ep, ho, _, hd, he, his, hn⟩ := hm
  have hmem : ∀ e ∈ es, ∃ x ∈ xs, e = entryOfKey knd x := by
    intro e hin
    have : e ∈ xs.map (entryOfKey knd) := he ▸ Array.mem_toList_iff.mpr hin
    obtain ⟨x, hx, rfl⟩ := List.mem_map.mp this
    exact ⟨x, hx, rfl⟩
  unfold dictGet
  try with_reducible refine wpAny_holding ?_
  refine wpAny_bind (pyHash_none (wpAny_bind (find_none (knd := knd) (s := { s with toks := s.toks + 1 }) ho hd (fun e hin => ?_) (fun e hin Q hq => ?_) (wpAny_pure h))))
  · obtain ⟨x, hx, rfl⟩ := hmem e hin
    exact ⟨x.1, x.2.1, rfl, his x hx⟩
  · obtain ⟨x, hx, rfl⟩ := hmem e hin
    exact hne x hx Q hq
theorem meets_get_none {d : Addr} (hd : (d == sysModules) = false) (dflt : Value) :
    MeetsIn prog w (Builtin.«dict.get» ⟨[.ref d, .none, dflt], []⟩) (fun A R s => (∃ xs, s.heap.DictOfH knd d xs ∧ ∀ x ∈ xs, ∀ (E : Value → Shared → Prop) (Q : Bool → Shared → Prop), Q false { s with toks := s.toks + 1 } → wpAny (model prog w) A.in1 (eqBool (.ref x.2.1) .none) Q E { s with toks := s.toks + 1 }) ∧
      R (.ok (.ret dflt)) { s with toks := s.toks + 1 }) :=
  .of_wp fun A R s ⟨⟨xs, hm, hne⟩, h⟩ => by
    show wpAny _ _ (dictGet d .none >>= _) _ _ s
    refine wpAny_bind (get_none hm (fun x hx Q hq => hne x hx _ Q hq) ?_)
    show wpAny _ _ (Builtin.Dict.missed d .none >>= _) _ _ _
    exact wpAny_bind (wpAny_missed_other hd (wpAny_pure ⟨dflt, rfl, h⟩))
/-- a tuple of texts is not None -/
theorem tup_none {b : Addr} {xs : List Str} {vs : List Value} {Q : Bool → Shared → Prop} (hb : IsTup s.heap b vs.toArray) (hv : Vals (xs.map V.str) vs) (ha : ∀ x ∈ xs, (PyData.str x).canLay0 = true) (hu : A.units < cLine) (h : Q false s) : wpAny (model prog w) A (eqBool (.ref b) .none) Q E s := by
  have all : ∀ {xs : List Str} {vs : List Value}, Vals (xs.map V.str) vs → ReadsAll s.heap vs (xs.map PyData.str) [] := by
    intro xs
    induction xs with
    | nil =>
      intro vs hv
      cases hv
      exact .nil
    | cons x xs ih =>
      intro vs hv
      cases hv with
      | cons r1 r2 =>
        obtain ⟨t, rfl⟩ := r1
        exact .cons (as := []) (.str x t) (ih r2)
  obtain ⟨o, ho, hc, n, hd⟩ := hb
  refine PySem.SeqAt.eqBoolOverData prog w A E s (.ref b) .none (.tuple (xs.map PyData.str)) .none [] [] Q (.tuple ho hc hd (by simpa using all hv)) .none ?_ rfl ?_ h
  · have lay : ∀ xs : List Str, (∀ x ∈ xs, (PyData.str x).canLay0 = true) → PyData.canLayAll0 (xs.map PyData.str) = true := fun xs ha => by
      induction xs with
      | nil => rfl
      | cons x xs ih =>
        show (PyData.canLay0 (.str x) && PyData.canLayAll0 (xs.map PyData.str)) = true
        rw [ih fun y hy => ha y (List.mem_cons_of_mem _ hy), ha x List.mem_cons_self] <;> rfl
    exact lay xs ha
  · show A.units + min _ 0 < cLine
    omega
end
end DJ
/-! ### .get(k, x) of a dict of tuples of texts, k such a tuple or None -/
namespace DJ
open PySem PySem.W PyProof.Rows PySem.Spec L2
/-- all keys are told in signs below 128 -/
def AscTb (kvs : Tb) : Prop := ∀ kv ∈ kvs, ∀ l ∈ kv.1, (PyData.str (tx l)).canLay0 = true
section
variable {X : Cx} {A : Around} {E : Value → Shared → Prop} {s : Shared} {H : Hp} {σ : L2.St} {pins : List (Addr × Obj)} {a : Addr}
theorem d_getN {kvs : Tb} {d : V} {r : Value} {Q : Value → Shared → Prop} (hu : A.units + 1 < cLine) (I : Inv X pins σ H s) (e : Rd H a (.dT (encTb kvs))) (ha : AscTb kvs) (rd : RelV d r) (h : ∀ w' s', Inv X pins σ H s' → RelV d w' → Q w' s') :
    wpAny (model X.prog X.w) A (call (.builtin "dict.get") [.ref a, .none, r]) Q E s := by
  obtain ⟨z, hd, xs, rel, dd⟩ := dt_rd I.hok e
  refine call_meetsIn PySem.F.slot_dict_get dd.typeIs PySem.F.entry_dict_get (PySem.F.args_dict_get_3 _ _ _) (meets_get_none (knd := tupleKind (mixKind X.prog X.w)) hd r) ⟨⟨xs, dd, fun x hx E Q hq => ?_⟩, h _ _ (I.tok _) rd⟩
  obtain ⟨j, hj⟩ := List.mem_iff_getElem?.mp hx
  obtain ⟨e0, he0, r1, r2, r3⟩ := DX.pget rel hj
  have hm := List.mem_of_getElem? he0
  obtain ⟨kv, hkv, rfl⟩ := List.mem_map.mp hm
  obtain ⟨_, its, rv, ot, hot, hct, nt, hdt⟩ := (show ObjOk X.prog X.w H s.heap x.2.1 _ from I.hok x.2.1 _ r2)
  refine tup_none (xs := kv.1.map tx) (vs := its) ⟨ot, hot, hct, nt, hdt⟩ ?_ (fun y hy => ?_) ?_ hq
  · have e1 : (kv.1.map tx).map V.str = (encT kv).1.map kV := by
      rw [List.map_map]
      show _ = (kv.1.map fun k => (Sum.inr (tx k) : Key)).map kV
      rw [List.map_map] <;> rfl
    rw [e1]
    exact rv
  · obtain ⟨l, hl, rfl⟩ := List.mem_map.mp hy
    exact ha kv hkv l hl
  · show A.in1.units < cLine
    have : A.in1.units ≤ A.units + 1 := by first | exact Nat.le_refl _ | (unfold Around.in1; simp)
    omega
end
end DJ
namespace DJ
open PySem PySem.W PyProof.Rows PySem.Spec L2
def tGetN (td ty te : TE) : TE := fun σ H Q => td σ H fun x H1 => ∃ a, x = .ref a ∧ IsD H1 a ∧ ty σ H1 fun y H2 => te σ H2 fun z H3 => ∃ o, (DGet H3 a y o ∨ (y = .non ∧ o = none ∧ ∃ kvs : Tb, Rd H3 a (.dT (encTb kvs)) ∧ AscTb kvs)) ∧ Q (o.getD z) H3
section
variable {X : Cx} {td ty te : TE} {o e f : Expr} {apos cpos : Pos}
theorem pe_getN (hu : X.A.units + 1 < cLine) (ho : PE X o td) (he : PE X e ty) (hf : PE X f te) (m : M2 X o "get" apos e f cpos) : PE X (.Call (.Attribute o "get" apos) [e, f] [] cpos) (tGetN td ty te) := by
  refine ⟨fun pins s σ H Q I h => ?_⟩
  refine wpAny_Call_method m.base m.few m.line PySem.F.plainAttrs_dict PySem.F.slot_dict_get PySem.F.type_dict_get (thn (ho.run pins s σ H _ I h) fun u s1 ⟨x, H1, I1, rx, a, ex, d, q1⟩ => ?_)
  subst ex
  obtain rfl : u = Value.ref a := rx
  obtain ⟨t1, t2, _⟩ := isD_at I1 d
  refine ⟨t1, t2, ?_⟩
  rw [m.trees]
  refine Calls.callWith_builtin rfl (Calls.evalArgs_plain (Calls.spliced_cons (thn (he.run pins s1 σ H1 _ I1 q1) fun iv s2 ⟨y, H2, I2, ry, q2⟩ =>
    Calls.spliced_cons (thn (hf.run pins s2 σ H2 _ I2 q2) fun fv s3 ⟨z, H3, I3, rz, ov, g, q3⟩ => Calls.spliced_nil ?_))))
  rcases g with g | ⟨e1, e2, kvs, g, ha⟩
  · exact d_get2 hu I3 g ry rz fun w' s4 I4 rw' => ⟨_, H3, I4, rw', q3⟩
  · subst e1; subst e2
    obtain rfl : iv = Value.none := ry
    exact d_getN hu I3 g ha rz fun w' s4 I4 rw' => ⟨_, H3, I4, rw', q3⟩
end
/-- a tuple of texts, or None -/
def keyN : Option (List (List Nat)) → Dt
  | some ks => keyD ks
  | none => .non
section
variable {K : PySem.W.Frag} {G : List (Option Sl)} {M M1 M2 M3 : List MO} {td ty te : TE}
theorem ev_getN {k : Nat} {kvs kv0 : Tb} {ks : Option (List (List Nat))} {z : List Nat} (hd : EvE K td G M (.o k) M1) (hk : EvE K ty G M1 (.d (keyN ks)) M2) (hx : EvE K te G M2 (.d (.str z)) M3) (h1 : M1[k]? = some (dcO kv0)) (hm : M3[k]? = some (dcO kvs)) (ha : AscTb kvs) :
    EvE K (tGetN td ty te) G M (.d (.str ((ks.bind (getTb kvs)).getD z))) M3 := fun F B as σ H ow sl Q q =>
  hd F B as σ H ow sl _ fun v B1 as1 H1 g1 p1 o1 r1 => by
    obtain ⟨a, hA, rfl⟩ := r1
    obtain ⟨_, _, own1, _⟩ := o1.own k a _ hA h1 (fun z => nomatch z)
    have own1 : H1 a = some (.dT (encTb kv0)) := own1
    refine ⟨a, rfl, .inr ⟨_, .inl own1⟩, hk F B1 as1 σ H1 o1 (sl.mono g1.1 p1) _ fun y B2 as2 H2 g2 p2 o2 r2 => hx F B2 as2 σ H2 o2 ((sl.mono g1.1 p1).mono g2.1 p2) _ fun w B3 as3 H3 g3 p3 o3 r3 => ?_⟩
    obtain ⟨_, _, own3, _⟩ := o3.own k a _ ((p2.trans p3).get hA) hm (fun z => nomatch z)
    have own3 : H3 a = some (.dT (encTb kvs)) := own3
    have r3 : w = .str (tx z) := r3
    subst r3
    cases ks with
    | none =>
      have r2 : y = .non := r2
      subst r2
      exact ⟨none, .inr ⟨rfl, rfl, kvs, .inl own3, ha⟩, q _ B3 as3 H3 ((g1.trans g2).trans g3) ((p1.trans p2).trans p3) o3 rfl⟩
    | some ks =>
      obtain ⟨b, rfl, hb⟩ := r2 B2 (Same.refl _)
      refine ⟨_, .inl (.inr ⟨_, _, b, .inl own3, rfl, o3.bb _ _ (g3.1 _ _ hb), rfl⟩), q _ B3 as3 H3 ((g1.trans g2).trans g3) ((p1.trans p2).trans p3) o3 ?_⟩
      rw [get_tb]
      show SlR K B3 as3 (.d (.str ((getTb kvs ks).getD z))) _
      cases getTb kvs ks with
      | none => rfl
      | some u => rfl
end
end DJ
/-! ### a table put together word by word -/
namespace DJ
open PySem PySem.Spec PyProof.Rows L2
theorem get_put (T : Tb) (k : List (List Nat)) (v : List Nat) (k' : List (List Nat)) : getTb (putTb T k v) k' = if k' = k then some v else getTb T k' := by
  have upd : ∀ T : Tb, (T.map fun kv => if kv.1 = k then (kv.1, v) else kv).find? (fun kv => decide (kv.1 = k')) = (T.find? fun kv => decide (kv.1 = k')).map fun kv => if kv.1 = k then (kv.1, v) else kv := by
    intro T
    induction T with
    | nil => rfl
    | cons x T ih =>
      rw [List.map_cons, List.find?_cons, List.find?_cons]
      have e : (if x.1 = k then (x.1, v) else x).1 = x.1 := by split <;> rfl
      rw [e]
      by_cases h : x.1 = k'
      · rw [decide_eq_true h] <;> rfl
      · rw [decide_eq_false h]
        exact ih
  unfold putTb getTb
  by_cases h : T.any (fun kv => decide (kv.1 = k)) = true
  · rw [if_pos h, upd, Option.map_map]
    by_cases e : k' = k
    · subst e
      rw [if_pos rfl]
      obtain ⟨x, hx, hk⟩ := List.any_eq_true.mp h
      cases hf : T.find? fun kv => decide (kv.1 = k') with
      | none => exact absurd hk (by have := List.find?_eq_none.mp hf x hx; simpa using this)
      | some y =>
        have hy := List.find?_some hf
        show some (if y.1 = k' then (y.1, v) else y).2 = some v
        rw [if_pos (of_decide_eq_true hy)]
    · rw [if_neg e]
      cases hf : T.find? fun kv => decide (kv.1 = k') with
      | none => rfl
      | some y =>
        have hy0 := List.find?_some hf
        have hy : y.1 = k' := of_decide_eq_true hy0
        show some (if y.1 = k then (y.1, v) else y).2 = some y.2
        rw [if_neg (by rw [hy]; exact e)]
  · rw [if_neg h]
    rw [List.find?_append]
    have hno : ∀ y ∈ T, y.1 ≠ k := fun y hy e => h (List.any_eq_true.mpr ⟨y, hy, decide_eq_true e⟩)
    by_cases e : k' = k
    · subst e
      rw [if_pos rfl, List.find?_eq_none.mpr (fun y hy => by simpa using hno y hy)]
      rw [Option.none_or, List.find?_cons, decide_eq_true rfl] <;> rfl
    · rw [if_neg e]
      cases hf : T.find? fun kv => decide (kv.1 = k') with
      | none =>
        rw [Option.none_or, List.find?_cons, decide_eq_false (Ne.symm e)] <;> rfl
      | some y => rfl
section
variable (cw : List Nat → Option (List Nat × List Nat)) (lt : List Nat → List Nat → Bool) (nn : List Nat)
def tabS (T : Tb) (w : List Nat) : Tb := match cw w with
  | none => T
  | some k => if lt w ((getTb T [k.1, k.2]).getD nn) = true then putTb T [k.1, k.2] w else T
/-- each key's word is the least one so far -/
structure TabOk (T : Tb) (S : List Nat → Prop) : Prop where
  all : ∀ e w, cw w = some e → S w → ∃ v, getTb T [e.1, e.2] = some v ∧ lt w v = false
  key : ∀ k v, getTb T k = some v → ∃ e, k = [e.1, e.2] ∧ cw v = some e ∧ S v
theorem two_inj {a b : List Nat × List Nat} (h : [a.1, a.2] = [b.1, b.2]) : a = b := by
  injection h with h1 h2
  injection h2 with h2 _
  exact Prod.ext h1 h2
theorem tab_step {T : Tb} {S : List Nat → Prop} {w : List Nat} (h : TabOk cw lt T S) (hr : ∀ a, lt a a = false) (hs : ∀ a b, lt a b = true → lt b a = false) (ht : ∀ a b c, lt b a = false → lt c b = false → lt c a = false) (hn : lt w nn = true) :
    TabOk cw lt (tabS cw lt nn T w) fun x => S x ∨ x = w := by
  unfold tabS
  cases hw : cw w with
  | none =>
    refine ⟨fun e x hx hS => ?_, fun k v hv => ?_⟩
    · rcases hS with hS | rfl
      · exact h.all e x hx hS
      · rw [hw] at hx; cases hx
    · obtain ⟨e, h1, h2, h3⟩ := h.key k v hv
      exact ⟨e, h1, h2, .inl h3⟩
  | some k =>
    show TabOk cw lt (if lt w ((getTb T [k.1, k.2]).getD nn) = true then putTb T [k.1, k.2] w else T) _
    by_cases hl : lt w ((getTb T [k.1, k.2]).getD nn) = true
    · rw [if_pos hl]
      refine ⟨fun e x hx hS => ?_, fun k' v hv => ?_⟩
      · rw [get_put]
        by_cases e1 : [e.1, e.2] = [k.1, k.2]
        · rw [if_pos e1]
          refine ⟨w, rfl, ?_⟩
          rcases hS with hS | rfl
          · obtain ⟨v, h1, h2⟩ := h.all e x hx hS
            rw [e1] at h1
            rw [h1] at hl
            exact ht w v x (hs w v hl) h2
          · exact hr _
        · rw [if_neg e1]
          rcases hS with hS | rfl
          · exact h.all e x hx hS
          · rw [hw] at hx
            cases hx
            exact absurd rfl e1
      · rw [get_put] at hv
        by_cases e1 : k' = [k.1, k.2]
        · rw [if_pos e1] at hv
          cases hv
          exact ⟨k, e1, hw, .inr rfl⟩
        · rw [if_neg e1] at hv
          obtain ⟨e, h1, h2, h3⟩ := h.key k' v hv
          exact ⟨e, h1, h2, .inl h3⟩
    · rw [if_neg hl]
      refine ⟨fun e x hx hS => ?_, fun k' v hv => ?_⟩
      · rcases hS with hS | rfl
        · exact h.all e x hx hS
        · rw [hw] at hx
          cases hx
          cases hc : getTb T [k.1, k.2] with
          | none =>
            rw [hc] at hl
            exact absurd hn hl
          | some v =>
            rw [hc] at hl
            exact ⟨v, rfl, Bool.eq_false_iff.mpr hl⟩
      · obtain ⟨e, h1, h2, h3⟩ := h.key k' v hv
        exact ⟨e, h1, h2, .inl h3⟩
theorem tab_all (hr : ∀ a, lt a a = false) (hs : ∀ a b, lt a b = true → lt b a = false) (ht : ∀ a b c, lt b a = false → lt c b = false → lt c a = false) : ∀ (ws : List (List Nat)) {T : Tb} {S : List Nat → Prop}, TabOk cw lt T S → (∀ w ∈ ws, lt w nn = true) → TabOk cw lt (ws.foldl (tabS cw lt nn) T) fun x => S x ∨ x ∈ ws
  | [], T, S, h, _ => ⟨fun e x hx hS => h.all e x hx (hS.elim id fun z => nomatch z), fun k v hv => by
    obtain ⟨e, h1, h2, h3⟩ := h.key k v hv
    exact ⟨e, h1, h2, .inl h3⟩⟩
  | w :: ws, T, S, h, hn => by
    have h1 := tab_step cw lt nn h hr hs ht (hn w List.mem_cons_self)
    have h2 := tab_all hr hs ht ws h1 fun x hx => hn x (List.mem_cons_of_mem w hx)
    refine ⟨fun e x hx hS => h2.all e x hx ?_, fun k v hv => ?_⟩
    · rcases hS with hS | hS
      · exact .inl (.inl hS)
      · rcases List.mem_cons.mp hS with e | e
        · exact .inl (.inr e)
        · exact .inr e
    · obtain ⟨e, a, b, c⟩ := h2.key k v hv
      refine ⟨e, a, b, ?_⟩
      rcases c with (c | c) | c
      · exact .inl c
      · exact .inr (by rw [c]; exact List.mem_cons_self)
      · exact .inr (List.mem_cons_of_mem _ c)
end
end DJ
namespace T
open PySem PySem.Spec PyProof.Rows L2 DJ
/-! ### figures -/
def dig : Nat → Nat → List Nat
  | 0, _ => []
  | k + 1, m => dig k (m / 10) ++ [48 + m % 10]
theorem dig_len : ∀ k m, (dig k m).length = k
  | 0, _ => rfl
  | k + 1, m => by rw [dig, List.length_append, dig_len k]; rfl
theorem dig_mod : ∀ k m, dig k (m % 10 ^ k) = dig k m
  | 0, _ => rfl
  | k + 1, m => by
    have e1 : m % 10 ^ (k + 1) / 10 = m / 10 % 10 ^ k := by
      rw [Nat.pow_succ, Nat.mul_comm, Nat.mod_mul_right_div_self]
    have e2 : m % 10 ^ (k + 1) % 10 = m % 10 := Nat.mod_mod_of_dvd m (by rw [Nat.pow_succ]; exact Nat.dvd_mul_left 10 _)
    rw [dig, e1, e2, dig_mod k]
    rfl
theorem numL_dig : ∀ k n, 10 ^ k ≤ n → TL.numL n = TL.numL (n / 10 ^ k) ++ dig k n
  | 0, n, _ => by rw [Nat.pow_zero, Nat.div_one, dig, List.append_nil]
  | k + 1, n, h => by
    have h10 : 10 ≤ n := by
      have : 10 ^ 1 ≤ 10 ^ (k + 1) := Nat.pow_le_pow_right (by decide) (by omega)
      omega
    have hk : 10 ^ k ≤ n / 10 := by
      rw [Nat.le_div_iff_mul_le (by decide)]
      rw [Nat.pow_succ] at h
      exact h
    rw [TL.numL_step h10, numL_dig k (n / 10) hk, dig, List.append_assoc, Nat.div_div_eq_div_mul, Nat.pow_succ, Nat.mul_comm 10]
theorem dig_zero : ∀ k, dig k 0 = List.replicate k 48
  | 0 => rfl
  | k + 1 => by rw [dig, dig_zero k, List.replicate_succ']
theorem zfill_dig : ∀ k m, m < 10 ^ (k + 1) → zfillL (k + 1) (TL.numL m) = dig (k + 1) m
  | 0, m, h => by
    rw [TL.numL_lt (by simpa using h)]
    have : m % 10 = m := Nat.mod_eq_of_lt (by simpa using h)
    simp [zfillL, dig, this]
  | k + 1, m, h => by
    by_cases h10 : m < 10
    · rw [TL.numL_lt h10, dig, Nat.div_eq_of_lt h10, Nat.mod_eq_of_lt h10, dig_zero]
      rfl
    · have hk : m / 10 < 10 ^ (k + 1) := by
        rw [Nat.div_lt_iff_lt_mul (by decide), ← Nat.pow_succ]
        exact h
      rw [TL.numL_step (by omega), dig, ← zfill_dig k (m / 10) hk]
      unfold zfillL
      rw [List.length_append, List.length_singleton, ← List.append_assoc, Nat.add_sub_add_right]
def E60 : Nat := 10 ^ 60
theorem E60_pos : 0 < E60 := by decide
/-- what the loop leaves -/
def figW (n : Nat) (ps : List (List Nat)) : Nat × List (List Nat) :=
  if h : E60 ≤ n then figW (n / E60) (ps ++ [zfillL 60 (TL.numL (n % E60))]) else (n, ps)
termination_by n
decreasing_by exact Nat.div_lt_self (Nat.lt_of_lt_of_le E60_pos h) (by decide)
theorem figW_eq (n : Nat) (ps : List (List Nat)) : figW n ps = if E60 ≤ n then figW (n / E60) (ps ++ [zfillL 60 (TL.numL (n % E60))]) else (n, ps) := by
  rw [figW]
  split <;> rfl
theorem figW_is : ∀ (n : Nat) (ps : List (List Nat)), TL.numL (figW n ps).1 ++ (figW n ps).2.reverse.flatten = TL.numL n ++ ps.reverse.flatten ∧ (figW n ps).1 < E60 := by
  intro n
  induction n using Nat.strongRecOn with
  | ind n ih =>
    intro ps
    rw [figW_eq]
    by_cases h : E60 ≤ n
    · rw [if_pos h]
      have hlt : n / E60 < n := Nat.div_lt_self (Nat.lt_of_lt_of_le E60_pos h) (by decide)
      obtain ⟨i1, i2⟩ := ih (n / E60) hlt (ps ++ [zfillL 60 (TL.numL (n % E60))])
      refine ⟨?_, i2⟩
      rw [i1, List.reverse_append, List.reverse_singleton, List.singleton_append, List.flatten_cons, ← List.append_assoc]
      congr 1
      have e1 : zfillL 60 (TL.numL (n % E60)) = dig 60 (n % E60) := zfill_dig 59 _ (Nat.mod_lt _ E60_pos)
      have e2 : dig 60 (n % E60) = dig 60 n := dig_mod 60 n
      rw [e1, e2]
      exact (numL_dig 60 n h).symm
    · rw [if_neg h]
      exact ⟨rfl, by omega⟩
theorem figW_P : ∀ (n : Nat) (ps : List (List Nat)), (TL.numL n).length + 60 * ps.length ≤ 200000 → (∀ x ∈ ps, x.length = 60) → (TL.numL (figW n ps).1).length + 60 * (figW n ps).2.length ≤ 200000 ∧ ∀ x ∈ (figW n ps).2, x.length = 60 := by
  intro n
  induction n using Nat.strongRecOn with
  | ind n ih =>
    intro ps h1 h2
    rw [figW_eq]
    by_cases h : E60 ≤ n
    · rw [if_pos h]
      have hlt : n / E60 < n := Nat.div_lt_self (Nat.lt_of_lt_of_le E60_pos h) (by decide)
      have e1 : zfillL 60 (TL.numL (n % E60)) = dig 60 (n % E60) := zfill_dig 59 _ (Nat.mod_lt _ E60_pos)
      have hn : (TL.numL n).length = (TL.numL (n / E60)).length + 60 := by
        rw [numL_dig 60 n h, List.length_append, dig_len] <;> rfl
      refine ih (n / E60) hlt _ ?_ ?_
      · rw [List.length_append, List.length_singleton]; omega
      · intro x hx
        rcases List.mem_append.mp hx with hx | hx
        · exact h2 x hx
        · obtain rfl : x = _ := by simpa using hx
          rw [e1, dig_len]
    · rw [if_neg h]
      exact ⟨h1, h2⟩
theorem sum60 {α : Type} : ∀ xs : List α, (xs.map fun _ => 60).sum = xs.length * 60
  | [] => rfl
  | x :: xs => by rw [List.map_cons, List.sum_cons, sum60 xs, List.length_cons]; omega
theorem joinL_nil : ∀ xs : List (List Nat), TL.joinL [] xs = xs.flatten
  | [] => rfl
  | [x] => by simp [TL.joinL]
  | x :: y :: r => by
    have := joinL_nil (y :: r)
    simp only [TL.joinL, List.append_nil, List.flatten_cons] at this ⊢
    rw [this]
    simp
/-! ### what figures are worth -/
theorem val_app (a b : List Nat) : NumText.digitsVal (a ++ b) = NumText.digitsVal a * 10 ^ b.length + NumText.digitsVal b := by
  have gen : ∀ (b : List Nat) (x : Nat), b.foldl (fun acc c => acc * 10 + (c - 48)) x = x * 10 ^ b.length + b.foldl (fun acc c => acc * 10 + (c - 48)) 0 := by
    intro b
    induction b with
    | nil => intro x; simp
    | cons c b ih =>
      intro x
      rw [List.foldl_cons, List.foldl_cons, ih (x * 10 + (c - 48)), ih (0 * 10 + (c - 48)), List.length_cons, Nat.pow_succ]
      rw [Nat.zero_mul, Nat.zero_add, Nat.add_mul, Nat.mul_assoc, Nat.mul_comm 10 (10 ^ b.length), Nat.add_assoc]
  unfold NumText.digitsVal
  rw [List.foldl_append, gen b]
theorem val_lt' : ∀ (l : List Nat) (x : Nat), NumText.AllDigits l → l.foldl (fun acc c => acc * 10 + (c - 48)) x + 1 ≤ (x + 1) * 10 ^ l.length
  | [], x, _ => by simp
  | c :: l, x, h => by
    have hc := h.head
    have ih := val_lt' l (x * 10 + (c - 48)) h.tail
    rw [List.foldl_cons, List.length_cons, Nat.pow_succ]
    refine Nat.le_trans ih ?_
    rw [Nat.mul_comm (10 ^ l.length) 10, ← Nat.mul_assoc]
    exact Nat.mul_le_mul_right _ (by omega)
theorem val_lt (l : List Nat) (h : NumText.AllDigits l) : NumText.digitsVal l < 10 ^ l.length := by
  have := val_lt' l 0 h
  rw [Nat.zero_add, Nat.one_mul] at this
  exact this
/-- the value of the beginning and of sixty figures more -/
theorem val_step (l : List Nat) (a : Nat) (h : a + 60 ≤ l.length) : NumText.digitsVal (l.take (a + 60)) = NumText.digitsVal (l.take a) * E60 + NumText.digitsVal ((l.drop a).take 60) := by
  rw [List.take_add, val_app]
  have : ((l.drop a).take 60).length = 60 := by rw [List.length_take, List.length_drop]; omega
  rw [this] <;> rfl
theorem all_dig {l : List Nat} (h : NumText.AllDigits l) : l.all (fun c => decide (48 ≤ c) && decide (c ≤ 57)) = true := by
  rw [List.all_eq_true]
  intro c hc
  have := h c hc
  rw [Bool.and_eq_true, decide_eq_true_eq, decide_eq_true_eq]
  exact this
theorem take_dig {l : List Nat} (h : NumText.AllDigits l) (n : Nat) : NumText.AllDigits (l.take n) := fun c hc => h c (List.mem_of_mem_take hc)
theorem drop_dig {l : List Nat} (h : NumText.AllDigits l) (n : Nat) : NumText.AllDigits (l.drop n) := fun c hc => h c (List.mem_of_mem_drop hc)
theorem rs60 (n : Nat) : Builtin.Range.rangeSize ((n - n / 60 * 60 : Nat) : Int) (n : Int) 60 = ((n / 60 : Nat) : Int) := by
  unfold Builtin.Range.rangeSize
  rw [if_pos (by decide)]
  by_cases e : n / 60 = 0
  · rw [if_neg (by omega)]
    omega
  · rw [if_pos (by omega)]
    omega
theorem fitsL {i : Int} (h1 : -1000000 ≤ i) (h2 : i ≤ 1000000) : Builtin.Range.rangeFitsLong i = true := by
  unfold Builtin.Range.rangeFitsLong
  rw [Bool.and_eq_true]
  exact ⟨decide_eq_true (by omega), decide_eq_true (by omega)⟩
theorem rg60 {n : Nat} (h : n ≤ 100000) : RgC ((n - n / 60 * 60 : Nat) : Int) (n : Int) 60 (n / 60) := by
  refine ⟨by decide, by decide, ?_, ?_⟩
  · have e : Builtin.Range.rangeSize ((n - n / 60 * 60 : Nat) : Int) (n : Int) 60 = ((n / 60 : Nat) : Int) := rs60 n
    unfold Builtin.Range.small
    rw [e, fitsL (by omega) (by omega), fitsL (by omega) (by omega), fitsL (by omega) (by omega), fitsL (by omega) (by omega), if_pos (by decide), fitsL (by omega) (by omega)]
    rw [Bool.or_true] <;> rfl
  · exact rs60 n
/-! ### parts, one sign for another -/
theorem par_len (S : List Nat) : ∀ (l acc p q : List Nat), TL.par S acc l = some (p, q) → p.length + q.length ≤ acc.length + l.length
  | [], _, _, _, h => by cases h
  | c :: r, acc, p, q, h => by
    unfold TL.par at h
    split at h
    · cases h
      rw [List.length_drop]
      omega
    · have := par_len S r (acc ++ [c]) p q h
      rw [List.length_append, List.length_singleton] at this
      rw [List.length_cons]
      omega
theorem part_len (b a : List Nat) : (partL b a).1.length + (partL b a).2.2.length ≤ a.length := by
  unfold partL
  split
  · rename_i p q h
    have := par_len b a [] p q h
    simpa using this
  · simp
theorem repl_one (c d : Nat) : ∀ l : List Nat, StrLaws.replL [c] [d] l = l.map fun x => if x = c then d else x
  | [] => StrLaws.replL_nil
  | x :: r => by
    by_cases h : x = c
    · subst h
      rw [StrLaws.replL_hit (by simp) (by simp), List.map_cons, if_pos rfl]
      show [d] ++ StrLaws.replL [x] [d] r = _
      rw [repl_one x d r] <;> rfl
    · rw [StrLaws.replL_miss (by simpa using h), List.map_cons, if_neg h, repl_one c d r]
theorem numL_len_le (n k : Nat) (hk : 0 < k) (h : n < 10 ^ k) : (TL.numL n).length ≤ k := TL.numL_len hk h
end T
namespace T
open PySem PySem.Spec PyProof.Rows L2 DJ
def topS (i : Nat) : Stmt := PySem.Challenge.pw_anchorpages_k59_whole_least_short_words.main.body.getD i (.Pass ⟨0, 0, 0, 0⟩)
/-! ### the program: tags and words -/
abbrev s_is_all : Stmt := topS 21
abbrev N_is_all : List Str := ["word", "signs", "sign"]
theorem sc_is_all : FnScope N_is_all ["word", "signs"] (defScope s_is_all) := ⟨rfl, rfl, rfl, by decide +kernel, rfl, by decide +kernel, by decide +kernel⟩
abbrev s_unsigned : Stmt := topS 22
abbrev N_unsigned : List Str := ["word"]
theorem sc_unsigned : FnScope N_unsigned ["word"] (defScope s_unsigned) := ⟨rfl, rfl, rfl, by decide +kernel, rfl, by decide +kernel, by decide +kernel⟩
abbrev s_figures_of : Stmt := topS 26
abbrev N_figures_of : List Str := ["number", "pieces", "low"]
theorem sc_figures_of : FnScope N_figures_of ["number"] (defScope s_figures_of) := ⟨rfl, rfl, rfl, by decide +kernel, rfl, by decide +kernel, by decide +kernel⟩
abbrev s_number_of : Stmt := topS 25
abbrev N_number_of : List Str := ["figures", "first", "number", "place"]
theorem sc_number_of : FnScope N_number_of ["figures"] (defScope s_number_of) := ⟨rfl, rfl, rfl, by decide +kernel, rfl, by decide +kernel, by decide +kernel⟩
abbrev s_whole_text : Stmt := topS 23
abbrev N_whole_text : List Str := ["word", "figures", "short"]
theorem sc_whole_text : FnScope N_whole_text ["word"] (defScope s_whole_text) := ⟨rfl, rfl, rfl, by decide +kernel, rfl, by decide +kernel, by decide +kernel⟩
abbrev s_float_text : Stmt := topS 24
abbrev N_float_text : List Str := ["word", "body", "minus", "figures", "short", "power", "ahead", "mark", "exponent", "whole", "_", "part"]
theorem sc_float_text : FnScope N_float_text ["word"] (defScope s_float_text) := ⟨rfl, rfl, rfl, by decide +kernel, rfl, by decide +kernel, by decide +kernel⟩
abbrev s_canonical : Stmt := topS 16
abbrev N_canonical : List Str := ["tag", "word"]
theorem sc_canonical : FnScope N_canonical ["tag", "word"] (defScope s_canonical) := ⟨rfl, rfl, rfl, by decide +kernel, rfl, by decide +kernel, by decide +kernel⟩
def isAllL (w s : List Nat) : Bool := (!decide (w = [])) && (w.map fun c => sub [c] s).all id
def unsignedL (w : List Nat) : List Nat := if pre [43] w || pre [45] w then cutL w (some 1) none else w
section
variable {P : Program} {w : World} {K : PySem.W.Frag} {mg : Str → Option Value} {base : Heap}
def R_is_all : List Sl → List MO → Sl → List MO → Prop := fun ss M r M' => ∃ l m : List Nat, l.length ≤ 100000 ∧ ss = [.d (.str l), .d (.str m)] ∧ M = [] ∧ r = .d (.bl (isAllL l m)) ∧ M' = []
theorem cal_is_all {k : Nat} (D : Df K mg "is_all" s_is_all ["word", "signs"]) (m_all : mg "all" = none) : Cal P w K mg base (k + 1) "is_all" (SpR K 2 R_is_all) [] := by
  refine cal_mk D sc_is_all rfl fun f cdv A outer s H E hr ss M r M' h => ?_
  obtain ⟨l, m, hl, rfl, rfl, rfl, rfl⟩ := h
  refine ⟨_, [], (pss_one (ps_ret (pe_and (pe_cmpR op_ne (pv 0) pe_str (nomark _)) (pe_one (pe_callB (cr_all rfl) (by rfl) m_all (by decide +kernel) (pa_cons (pe_lc (own := [("sign", 2)]) (g := (gName 2)) (by rfl) sc_is_all.nd (pi_str (pv 0)) (blkOk_by (own := [("sign", 2)]) (N := N_is_all) (sc := defScope s_is_all) (by decide +kernel)) (fun _ _ _ _ _ => pg_name (i := 2) sc_is_all.nd rfl (by first | exact .inl rfl | exact .inr rfl)) (fun _ _ _ _ _ => pts_nil) (fun _ _ _ _ _ => (pe_cmpR op_in_str (pv 2) (pv 1) (by rfl)))) pa_nil)))))), ?_, Nat.le_refl _, fun _ h => nomatch h⟩
  refine es_ret (ev_andV (ev_op (ev_var rfl) (ev_str []) ro_neS) (fun _ => ev_cb (xs := [.lst ((l.map fun c => sub [c] m).map Dt.bl)]) (ea_cons (ev_isD (ev_lcM l (fun c => .str [c]) (fun c => .bl (sub [c] m)) (ei_str (ev_var rfl)) (by omega) (hw_name (by decide)) (fun c _ => ⟨_, eg_name, ev_op (ev_var rfl) (ev_var rfl) ro_inS⟩)) (by rw [List.map_map] <;> rfl)) ea_nil) rc_all) (fun _ => rfl))
def R_unsigned : List Sl → List MO → Sl → List MO → Prop := fun ss M r M' => ∃ l : List Nat, l.length ≤ 100000 ∧ ss = [.d (.str l)] ∧ M = [] ∧ r = .d (.str (unsignedL l)) ∧ M' = []
theorem cal_unsigned {k : Nat} (D : Df K mg "unsigned" s_unsigned ["word"]) : Cal P w K mg base (k + 1) "unsigned" (SpR K 1 R_unsigned) [] := by
  refine cal_mk D sc_unsigned rfl fun f cdv A outer s H E hr ss M r M' h => ?_
  obtain ⟨l, hl, rfl, rfl, rfl, rfl⟩ := h
  refine ⟨_, [], (pss_one (ps_ret (pe_ifExp (PW.pt (pw_or (pt_val (pe_m1 PySem.F.slot_str_startswith PySem.F.type_str_startswith mt_startswith (pv 0) pe_str)) (pw_or1 (pt_val (pe_m1 PySem.F.slot_str_startswith PySem.F.type_str_startswith mt_startswith (pv 0) pe_str))))) (pe_slice sl_str (pv 0) (po_some pe_int) po_none) (pv 0)))), ?_, Nat.le_refl _, fun _ h => nomatch h⟩
  exact es_ret (ev_iteS (et_or (et_B (ev_m1 (ev_var rfl) (ev_str [43]) rm_starts)) (fun _ => et_B (ev_m1 (ev_var rfl) (ev_str [45]) rm_starts)) (fun _ => rfl)) (fun h => ev_slS (ev_var rfl) (eo_some ev_int) eo_none (by omega)) (fun h => ev_var rfl))
end
section
variable {P : Program} {w : World} {K : PySem.W.Frag} {mg : Str → Option Value} {base : Heap}
def R_figures_of : List Sl → List MO → Sl → List MO → Prop := fun ss M r M' => ∃ n : Nat, (TL.numL n).length ≤ 200000 ∧ ss = [.d (.int (n : Int))] ∧ M = [] ∧ r = .d (.str (TL.numL n)) ∧ M' = []
theorem cal_figures_of {k : Nat} (D : Df K mg "figures_of" s_figures_of ["number"]) (c_PIECE : Gc K mg "PIECE" (.int (E60 : Nat))) (m_divmod : mg "divmod" = none) (m_str : mg "str" = none) : Cal P w K mg base (k + 1) "figures_of" (SpR K 1 R_figures_of) [] := by
  obtain ⟨v_PIECE, u_PIECE, hm_PIECE, hr_PIECE, hd_PIECE⟩ := c_PIECE.ex
  refine cal_mk D sc_figures_of rfl fun f cdv A outer s H E hr ss M r M' h => ?_
  obtain ⟨n, hl, rfl, rfl, rfl, rfl⟩ := h
  refine ⟨_, [.lst (((figW n []).2 ++ [TL.numL (figW n []).1]).map Dt.str)], (pss_cons (ps_asg (pe_lst pa_nil) (pg_name (i := 1) sc_figures_of.nd rfl (by first | exact .inl rfl | exact .inr rfl))) (pss_cons (ps_while PassesOwn.never (pt_cmpR op_ge (pv 0) (pe_glob (by rfl) hm_PIECE hr_PIECE) (nomark _)) (pss_cons (ps_asg (pe_callB call_divmodW (by rfl) m_divmod (by decide +kernel) (pa_cons (pv 0) (pa_cons (pe_glob (by rfl) hm_PIECE hr_PIECE) pa_nil))) (pg_tup rfl (pgs_cons (pg_name (i := 0) sc_figures_of.nd rfl (by first | exact .inl rfl | exact .inr rfl)) (pgs_cons (pg_name (i := 2) sc_figures_of.nd rfl (by first | exact .inl rfl | exact .inr rfl)) pgs_nil)))) (pss_one (ps_expr (pe_bm PySem.F.plainAttrs_list PySem.F.slot_list_append PySem.F.type_list_append mt_append (pv 1) (pa_cons (pe_m1 PySem.F.slot_str_zfill PySem.F.type_str_zfill mt_zfill (pe_callTy call_str_int (by rfl) m_str (by decide +kernel) (pa_cons (pv 2) pa_nil)) pe_int) pa_nil)))))) (pss_cons (ps_expr (pe_bm PySem.F.plainAttrs_list PySem.F.slot_list_append PySem.F.type_list_append mt_append (pv 1) (pa_cons (pe_callTy call_str_int (by rfl) m_str (by decide +kernel) (pa_cons (pv 0) pa_nil)) pa_nil))) (pss_one (ps_ret (pe_m1 PySem.F.slot_str_join PySem.F.type_str_join mt_join pe_str (pe_revL (pv 1)))))))), ?_, Nat.le_refl _, fun _ h => nomatch h⟩
  refine es_seq (es_asg (ev_lstO (xs := []) ea_nil (Nat.zero_le _))) ?_
  have hL := hl
  refine es_seq (es_while (α := Nat × List (List Nat)) (fun a => [some (.d (.int (a.1 : Int))), some (.o 0), none]) (fun a => [.lst (a.2.map Dt.str)]) (fun a => (TL.numL a.1).length + 60 * a.2.length ≤ 200000) (fun a => decide (((E60 : Nat) : Int) ≤ (a.1 : Int))) (fun a => .inl (a.1 / E60, a.2 ++ [zfillL 60 (TL.numL (a.1 % E60))])) (fun a => a.1) (fun a => .inl (figW a.1 a.2)) (n, []) (by show _ + 60 * 0 ≤ _; omega) (fun a _ => ?_) (Lg.refl _) rfl (fun a _ => et_test (ev_op (ev_var rfl) (ev_c hd_PIECE) ro_ge)) (fun a pa hc => ?_)) ?_
  · show Sum.inl (figW a.1 a.2) = _
    rw [figW_eq]
    by_cases h : E60 ≤ a.1
    · rw [if_pos h, if_pos (decide_eq_true (by omega))]
    · rw [if_neg h, if_neg (by rw [decide_eq_false (by omega)]; exact Bool.false_ne_true)]
  · have hc : E60 ≤ a.1 := by have := of_decide_eq_true hc; omega
    have hz : zfillL 60 (TL.numL (a.1 % E60)) = dig 60 (a.1 % E60) := zfill_dig 59 _ (Nat.mod_lt _ E60_pos)
    have hn : (TL.numL a.1).length = (TL.numL (a.1 / E60)).length + 60 := by
      rw [numL_dig 60 a.1 hc, List.length_append, dig_len] <;> rfl
    have hm : ∀ c ∈ TL.numL (a.1 % E60), 48 ≤ c ∧ c ≤ 57 := TL.numL_digits _
    have h0 : ∀ d, (TL.numL (a.1 % E60))[0]? = some d → 48 ≤ d := fun d hd => (hm d (List.mem_of_getElem? hd)).1
    refine ⟨.inl ?_, fun a' e => ?_⟩
    · have e1 : (a.2 ++ [zfillL 60 (TL.numL (a.1 % E60))]).map Dt.str = a.2.map Dt.str ++ [.str (zfillL 60 (TL.numL (a.1 % E60)))] := by rw [List.map_append] <;> rfl
      show EvS K _ _ _ (.nx [some (.d (.int ((a.1 / E60 : Nat) : Int))), some (.o 0), none] [.lst ((a.2 ++ [zfillL 60 (TL.numL (a.1 % E60))]).map Dt.str)])
      rw [e1]
      refine es_nxw (es_seq (es_asgG (ev_isD (ev_cb (xs := [.int (a.1 : Int), .int ((E60 : Nat) : Int)]) (ea_cons (ev_var rfl) (ea_cons (ev_c hd_PIECE) ea_nil)) (rc_divmod (by decide +kernel) (by decide +kernel))) (show _ = Dt.tup [.int ((a.1 / E60 : Nat) : Int), .int ((a.1 % E60 : Nat) : Int)] from rfl)) (eg_tup (egs_cons eg_name (egs_cons eg_name egs_nil)) rfl)) (es_appO (k := 0) (M2 := [.lst (a.2.map Dt.str)]) (ev_var rfl) (ev_m1 (ev_cb (xs := [.int ((a.1 % E60 : Nat) : Int)]) (ea_cons (ev_var rfl) ea_nil) (rc_str ?_ (Int.natCast_nonneg _))) ev_int (rm_zfill (n := 60) (by decide) (fun e => ?_) (fun e => ?_))) ⟨_, rfl⟩ rfl ?_)) (lg_cons (lg_cons (lg_cons lg_nil (.inr rfl)) (.inl rfl)) (.inl rfl))
      · have h1 : a.1 % E60 < 2 ^ 1000 := Nat.lt_of_lt_of_le (Nat.mod_lt _ E60_pos) (by decide +kernel)
        show ((a.1 % E60 : Nat) : Int).natAbs.log2 < 1920
        rw [Int.natAbs_natCast]
        by_cases z : a.1 % E60 = 0
        · rw [z]; decide
        · exact Nat.lt_of_lt_of_le ((Nat.log2_lt z).mpr h1) (by decide)
      · have := h0 _ e; omega
      · have := h0 _ e; omega
      · rw [List.length_map]; omega
    · cases e
      refine ⟨?_, Nat.div_lt_self (Nat.lt_of_lt_of_le E60_pos hc) (by decide)⟩
      show (TL.numL (a.1 / E60)).length + 60 * (a.2 ++ [_]).length ≤ _
      rw [List.length_append, List.length_singleton]
      omega
  · show EvS K _ _ _ _
    obtain ⟨f1, f2⟩ := figW_is n []
    have fP : (TL.numL (figW n []).1).length + 60 * (figW n []).2.length ≤ 200000 ∧ ∀ x ∈ (figW n []).2, x.length = 60 := figW_P n [] (by show _ + 60 * 0 ≤ _; omega) (fun _ h => nomatch h)
    generalize figW n [] = a at *
    have e1 : (a.2 ++ [TL.numL a.1]).map Dt.str = a.2.map Dt.str ++ [.str (TL.numL a.1)] := by rw [List.map_append] <;> rfl
    refine es_seq (es_appO (k := 0) (M2 := [.lst (a.2.map Dt.str)]) (ev_var rfl) (ev_cb (xs := [.int (a.1 : Int)]) (ea_cons (ev_var rfl) ea_nil) (rc_str ?_ (Int.natCast_nonneg _))) ⟨_, rfl⟩ rfl ?_) ?_
    · have h1 : a.1 < 2 ^ 1000 := Nat.lt_of_lt_of_le f2 (by decide +kernel)
      show (a.1 : Int).natAbs.log2 < 1920
      rw [Int.natAbs_natCast]
      by_cases z : a.1 = 0
      · rw [z]; decide
      · exact Nat.lt_of_lt_of_le ((Nat.log2_lt z).mpr h1) (by decide)
    · rw [List.length_map]; omega
    · rw [e1]
      have hs : ((a.2 ++ [TL.numL a.1]).reverse.map (·.length)).sum ≤ 200000 := by
        rw [List.map_reverse, List.sum_reverse, List.map_append, List.sum_append, List.map_congr_left (g := fun _ => 60) (fun x hx => fP.2 x hx), sum60]
        show a.2.length * 60 + ((TL.numL a.1).length + 0) ≤ _
        omega
      refine es_retD (ev_m1 (ev_str []) (ev_isD (ev_revO (ev_var rfl) rfl) (show _ = Dt.lst ((a.2 ++ [TL.numL a.1]).reverse.map Dt.str) from ?_)) (rm_join ?_)) ?_
      · rw [List.map_reverse, e1] <;> rfl
      · show _ + _ * 0 ≤ 1000000
        omega
      · rw [joinL_nil, List.reverse_append, List.reverse_singleton, List.singleton_append, List.flatten_cons, f1]
        simp
end
section
variable {P : Program} {w : World} {K : PySem.W.Frag} {mg : Str → Option Value} {base : Heap}
def R_number_of : List Sl → List MO → Sl → List MO → Prop := fun ss M r M' => ∃ l : List Nat, l.length ≤ 100000 ∧ NumText.AllDigits l ∧ ss = [.d (.str l)] ∧ M = [] ∧ r = .d (.int ((NumText.digitsVal l : Nat) : Int)) ∧ M' = []
theorem cal_number_of {k : Nat} (D : Df K mg "number_of" s_number_of ["figures"]) (c_PIECE : Gc K mg "PIECE" (.int (E60 : Nat))) (m_len : mg "len" = none) (m_int : mg "int" = none) (m_range : mg "range" = none) : Cal P w K mg base (k + 1) "number_of" (SpR K 1 R_number_of) [] := by
  obtain ⟨v_PIECE, u_PIECE, hm_PIECE, hr_PIECE, hd_PIECE⟩ := c_PIECE.ex
  refine cal_mk D sc_number_of rfl fun f cdv A outer s H E hr ss M r M' h => ?_
  obtain ⟨l, hl, hd, rfl, rfl, rfl, rfl⟩ := h
  refine ⟨_, [], (pss_cons (ps_asg (pe_op op_sub (pe_callB call_len_str (by rfl) m_len PySem.boot_len (pa_cons (pv 0) pa_nil)) (pe_op op_mulX (pe_op op_fdiv (pe_callB call_len_str (by rfl) m_len PySem.boot_len (pa_cons (pv 0) pa_nil)) pe_int) pe_int)) (pg_name (i := 1) sc_number_of.nd rfl (by first | exact .inl rfl | exact .inr rfl))) (pss_cons (ps_asg (pe_ifExp (pt_truth (pv 1) (by intro _; rfl)) (pe_callTy call_int_str (by rfl) m_int (by decide +kernel) (pa_cons (pe_slice sl_str (pv 0) po_none (po_some (pv 1))) pa_nil)) pe_int) (pg_name (i := 2) sc_number_of.nd rfl (by first | exact .inl rfl | exact .inr rfl))) (pss_cons (ps_for PassesOwn.never rfl (pi_range3 (by rfl) m_range (pa_cons (pv 1) (pa_cons (pe_callB call_len_str (by rfl) m_len PySem.boot_len (pa_cons (pv 0) pa_nil)) (pa_cons pe_int pa_nil)))) (pg_name (i := 3) sc_number_of.nd rfl (by first | exact .inl rfl | exact .inr rfl)) (pss_one (ps_asg (pe_op op_add (pe_op op_mulX (pv 2) (pe_glob (by rfl) hm_PIECE hr_PIECE)) (pe_callTy call_int_str (by rfl) m_int (by decide +kernel) (pa_cons (pe_slice sl_str (pv 0) (po_some (pv 3)) (po_some (pe_op op_add (pv 3) pe_int))) pa_nil))) (pg_name (i := 2) sc_number_of.nd rfl (by first | exact .inl rfl | exact .inr rfl))))) (pss_one (ps_ret (pv 2)))))), ?_, Nat.le_refl _, fun _ h => nomatch h⟩
  generalize hf : l.length - l.length / 60 * 60 = first
  have hf2 : first < 60 := by omega
  have hf3 : first + 60 * (l.length / 60) = l.length := by omega
  have hz : l.length ≤ 1000000 := by omega
  refine es_seq (es_asg (ev_isD (ev_op (ev_cb (xs := [.str l]) (ea_cons (ev_var rfl) ea_nil) (rc_lenS hz)) (ev_op (ev_op (ev_cb (xs := [.str l]) (ea_cons (ev_var rfl) ea_nil) (rc_lenS hz)) ev_int (ro_fdiv ⟨by decide, by decide⟩)) ev_int (ro_mulX ?_)) ro_sub) (show _ = Dt.int (first : Int) from ?_))) ?_
  · have b1 : Builtin.Int.intBits ((l.length : Int) / 60) ≤ 64 := PyProof.Rows.intBits_le (by
      have : ((l.length : Int) / 60).natAbs ≤ 1000000 := by omega
      exact Nat.lt_of_le_of_lt this (by decide))
    have b2 : Builtin.Int.intBits (60 : Int) ≤ 64 := by decide
    show (Builtin.Int.intBits ((l.length : Int) / 60) : Int) + (Builtin.Int.intBits (60 : Int) : Int) ≤ _
    omega
  · congr 1
    omega
  · refine es_seq (es_asg (ev_if (s := .d (.int ((NumText.digitsVal (l.take first) : Nat) : Int))) (et_int (ev_var rfl)) (fun h => ev_isD (ev_cb (xs := [.str (l.take first)]) (ea_cons (ev_is (ev_slS (ev_var rfl) eo_none (eo_some (ev_var rfl)) hz) (by rw [cutL_to] <;> rfl)) ea_nil) (rc_intS (all_dig (take_dig hd _)) ?_ ?_)) rfl) (fun h => ev_isD ev_int ?_))) ?_
    · have h0 : first ≠ 0 := by
        have : (first : Int) ≠ 0 := bne_iff_ne.mp h
        omega
      intro e
      have h4 := congrArg List.length e
      rw [List.length_take] at h4
      have h5 : min first l.length = 0 := h4
      omega
    · rw [List.length_take]; omega
    · have h0 : first = 0 := by
        have : (first : Int) = 0 := by simpa using h
        omega
      rw [h0] <;> rfl
    · refine es_seq (es_forN (List.range (l.length / 60)) (fun i => .int ((first : Int) + (i : Nat) * 60)) (fun i => [some (.d (.str l)), some (.d (.int (first : Int))), some (.d (.int ((NumText.digitsVal (l.take (first + 60 * i)) : Nat) : Int))), none]) (fun _ => []) (ei_rng3 (n := l.length / 60) (ea_cons (ev_var rfl) (ea_cons (ev_cb (xs := [.str l]) (ea_cons (ev_var rfl) ea_nil) (rc_lenS hz)) (ea_cons ev_int ea_nil))) ?_) (Lg.refl _) (fun i x hx => ?_)) ?_
      · rw [← hf]; exact rg60 hl
      · have hi : i < l.length / 60 ∧ x = i := by
          obtain ⟨h1, h2⟩ := List.getElem?_eq_some_iff.mp hx
          rw [List.length_range] at h1
          rw [List.getElem_range] at h2
          exact ⟨h1, h2.symm⟩
        obtain ⟨hi, rfl⟩ := hi
        have hle : first + 60 * x + 60 ≤ l.length := by omega
        have hv := val_step l (first + 60 * x) hle
        refine ⟨_, eg_name, .inl (es_nxw (es_asg (ev_isD (ev_op (ev_op (ev_var rfl) (ev_c hd_PIECE) (ro_mulX ?_)) (ev_cb (xs := [.str ((l.drop (first + 60 * x)).take 60)]) (ea_cons (ev_is (ev_slS (ev_var rfl) (eo_some (ev_var rfl)) (eo_some (ev_op (ev_var rfl) ev_int ro_add)) hz) ?_) ea_nil) (rc_intS (all_dig (take_dig (drop_dig hd _) _)) ?_ ?_)) ro_add) (show _ = Dt.int ((NumText.digitsVal (l.take (first + 60 * (x + 1))) : Nat) : Int) from ?_))) (lg_cons (lg_cons (lg_cons (lg_cons lg_nil (.inr rfl)) (.inl rfl)) (.inl rfl)) (.inl rfl)))⟩
        · have b1 : Builtin.Int.intBits ((NumText.digitsVal (l.take (first + 60 * x)) : Nat) : Int) ≤ 4 * 100000 := PyProof.Rows.intBits_le (by
            rw [Int.natAbs_natCast]
            refine Nat.lt_of_lt_of_le (val_lt _ (take_dig hd _)) ?_
            refine Nat.le_trans (Nat.pow_le_pow_left (show 10 ≤ 2 ^ 4 by decide) _) ?_
            rw [← Nat.pow_mul]
            refine Nat.pow_le_pow_right (by decide) ?_
            rw [List.length_take]
            omega)
          have b2 : Builtin.Int.intBits ((E60 : Nat) : Int) ≤ 256 := PyProof.Rows.intBits_le (by decide +kernel)
          show (Builtin.Int.intBits ((NumText.digitsVal (l.take (first + 60 * x)) : Nat) : Int) : Int) + (Builtin.Int.intBits ((E60 : Nat) : Int) : Int) ≤ _
          omega
        · have e1 : (first : Int) + (x : Nat) * 60 = ((first + 60 * x : Nat) : Int) := by omega
          have e2 : (first : Int) + (x : Nat) * 60 + 60 = ((first + 60 * x + 60 : Nat) : Int) := by omega
          rw [e2, e1, cutL_nat, Nat.add_sub_cancel_left]
        · intro e
          have := congrArg List.length e
          rw [List.length_take, List.length_drop] at this
          simp at this
          omega
        · rw [List.length_take]; omega
        · rw [show first + 60 * (x + 1) = first + 60 * x + 60 by omega, hv]
          congr 1
      · rw [List.length_range, hf3, List.take_length]
        exact es_ret (ev_var rfl)
end
/-- an integer's canonical text, where nothing like 0o.. or 0x.. stands -/
def wholeA (w : List Nat) : Option (List Nat) :=
  if isAllL (unsignedL w) [48, 49, 50, 51, 52, 53, 54, 55, 56, 57] = false then none
  else if lstripL [48] (unsignedL w) = [] then some [48]
  else some (if pre [45] w = true then [45] ++ lstripL [48] (unsignedL w) else lstripL [48] (unsignedL w))
theorem unsigned_len (l : List Nat) : (unsignedL l).length ≤ l.length := by
  unfold unsignedL
  split
  · exact cutL_len l _ _
  · exact Nat.le_refl _
theorem dropWhile_len (p : Nat → Bool) : ∀ l : List Nat, (l.dropWhile p).length ≤ l.length
  | [] => Nat.le_refl _
  | x :: xs => by
    rw [List.dropWhile_cons]
    split
    · exact Nat.le_succ_of_le (dropWhile_len p xs)
    · exact Nat.le_refl _
theorem lstrip_len (b l : List Nat) : (lstripL b l).length ≤ l.length := dropWhile_len _ l
theorem rstrip_len (b l : List Nat) : (rstripL b l).length ≤ l.length := by
  unfold rstripL
  rw [List.length_reverse]
  have := dropWhile_len (inL b) l.reverse
  rw [List.length_reverse] at this
  exact this
section
variable {P : Program} {w : World} {K : PySem.W.Frag} {mg : Str → Option Value} {base : Heap}
def R_whole_text : List Sl → List MO → Sl → List MO → Prop := fun ss M r M' => ∃ l : List Nat, l.length ≤ 100000 ∧ pre [48, 111] l = false ∧ pre [48, 120] l = false ∧ ss = [.d (.str l)] ∧ M = [] ∧ r = .d (oS (wholeA l)) ∧ M' = []
theorem cal_whole_text (D : Df K mg "whole_text" s_whole_text ["word"]) (c_FIGURES : Gc K mg "FIGURES" (.str [48, 49, 50, 51, 52, 53, 54, 55, 56, 57])) (f_is_all : Cal P w K mg base 1 "is_all" (SpR K 2 R_is_all) []) (f_unsigned : Cal P w K mg base 1 "unsigned" (SpR K 1 R_unsigned) []) (m_int : mg "int" = none) : Cal P w K mg base 2 "whole_text" (SpR K 1 R_whole_text) [] := by
  obtain ⟨v_FIGURES, u_FIGURES, hm_FIGURES, hr_FIGURES, hd_FIGURES⟩ := c_FIGURES.ex
  refine cal_mk (k := 1) D sc_whole_text rfl fun f cdv A outer s H E hr ss M r M' h => ?_
  obtain ⟨l, hl, ho, hx, rfl, rfl, rfl, rfl⟩ := h
  have hu := unsigned_len l
  have hs := lstrip_len [48] (unsignedL l)
  refine ⟨_, [], (pss_cons (ps_if (PW.pt (pw_and (pt_val (pe_m1 PySem.F.slot_str_startswith PySem.F.type_str_startswith mt_startswith (pv 0) pe_str)) (pw_and1 (pt_val (pe_c f_is_all hr (by omega) (by rfl) (pa_cons (pe_slice sl_str (pv 0) (po_some pe_int) po_none) (pa_cons pe_str pa_nil))))))) pss_never pss_nil) (pss_cons (ps_if (PW.pt (pw_and (pt_val (pe_m1 PySem.F.slot_str_startswith PySem.F.type_str_startswith mt_startswith (pv 0) pe_str)) (pw_and1 (pt_val (pe_c f_is_all hr (by omega) (by rfl) (pa_cons (pe_slice sl_str (pv 0) (po_some pe_int) po_none) (pa_cons pe_str pa_nil))))))) pss_never pss_nil) (pss_cons (ps_asg (pe_c f_unsigned hr (by omega) (by rfl) (pa_cons (pv 0) pa_nil)) (pg_name (i := 1) sc_whole_text.nd rfl (by first | exact .inl rfl | exact .inr rfl))) (pss_cons (ps_if (pt_not (pt_val (pe_c f_is_all hr (by omega) (by rfl) (pa_cons (pv 1) (pa_cons (pe_glob (by rfl) hm_FIGURES hr_FIGURES) pa_nil))))) (pss_one (ps_ret pe_non)) pss_nil) (pss_cons (ps_asg (pe_m1 PySem.F.slot_str_lstrip PySem.F.type_str_lstrip mt_lstripChars (pv 1) pe_str) (pg_name (i := 2) sc_whole_text.nd rfl (by first | exact .inl rfl | exact .inr rfl))) (pss_cons (ps_if (pt_cmpR op_eq (pv 2) pe_str (nomark _)) (pss_one (ps_ret pe_str)) pss_nil) (pss_one (ps_ret (pe_ifExp (pt_val (pe_m1 PySem.F.slot_str_startswith PySem.F.type_str_startswith mt_startswith (pv 0) pe_str)) (pe_op op_add_str pe_str (pv 2)) (pv 2)))))))))), ?_, Nat.le_refl _, fun _ h => nomatch h⟩
  refine es_pass (et_is (et_and (et_B (ev_m1 (ev_var rfl) (ev_str [48, 111]) rm_starts)) (fun h => absurd h (by rw [ho]; exact Bool.false_ne_true)) (c := true) (fun _ => rfl)) (by rw [ho] <;> rfl)) ?_
  refine es_pass (et_is (et_and (et_B (ev_m1 (ev_var rfl) (ev_str [48, 120]) rm_starts)) (fun h => absurd h (by rw [hx]; exact Bool.false_ne_true)) (c := true) (fun _ => rfl)) (by rw [hx] <;> rfl)) ?_
  refine es_seq (es_asg (ev_call0 (ds := [.str l]) (es := []) (z := .str (unsignedL l)) (ea_cons (ev_var rfl) ea_nil) ⟨l, hl, rfl, rfl, rfl, rfl⟩ rfl (fun _ => rfl))) ?_
  refine es_guard (et_not (et_B (ev_call0 (ds := [.str (unsignedL l), .str [48, 49, 50, 51, 52, 53, 54, 55, 56, 57]]) (es := []) (z := .bl (isAllL (unsignedL l) [48, 49, 50, 51, 52, 53, 54, 55, 56, 57])) (ea_cons (ev_var rfl) (ea_cons (ev_c hd_FIGURES) ea_nil)) ⟨_, _, by omega, rfl, rfl, rfl, rfl⟩ rfl (fun _ => rfl)))) (fun h => es_retD ev_non ?_) (fun h => ?_)
  · unfold wholeA
    rw [if_pos (by simpa using h)] <;> rfl
  have hn : ¬ isAllL (unsignedL l) [48, 49, 50, 51, 52, 53, 54, 55, 56, 57] = false := by simpa using h
  refine es_seq (es_asg (ev_m1 (ev_var rfl) (ev_str [48]) (rm_lstrip (by omega)))) ?_
  refine es_guard (et_test (ev_op (ev_var rfl) (ev_str []) ro_eqS)) (fun h2 => es_retD (ev_str [48]) ?_) (fun h2 => es_retD (ev_iteS (et_B (ev_m1 (ev_var rfl) (ev_str [45]) rm_starts)) (fun _ => ev_op (ev_str [45]) (ev_var rfl) (ro_addS ?_)) (fun _ => ev_var rfl)) ?_)
  · unfold wholeA
    rw [if_neg hn, if_pos (of_decide_eq_true h2)] <;> rfl
  · show 1 + _ ≤ _
    omega
  · unfold wholeA
    rw [if_neg hn, if_neg (of_decide_eq_false h2)] <;> rfl
end
/-- the canonical text of a number with a point or an exponent -/
def minusL (w : List Nat) : List Nat := if pre [45] w = true then [45] else []
def expoL (w : List Nat) : List Nat × List Nat × List Nat := partL [101] ((unsignedL w).map fun x => if x = 69 then 101 else x)
def wholL (w : List Nat) : List Nat × List Nat × List Nat := partL [46] (expoL w).1
def figsL (w : List Nat) : List Nat := lstripL [48] ((wholL w).1 ++ (wholL w).2.2)
def shortL (w : List Nat) : List Nat := rstripL [48] (figsL w)
def pow0 (w : List Nat) : Int := if (!decide ((expoL w).2.1 = [])) = true then ((NumText.digitsVal (unsignedL (expoL w).2.2) : Nat) : Int) else 0
def pow1 (w : List Nat) : Int := if pre [45] (expoL w).2.2 = true then -pow0 w else pow0 w
def powL (w : List Nat) : Int := pow1 w - ((wholL w).2.2.length : Nat) + ((figsL w).length : Nat) - ((shortL w).length : Nat)
abbrev FIG : List Nat := [48, 49, 50, 51, 52, 53, 54, 55, 56, 57]
abbrev NANL : List (List Nat) := [[46, 110, 97, 110], [46, 78, 97, 78], [46, 78, 65, 78]]
abbrev INFL : List (List Nat) := [[46, 105, 110, 102], [46, 73, 110, 102], [46, 73, 78, 70]]
def floatL (w : List Nat) : Option (List Nat) :=
  if w ∈ NANL then some [46, 110, 97, 110]
  else if unsignedL w ∈ INFL then some (minusL w ++ [46, 105, 110, 102])
  else if isAllL ((wholL w).1 ++ (wholL w).2.2) FIG = false then none
  else if ((!decide ((expoL w).2.1 = [])) && !isAllL (unsignedL (expoL w).2.2) FIG) = true then none
  else if figsL w = [] then some [48, 101, 48]
  else some (minusL w ++ shortL w ++ [101] ++ (if powL w < 0 then [45] else []) ++ TL.numL (powL w).natAbs)
theorem all_is {l : List Nat} (h : isAllL l FIG = true) : l ≠ [] ∧ NumText.AllDigits l := by
  unfold isAllL at h
  rw [Bool.and_eq_true, Bool.not_eq_true', decide_eq_false_iff_not, List.all_map, List.all_eq_true] at h
  refine ⟨h.1, fun c hc => ?_⟩
  have := h.2 c hc
  have e : decide (c ∈ FIG) = true := by rw [← sub_one]; exact this
  have e := of_decide_eq_true e
  simp [FIG] at e
  omega
section
variable {P : Program} {w : World} {K : PySem.W.Frag} {mg : Str → Option Value} {base : Heap}
def R_float_text : List Sl → List MO → Sl → List MO → Prop := fun ss M r M' => ∃ l : List Nat, l.length ≤ 10000 ∧ ss = [.d (.str l)] ∧ M = [] ∧ r = .d (oS (floatL l)) ∧ M' = []
theorem cal_float_text (D : Df K mg "float_text" s_float_text ["word"]) (c_FIGURES : Gc K mg "FIGURES" (.str FIG)) (c_NANS : Gc K mg "NANS" (.tup (NANL.map Dt.str))) (c_INFINITIES : Gc K mg "INFINITIES" (.tup (INFL.map Dt.str)))
    (f_is_all : Cal P w K mg base 1 "is_all" (SpR K 2 R_is_all) []) (f_unsigned : Cal P w K mg base 1 "unsigned" (SpR K 1 R_unsigned) []) (f_number_of : Cal P w K mg base 1 "number_of" (SpR K 1 R_number_of) []) (f_figures_of : Cal P w K mg base 1 "figures_of" (SpR K 1 R_figures_of) [])
    (m_len : mg "len" = none) (m_abs : mg "abs" = none) : Cal P w K mg base 2 "float_text" (SpR K 1 R_float_text) [] := by
  obtain ⟨v_FIGURES, u_FIGURES, hm_FIGURES, hr_FIGURES, hd_FIGURES⟩ := c_FIGURES.ex
  obtain ⟨v_NANS, u_NANS, hm_NANS, hr_NANS, hd_NANS⟩ := c_NANS.ex
  obtain ⟨v_INFINITIES, u_INFINITIES, hm_INFINITIES, hr_INFINITIES, hd_INFINITIES⟩ := c_INFINITIES.ex
  refine cal_mkT (k := 1) D sc_float_text rfl (by decide +kernel) (by decide) fun f cdv A outer s H E hr ss M r M' h => ?_
  obtain ⟨l, hl, rfl, rfl, rfl, rfl⟩ := h
  have hu := unsigned_len l
  have hp1 : (expoL l).1.length + (expoL l).2.2.length ≤ (unsignedL l).length := by
    have := part_len [101] ((unsignedL l).map fun x => if x = 69 then 101 else x)
    rw [List.length_map] at this
    exact this
  have hp2 : (wholL l).1.length + (wholL l).2.2.length ≤ (expoL l).1.length := part_len _ _
  have hf : (figsL l).length ≤ (wholL l).1.length + (wholL l).2.2.length := by
    have := lstrip_len [48] ((wholL l).1 ++ (wholL l).2.2)
    rw [List.length_append] at this
    exact this
  have hs : (shortL l).length ≤ (figsL l).length := rstrip_len _ _
  have hue := unsigned_len (expoL l).2.2
  refine ⟨_, [], (psst_cons (PST.of (ps_if (pt_cmpR (show OpR _ (compareOp .In) (rIn K false) from op_in_seq) (pv 0) (pe_glob (by rfl) hm_NANS hr_NANS) (by rfl)) (pss_one (ps_ret pe_str)) pss_nil)) (psst_cons (PST.of (ps_asg (pe_c f_unsigned hr (by omega) (by rfl) (pa_cons (pv 0) pa_nil)) (pg_name (i := 1) sc_float_text.nd rfl (by first | exact .inl rfl | exact .inr rfl)))) (psst_cons (PST.of (ps_asg (pe_ifExp (pt_val (pe_m1 PySem.F.slot_str_startswith PySem.F.type_str_startswith mt_startswith (pv 0) pe_str)) pe_str pe_str) (pg_name (i := 2) sc_float_text.nd rfl (by first | exact .inl rfl | exact .inr rfl)))) (psst_cons (PST.of (ps_if (pt_cmpR (show OpR _ (compareOp .In) (rIn K false) from op_in_seq) (pv 1) (pe_glob (by rfl) hm_INFINITIES hr_INFINITIES) (by rfl)) (pss_one (ps_ret (pe_op op_add_str (pv 2) pe_str))) pss_nil)) (psst_cons (pst_asg (pet_m1 PySem.F.slot_str_partition PySem.F.type_str_partition mt_partition (CwR.pet_replC (pv 1)) pe_str) (pg_tup rfl (pgs_cons (pg_name (i := 6) sc_float_text.nd rfl (by first | exact .inl rfl | exact .inr rfl)) (pgs_cons (pg_name (i := 7) sc_float_text.nd rfl (by first | exact .inl rfl | exact .inr rfl)) (pgs_cons (pg_name (i := 8) sc_float_text.nd rfl (by first | exact .inl rfl | exact .inr rfl)) pgs_nil))))) (psst_cons (PST.of (ps_asg (pe_m1 PySem.F.slot_str_partition PySem.F.type_str_partition mt_partition (pv 6) pe_str) (pg_tup rfl (pgs_cons (pg_name (i := 9) sc_float_text.nd rfl (by first | exact .inl rfl | exact .inr rfl)) (pgs_cons (pg_name (i := 10) sc_float_text.nd rfl (by first | exact .inl rfl | exact .inr rfl)) (pgs_cons (pg_name (i := 11) sc_float_text.nd rfl (by first | exact .inl rfl | exact .inr rfl)) pgs_nil)))))) (psst_cons (PST.of (ps_if (pt_not (pt_val (pe_c f_is_all hr (by omega) (by rfl) (pa_cons (pe_op op_add_str (pv 9) (pv 11)) (pa_cons (pe_glob (by rfl) hm_FIGURES hr_FIGURES) pa_nil))))) (pss_one (ps_ret pe_non)) pss_nil)) (psst_cons (PST.of (ps_if (PW.pt (pw_and (pt_cmpR op_ne (pv 7) pe_str (nomark _)) (pw_and1 (pt_not (pt_val (pe_c f_is_all hr (by omega) (by rfl) (pa_cons (pe_c f_unsigned hr (by omega) (by rfl) (pa_cons (pv 8) pa_nil)) (pa_cons (pe_glob (by rfl) hm_FIGURES hr_FIGURES) pa_nil)))))))) (pss_one (ps_ret pe_non)) pss_nil)) (psst_cons (PST.of (ps_asg (pe_m1 PySem.F.slot_str_lstrip PySem.F.type_str_lstrip mt_lstripChars (pe_op op_add_str (pv 9) (pv 11)) pe_str) (pg_name (i := 3) sc_float_text.nd rfl (by first | exact .inl rfl | exact .inr rfl)))) (psst_cons (PST.of (ps_if (pt_cmpR op_eq (pv 3) pe_str (nomark _)) (pss_one (ps_ret pe_str)) pss_nil)) (psst_cons (PST.of (ps_asg (pe_m1 PySem.F.slot_str_rstrip PySem.F.type_str_rstrip mt_rstripChars (pv 3) pe_str) (pg_name (i := 4) sc_float_text.nd rfl (by first | exact .inl rfl | exact .inr rfl)))) (psst_cons (PST.of (ps_asg (pe_ifExp (pt_cmpR op_ne (pv 7) pe_str (nomark _)) (pe_c f_number_of hr (by omega) (by rfl) (pa_cons (pe_c f_unsigned hr (by omega) (by rfl) (pa_cons (pv 8) pa_nil)) pa_nil)) pe_int) (pg_name (i := 5) sc_float_text.nd rfl (by first | exact .inl rfl | exact .inr rfl)))) (psst_cons (PST.of (ps_if (pt_val (pe_m1 PySem.F.slot_str_startswith PySem.F.type_str_startswith mt_startswith (pv 8) pe_str)) (pss_one (ps_asg (pe_un un_neg (pv 5)) (pg_name (i := 5) sc_float_text.nd rfl (by first | exact .inl rfl | exact .inr rfl)))) pss_nil)) (psst_cons (PST.of (ps_asg (pe_op op_sub (pe_op op_add (pe_op op_sub (pv 5) (pe_callB call_len_str (by rfl) m_len PySem.boot_len (pa_cons (pv 11) pa_nil))) (pe_callB call_len_str (by rfl) m_len PySem.boot_len (pa_cons (pv 3) pa_nil))) (pe_callB call_len_str (by rfl) m_len PySem.boot_len (pa_cons (pv 4) pa_nil))) (pg_name (i := 5) sc_float_text.nd rfl (by first | exact .inl rfl | exact .inr rfl)))) (CwR.psst_one (PST.of (ps_ret (pe_op op_add_str (pe_op op_add_str (pe_op op_add_str (pe_op op_add_str (pv 2) (pv 4)) pe_str) (pe_ifExp (pt_cmpR op_lt (pv 5) pe_int (nomark _)) pe_str pe_str)) (pe_c f_figures_of hr (by omega) (by rfl) (pa_cons (pe_callB call_abs (by rfl) m_abs (by decide +kernel) (pa_cons (pv 5) pa_nil)) pa_nil)))))))))))))))))))), ?_, Nat.le_refl _, fun _ h => nomatch h⟩
  refine es_nG (G' := [_, _, _, _, _, _, _, _, _, _, _, _]) rfl ?_
  refine es_guard (et_test (ev_op (ev_var rfl) (ev_c hd_NANS) ro_inT)) (fun h => es_retD (ev_str [46, 110, 97, 110]) ?_) (fun h1 => ?_)
  · unfold floatL
    rw [if_pos (of_decide_eq_true h)] <;> rfl
  have h1 := of_decide_eq_false h1
  refine es_seq (es_asg (ev_call0 (ds := [.str l]) (es := []) (z := .str (unsignedL l)) (ea_cons (ev_var rfl) ea_nil) ⟨l, by omega, rfl, rfl, rfl, rfl⟩ rfl (fun _ => rfl))) ?_
  refine es_nG (G' := [_, _, _, _, _, _, _, _, _, _, _, _]) rfl ?_
  refine es_seq (es_asg (ev_isD (ev_iteS (et_B (ev_m1 (ev_var rfl) (ev_str [45]) rm_starts)) (fun _ => ev_str [45]) (fun _ => ev_str [])) (show _ = Dt.str (minusL l) from rfl))) ?_
  refine es_nG (G' := [_, _, _, _, _, _, _, _, _, _, _, _]) rfl ?_
  have hml : (minusL l).length ≤ 1 := by
    unfold minusL
    split
    · exact Nat.le_refl _
    · exact Nat.zero_le _
  refine es_guard (et_test (ev_op (ev_var rfl) (ev_c hd_INFINITIES) ro_inT)) (fun h => es_retD (ev_op (ev_var rfl) (ev_str [46, 105, 110, 102]) (ro_addS ?_)) ?_) (fun h2 => ?_)
  · show _ + 4 ≤ _
    omega
  · unfold floatL
    rw [if_neg h1, if_pos (of_decide_eq_true h)] <;> rfl
  have h2 := of_decide_eq_false h2
  refine es_seq (es_asgG (ev_isD (ev_m1 (ev_repl (y := [69]) (z := [101]) (ev_var rfl) rfl rfl (by decide) ?_) (ev_str [101]) (rm_part ?_ (by simp))) (show _ = Dt.tup [.str (expoL l).1, .str (expoL l).2.1, .str (expoL l).2.2] from ?_)) (eg_tup (egs_cons eg_name (egs_cons eg_name (egs_cons eg_name egs_nil))) rfl)) ?_
  · show _ + (_ + 1) * 1 ≤ _
    omega
  · rw [repl_one, List.length_map]
    omega
  · rw [repl_one] <;> rfl
  refine es_nG (G' := [_, _, _, _, _, _, _, _, _, _, _, _]) rfl ?_
  refine es_seq (es_asgG (ev_isD (ev_m1 (ev_var rfl) (ev_str [46]) (rm_part (by omega) (by simp))) (show _ = Dt.tup [.str (wholL l).1, .str (wholL l).2.1, .str (wholL l).2.2] from rfl)) (eg_tup (egs_cons eg_name (egs_cons eg_name (egs_cons eg_name egs_nil))) rfl)) ?_
  refine es_nG (G' := [_, _, _, _, _, _, _, _, _, _, _, _]) rfl ?_
  refine es_guard (et_not (et_B (ev_call0 (ds := [.str ((wholL l).1 ++ (wholL l).2.2), .str FIG]) (es := []) (z := .bl (isAllL ((wholL l).1 ++ (wholL l).2.2) FIG)) (ea_cons (ev_op (ev_var rfl) (ev_var rfl) (ro_addS (by omega))) (ea_cons (ev_c hd_FIGURES) ea_nil)) ⟨_, _, by rw [List.length_append]; omega, rfl, rfl, rfl, rfl⟩ rfl (fun _ => rfl)))) (fun h => es_retD ev_non ?_) (fun h3 => ?_)
  · unfold floatL
    rw [if_neg h1, if_neg h2, if_pos (by simpa using h)] <;> rfl
  have h3 : isAllL ((wholL l).1 ++ (wholL l).2.2) FIG = true := by simpa using h3
  have hh3 : ¬ isAllL ((wholL l).1 ++ (wholL l).2.2) FIG = false := by rw [h3]; simp
  refine es_guard (et_and (et_test (ev_op (ev_var rfl) (ev_str []) ro_neS)) (fun _ => et_not (et_B (ev_call0 (ds := [.str (unsignedL (expoL l).2.2), .str FIG]) (es := []) (z := .bl (isAllL (unsignedL (expoL l).2.2) FIG)) (ea_cons (ev_call0 (ds := [.str (expoL l).2.2]) (es := []) (z := .str (unsignedL (expoL l).2.2)) (ea_cons (ev_var rfl) ea_nil) ⟨_, by omega, rfl, rfl, rfl, rfl⟩ rfl (fun _ => rfl)) (ea_cons (ev_c hd_FIGURES) ea_nil)) ⟨_, _, by omega, rfl, rfl, rfl, rfl⟩ rfl (fun _ => rfl)))) (fun _ => rfl)) (fun h => es_retD ev_non ?_) (fun h4 => ?_)
  · unfold floatL
    rw [if_neg h1, if_neg h2, if_neg hh3, if_pos h] <;> rfl
  have hh4 : ¬ ((!decide ((expoL l).2.1 = [])) && !isAllL (unsignedL (expoL l).2.2) FIG) = true := by rw [h4]; exact Bool.false_ne_true
  refine es_seq (es_asg (ev_isD (ev_m1 (ev_op (ev_var rfl) (ev_var rfl) (ro_addS (by omega))) (ev_str [48]) (rm_lstrip (by rw [List.length_append]; omega))) (show _ = Dt.str (figsL l) from rfl))) ?_
  refine es_nG (G' := [_, _, _, _, _, _, _, _, _, _, _, _]) rfl ?_
  refine es_guard (et_test (ev_op (ev_var rfl) (ev_str []) ro_eqS)) (fun h => es_retD (ev_str [48, 101, 48]) ?_) (fun h5 => ?_)
  · unfold floatL
    rw [if_neg h1, if_neg h2, if_neg hh3, if_neg hh4, if_pos (of_decide_eq_true h)] <;> rfl
  have h5 := of_decide_eq_false h5
  refine es_seq (es_asg (ev_isD (ev_m1 (ev_var rfl) (ev_str [48]) (rm_rstrip (by omega))) (show _ = Dt.str (shortL l) from rfl))) ?_
  refine es_nG (G' := [_, _, _, _, _, _, _, _, _, _, _, _]) rfl ?_
  have hdg : (!decide ((expoL l).2.1 = [])) = true → NumText.AllDigits (unsignedL (expoL l).2.2) := fun hm => (all_is (by
    cases e : isAllL (unsignedL (expoL l).2.2) FIG with
    | true => rfl
    | false => exact absurd (by rw [hm, e] <;> rfl) hh4)).2
  refine es_seq (es_asg (ev_isD (ev_iteI (et_test (ev_op (ev_var rfl) (ev_str []) ro_neS)) (fun hm => ev_call0 (ds := [.str (unsignedL (expoL l).2.2)]) (es := []) (z := .int ((NumText.digitsVal (unsignedL (expoL l).2.2) : Nat) : Int)) (ea_cons (ev_call0 (ds := [.str (expoL l).2.2]) (es := []) (z := .str (unsignedL (expoL l).2.2)) (ea_cons (ev_var rfl) ea_nil) ⟨_, by omega, rfl, rfl, rfl, rfl⟩ rfl (fun _ => rfl)) ea_nil) ⟨_, by omega, hdg hm, rfl, rfl, rfl, rfl⟩ rfl (fun _ => rfl)) (fun _ => ev_int)) (show _ = Dt.int (pow0 l) from rfl))) ?_
  refine es_nG (G' := [_, _, _, _, _, _, _, _, _, _, _, _]) rfl ?_
  refine es_seq (es_ifI (i := -pow0 l) (j := pow0 l) (n := 5) (et_B (ev_m1 (ev_var rfl) (ev_str [45]) rm_starts)) (fun _ => ev_un (ev_var rfl) ru_neg) rfl) ?_
  refine es_nG (G' := [_, _, _, _, _, _, _, _, _, _, _, _]) rfl ?_
  refine es_seq (es_asg (ev_isD (ev_op (ev_op (ev_op (ev_var rfl) (ev_cb (xs := [.str (wholL l).2.2]) (ea_cons (ev_var rfl) ea_nil) (rc_lenS (by omega))) ro_sub) (ev_cb (xs := [.str (figsL l)]) (ea_cons (ev_var rfl) ea_nil) (rc_lenS (by omega))) ro_add) (ev_cb (xs := [.str (shortL l)]) (ea_cons (ev_var rfl) ea_nil) (rc_lenS (by omega))) ro_sub) (show _ = Dt.int (powL l) from rfl))) ?_
  refine es_nG (G' := [_, _, _, _, _, _, _, _, _, _, _, _]) rfl ?_
  have hv : ∃ k, (pow0 l).natAbs < 10 ^ k ∧ k ≤ 10000 := by
    unfold pow0
    split
    · rename_i hm
      refine ⟨(unsignedL (expoL l).2.2).length, ?_, by omega⟩
      rw [Int.natAbs_natCast]
      exact val_lt _ (hdg hm)
    · exact ⟨0, by decide, by decide⟩
  have hnum : (TL.numL (powL l).natAbs).length ≤ 10020 := by
    obtain ⟨k, hk, hk2⟩ := hv
    refine numL_len_le _ _ (by decide) ?_
    have e1 : (powL l).natAbs ≤ (pow0 l).natAbs + 30000 := by
      unfold powL pow1
      split <;> omega
    have e2 : (10 : Nat) ^ k ≤ 10 ^ 10000 := Nat.pow_le_pow_right (by decide) hk2
    have e3 : (10 : Nat) ^ 10020 = 10 ^ 10000 * 10 ^ 20 := by rw [← Nat.pow_add]
    generalize (10 : Nat) ^ 10020 = a at *
    generalize (10 : Nat) ^ 10000 = b at *
    generalize (10 : Nat) ^ k = c at *
    have e4 : 0 < b := by omega
    have e5 : b * 100000 ≤ b * 10 ^ 20 := Nat.mul_le_mul_left b (by decide)
    omega
  refine es_retD (ev_op (ev_op (ev_op (ev_op (ev_var rfl) (ev_var rfl) (ro_addS (by omega))) (ev_str [101]) (ro_addS ?_)) (ev_iteS (et_test (ev_op (ev_var rfl) ev_int ro_lt)) (fun _ => ev_str [45]) (fun _ => ev_str [])) (ro_addS ?_)) (ev_call0 (ds := [.int ((powL l).natAbs : Nat)]) (es := []) (z := .str (TL.numL (powL l).natAbs)) (ea_cons (ev_isD (ev_cb (xs := [.int (powL l)]) (ea_cons (ev_var rfl) ea_nil) rc_abs) ?_) ea_nil) ⟨(powL l).natAbs, by omega, rfl, rfl, rfl, rfl⟩ rfl (fun _ => rfl)) (ro_addS ?_)) ?_
  · rw [List.length_append]
    show _ + 1 ≤ _
    omega
  · rw [List.length_append, List.length_append]
    show _ + 1 + _ ≤ _
    split <;> simp <;> omega
  · congr 1
    split <;> omega
  · rw [List.length_append, List.length_append, List.length_append]
    show _ + 1 + _ + _ ≤ _
    split <;> simp <;> omega
  · unfold floatL
    rw [if_neg h1, if_neg h2, if_neg hh3, if_neg hh4, if_neg h5]
    show Dt.str _ = Dt.str _
    congr 3
    by_cases hp : powL l < 0
    · rw [if_pos hp, if_pos (decide_eq_true hp)]
    · rw [if_neg hp, if_neg (by rw [decide_eq_false hp]; exact Bool.false_ne_true)]
end
end T
namespace T
open PySem PySem.Spec PyProof.Rows L2 DJ LJ LamX
abbrev OCT : List Nat := [48, 49, 50, 51, 52, 53, 54, 55]
abbrev HEX : List Nat := [48, 49, 50, 51, 52, 53, 54, 55, 56, 57, 97, 98, 99, 100, 101, 102, 65, 66, 67, 68, 69, 70]
def isOct (l : List Nat) : Bool := pre [48, 111] l && isAllL (l.drop 2) OCT
def isHex (l : List Nat) : Bool := pre [48, 120] l && isAllL (l.drop 2) HEX
/-- an integer's canonical text -/
def wholeL (l : List Nat) : Option (List Nat) :=
  if isOct l = true then some (TL.numL (octNum (l.drop 2))) else if isHex l = true then some (TL.numL (Hx.hexNum (l.drop 2))) else wholeA l
theorem all_in {l s : List Nat} (h : isAllL l s = true) : l ≠ [] ∧ ∀ c ∈ l, c ∈ s := by
  unfold isAllL at h
  rw [Bool.and_eq_true, Bool.not_eq_true', decide_eq_false_iff_not, List.all_map, List.all_eq_true] at h
  refine ⟨h.1, fun c hc => ?_⟩
  have h2 := h.2 c hc
  have e : decide (c ∈ s) = true := by rw [← sub_one]; exact h2
  exact of_decide_eq_true e
theorem cut_at2 (l : List Nat) : Sl.d (Dt.str (cutL l (some 2) none)) = Sl.d (Dt.str (l.drop 2)) := by rw [show cutL l (some 2) none = l.drop 2 from cutL_from l 2]
theorem oct_of {l : List Nat} (h : isAllL l OCT = true) : ∀ c ∈ l, Oct c := fun c hc => by
  have := (all_in h).2 c hc
  simp [OCT] at this
  unfold Oct
  omega
theorem hex_of {l : List Nat} (h : isAllL l HEX = true) : ∀ c ∈ l, Hx.IsHex c := fun c hc => by
  have := (all_in h).2 c hc
  simp [HEX] at this
  unfold Hx.IsHex
  omega
theorem num_short {n b k : Nat} (h : n < b ^ k) (hb : b ≤ 100) (hk : k ≤ 2200) : (TL.numL n).length ≤ 200000 := by
  have h1 : b ^ k ≤ 100 ^ k := Nat.pow_le_pow_left hb k
  have h2 : (100 : Nat) ^ k ≤ 10 ^ (2 * k + 1) := by
    rw [show (100 : Nat) = 10 ^ 2 by decide, ← Nat.pow_mul]
    exact Nat.pow_le_pow_right (by decide) (by omega)
  have := numL_len_le n (2 * k + 1) (by omega) (by omega)
  omega
section
variable {P : Program} {w : World} {K : PySem.W.Frag} {mg : Str → Option Value} {base : Heap}
def R_whole : List Sl → List MO → Sl → List MO → Prop := fun ss M r M' => ∃ l : List Nat, l.length ≤ 100000 ∧ ((isOct l || isHex l) = true → l.length ≤ 2200) ∧ ss = [.d (.str l)] ∧ M = [] ∧ r = .d (oS (wholeL l)) ∧ M' = []
theorem cal_whole (D : Df K mg "whole_text" s_whole_text ["word"]) (c_FIGURES : Gc K mg "FIGURES" (.str [48, 49, 50, 51, 52, 53, 54, 55, 56, 57])) (f_is_all : Cal P w K mg base 1 "is_all" (SpR K 2 R_is_all) []) (f_unsigned : Cal P w K mg base 1 "unsigned" (SpR K 1 R_unsigned) []) (f_figures_of : Cal P w K mg base 1 "figures_of" (SpR K 1 R_figures_of) [])
    (m_int : mg "int" = none) (dgk : DgK K) : Cal P w K mg base 2 "whole_text" (SpR K 1 R_whole) [] := by
  obtain ⟨v_FIGURES, u_FIGURES, hm_FIGURES, hr_FIGURES, hd_FIGURES⟩ := c_FIGURES.ex
  refine cal_mk (k := 1) D sc_whole_text rfl fun f cdv A outer s H E hr ss M r M' h => ?_
  obtain ⟨l, hl, hx, rfl, rfl, rfl, rfl⟩ := h
  have hu := unsigned_len l
  have hs := lstrip_len [48] (unsignedL l)
  have hd2 : (l.drop 2).length ≤ l.length := by rw [List.length_drop]; omega
  refine ⟨_, [], (pss_cons (ps_if (PW.pt (pw_and (pt_val (pe_m1 PySem.F.slot_str_startswith PySem.F.type_str_startswith mt_startswith (pv 0) pe_str)) (pw_and1 (pt_val (pe_c f_is_all hr (by omega) (by rfl) (pa_cons (pe_slice sl_str (pv 0) (po_some pe_int) po_none) (pa_cons pe_str pa_nil))))))) (pss_one (ps_ret (pe_c f_figures_of hr (by omega) (by rfl) (pa_cons (pe_callTy (call_int_octL dgk) (by rfl) m_int (by decide +kernel) (pa_cons (pe_slice sl_str (pv 0) (po_some pe_int) po_none) (pa_cons pe_int pa_nil))) pa_nil)))) pss_nil) (pss_cons (ps_if (PW.pt (pw_and (pt_val (pe_m1 PySem.F.slot_str_startswith PySem.F.type_str_startswith mt_startswith (pv 0) pe_str)) (pw_and1 (pt_val (pe_c f_is_all hr (by omega) (by rfl) (pa_cons (pe_slice sl_str (pv 0) (po_some pe_int) po_none) (pa_cons pe_str pa_nil))))))) (pss_one (ps_ret (pe_c f_figures_of hr (by omega) (by rfl) (pa_cons (pe_callTy (call_int_hexL dgk) (by rfl) m_int (by decide +kernel) (pa_cons (pe_slice sl_str (pv 0) (po_some pe_int) po_none) (pa_cons pe_int pa_nil))) pa_nil)))) pss_nil) (pss_cons (ps_asg (pe_c f_unsigned hr (by omega) (by rfl) (pa_cons (pv 0) pa_nil)) (pg_name (i := 1) sc_whole_text.nd rfl (by first | exact .inl rfl | exact .inr rfl))) (pss_cons (ps_if (pt_not (pt_val (pe_c f_is_all hr (by omega) (by rfl) (pa_cons (pv 1) (pa_cons (pe_glob (by rfl) hm_FIGURES hr_FIGURES) pa_nil))))) (pss_one (ps_ret pe_non)) pss_nil) (pss_cons (ps_asg (pe_m1 PySem.F.slot_str_lstrip PySem.F.type_str_lstrip mt_lstripChars (pv 1) pe_str) (pg_name (i := 2) sc_whole_text.nd rfl (by first | exact .inl rfl | exact .inr rfl))) (pss_cons (ps_if (pt_cmpR op_eq (pv 2) pe_str (nomark _)) (pss_one (ps_ret pe_str)) pss_nil) (pss_one (ps_ret (pe_ifExp (pt_val (pe_m1 PySem.F.slot_str_startswith PySem.F.type_str_startswith mt_startswith (pv 0) pe_str)) (pe_op op_add_str pe_str (pv 2)) (pv 2)))))))))), ?_, Nat.le_refl _, fun _ h => nomatch h⟩
  refine es_guard (et_is (et_and (c := isAllL (l.drop 2) OCT) (et_B (ev_m1 (ev_var rfl) (ev_str [48, 111]) rm_starts)) (fun _ => et_B (ev_call0 (ds := [.str (l.drop 2), .str OCT]) (es := []) (z := .bl (isAllL (l.drop 2) OCT)) (ea_cons (ev_is (ev_slS (ev_var rfl) (eo_some ev_int) eo_none (by omega)) (cut_at2 l)) (ea_cons (ev_str OCT) ea_nil)) ⟨_, _, by omega, rfl, rfl, rfl, rfl⟩ rfl (fun _ => rfl))) (fun _ => rfl)) (show _ = isOct l from rfl)) (fun h => ?_) (fun h1 => ?_)
  · have ha : isAllL (l.drop 2) OCT = true := by unfold isOct at h; exact (Bool.and_eq_true _ _ ▸ h).2
    have h6 : l.length ≤ 2200 := hx (by rw [h] <;> rfl)
    refine es_retD (ev_call0 (ds := [.int ((octNum (l.drop 2) : Nat) : Int)]) (es := []) (z := .str (TL.numL (octNum (l.drop 2)))) (ea_cons (ev_cb (xs := [.str (l.drop 2), .int 8]) (ea_cons (ev_is (ev_slS (ev_var rfl) (eo_some ev_int) eo_none (by omega)) (cut_at2 l)) (ea_cons ev_int ea_nil)) (rc_intOctL (all_in ha).1 (oct_of ha))) ea_nil) ⟨_, num_short (octNum_lt _ (oct_of ha)) (by decide) (by omega), rfl, rfl, rfl, rfl⟩ rfl (fun _ => rfl)) ?_
    unfold wholeL
    rw [if_pos h] <;> rfl
  have h1' : ¬ isOct l = true := by rw [h1]; exact Bool.false_ne_true
  refine es_guard (et_is (et_and (c := isAllL (l.drop 2) HEX) (et_B (ev_m1 (ev_var rfl) (ev_str [48, 120]) rm_starts)) (fun _ => et_B (ev_call0 (ds := [.str (l.drop 2), .str HEX]) (es := []) (z := .bl (isAllL (l.drop 2) HEX)) (ea_cons (ev_is (ev_slS (ev_var rfl) (eo_some ev_int) eo_none (by omega)) (cut_at2 l)) (ea_cons (ev_str HEX) ea_nil)) ⟨_, _, by omega, rfl, rfl, rfl, rfl⟩ rfl (fun _ => rfl))) (fun _ => rfl)) (show _ = isHex l from rfl)) (fun h => ?_) (fun h2 => ?_)
  · have ha : isAllL (l.drop 2) HEX = true := by unfold isHex at h; exact (Bool.and_eq_true _ _ ▸ h).2
    have h6 : l.length ≤ 2200 := hx (by rw [h, Bool.or_true])
    refine es_retD (ev_call0 (ds := [.int ((Hx.hexNum (l.drop 2) : Nat) : Int)]) (es := []) (z := .str (TL.numL (Hx.hexNum (l.drop 2)))) (ea_cons (ev_cb (xs := [.str (l.drop 2), .int 16]) (ea_cons (ev_is (ev_slS (ev_var rfl) (eo_some ev_int) eo_none (by omega)) (cut_at2 l)) (ea_cons ev_int ea_nil)) (rc_intHexL (all_in ha).1 (hex_of ha))) ea_nil) ⟨_, num_short (hexNum_lt _ (hex_of ha)) (by decide) (by omega), rfl, rfl, rfl, rfl⟩ rfl (fun _ => rfl)) ?_
    unfold wholeL
    rw [if_neg h1', if_pos h] <;> rfl
  have h2' : ¬ isHex l = true := by rw [h2]; exact Bool.false_ne_true
  have hw : wholeL l = wholeA l := by unfold wholeL; rw [if_neg h1', if_neg h2']
  rw [hw]
  refine es_seq (es_asg (ev_call0 (ds := [.str l]) (es := []) (z := .str (unsignedL l)) (ea_cons (ev_var rfl) ea_nil) ⟨l, hl, rfl, rfl, rfl, rfl⟩ rfl (fun _ => rfl))) ?_
  refine es_guard (et_not (et_B (ev_call0 (ds := [.str (unsignedL l), .str FIG]) (es := []) (z := .bl (isAllL (unsignedL l) FIG)) (ea_cons (ev_var rfl) (ea_cons (ev_c hd_FIGURES) ea_nil)) ⟨_, _, by omega, rfl, rfl, rfl, rfl⟩ rfl (fun _ => rfl)))) (fun h => es_retD ev_non ?_) (fun h => ?_)
  · unfold wholeA
    rw [if_pos (by simpa using h)] <;> rfl
  have hn : ¬ isAllL (unsignedL l) FIG = false := by simpa using h
  refine es_seq (es_asg (ev_m1 (ev_var rfl) (ev_str [48]) (rm_lstrip (by omega)))) ?_
  refine es_guard (et_test (ev_op (ev_var rfl) (ev_str []) ro_eqS)) (fun h2 => es_retD (ev_str [48]) ?_) (fun h2 => es_retD (ev_iteS (et_B (ev_m1 (ev_var rfl) (ev_str [45]) rm_starts)) (fun _ => ev_op (ev_str [45]) (ev_var rfl) (ro_addS ?_)) (fun _ => ev_var rfl)) ?_)
  · unfold wholeA
    rw [if_neg hn, if_pos (of_decide_eq_true h2)] <;> rfl
  · show 1 + _ ≤ _
    omega
  · unfold wholeA
    rw [if_neg hn, if_neg (of_decide_eq_false h2)] <;> rfl
end
end T
namespace T
open PySem PySem.Spec PyProof.Rows L2 DJ LJ LamX
abbrev CT : List (List Nat) := [[33, 33, 115, 101, 113], [33, 33, 109, 97, 112]]
abbrev tNull : List Nat := [33, 33, 110, 117, 108, 108]
abbrev tBool : List Nat := [33, 33, 98, 111, 111, 108]
abbrev tInt : List Nat := [33, 33, 105, 110, 116]
abbrev tFloat : List Nat := [33, 33, 102, 108, 111, 97, 116]
abbrev tStr : List Nat := [33, 33, 115, 116, 114]
abbrev NULLL : List (List Nat) := [[], [126], [110, 117, 108, 108], [78, 117, 108, 108], [78, 85, 76, 76]]
abbrev TRUEL : List (List Nat) := [[116, 114, 117, 101], [84, 114, 117, 101], [84, 82, 85, 69]]
abbrev FALSEL : List (List Nat) := [[102, 97, 108, 115, 101], [70, 97, 108, 115, 101], [70, 65, 76, 83, 69]]
def boolL (l : List Nat) : Option (List Nat) := if l ∈ TRUEL then some [116, 114, 117, 101] else if l ∈ FALSEL then some [102, 97, 108, 115, 101] else none
/-- the canonical text of a word by a tag -/
def canonL (t l : List Nat) : Option (List Nat) :=
  if t ∈ CT then none
  else if t = tNull then (if l ∈ NULLL then some [110, 117, 108, 108] else none)
  else if t = tBool then boolL l
  else if t = tInt then wholeL l
  else if t = tFloat then floatL l
  else some l
def WT : List (List Nat) := [tNull, tBool, tInt, tFloat]
def tagL (l : List Nat) : List Nat := (WT.find? fun t => !decide (canonL t l = none)).getD tStr
section
variable {P : Program} {w : World} {K : PySem.W.Frag} {mg : Str → Option Value} {base : Heap}
def R_canonical : List Sl → List MO → Sl → List MO → Prop := fun ss M r M' => ∃ t l : List Nat, l.length ≤ 10000 ∧ ((isOct l || isHex l) = true → l.length ≤ 2200) ∧ ss = [.d (.str t), .d (.str l)] ∧ M = [] ∧ r = .d (oS (canonL t l)) ∧ M' = []
theorem cal_canonical (D : Df K mg "canonical" s_canonical ["tag", "word"]) (c_COLLECTION_TAGS : Gc K mg "COLLECTION_TAGS" (.tup (CT.map Dt.str))) (c_NULLS : Gc K mg "NULLS" (.tup (NULLL.map Dt.str))) (c_TRUES : Gc K mg "TRUES" (.tup (TRUEL.map Dt.str))) (c_FALSES : Gc K mg "FALSES" (.tup (FALSEL.map Dt.str)))
    (f_whole_text : Cal P w K mg base 2 "whole_text" (SpR K 1 R_whole) []) (f_float_text : Cal P w K mg base 2 "float_text" (SpR K 1 R_float_text) []) : CalF P w K mg base 3 "canonical" s_canonical ["tag", "word"] (SpR K 2 R_canonical) := by
  obtain ⟨v_COLLECTION_TAGS, u_COLLECTION_TAGS, hm_COLLECTION_TAGS, hr_COLLECTION_TAGS, hd_COLLECTION_TAGS⟩ := c_COLLECTION_TAGS.ex
  obtain ⟨v_NULLS, u_NULLS, hm_NULLS, hr_NULLS, hd_NULLS⟩ := c_NULLS.ex
  obtain ⟨v_TRUES, u_TRUES, hm_TRUES, hr_TRUES, hd_TRUES⟩ := c_TRUES.ex
  obtain ⟨v_FALSES, u_FALSES, hm_FALSES, hr_FALSES, hd_FALSES⟩ := c_FALSES.ex
  refine cal_mkF (k := 2) D sc_canonical rfl fun f cdv A outer s H E hr ss M r M' h => ?_
  obtain ⟨t, l, hl, hx, rfl, rfl, rfl, rfl⟩ := h
  refine ⟨_, [], (pss_cons (ps_if (pt_cmpR (show OpR _ (compareOp .In) (rIn K false) from op_in_seq) (pv 0) (pe_glob (by rfl) hm_COLLECTION_TAGS hr_COLLECTION_TAGS) (by rfl)) (pss_one (ps_ret pe_non)) pss_nil) (pss_cons (ps_if (pt_cmpR op_eq (pv 0) pe_str (nomark _)) (pss_one (ps_ret (pe_ifExp (pt_cmpR (show OpR _ (compareOp .In) (rIn K false) from op_in_seq) (pv 1) (pe_glob (by rfl) hm_NULLS hr_NULLS) (by rfl)) pe_str pe_non))) pss_nil) (pss_cons (ps_if (pt_cmpR op_eq (pv 0) pe_str (nomark _)) (pss_one (ps_ret (pe_ifExp (pt_cmpR (show OpR _ (compareOp .In) (rIn K false) from op_in_seq) (pv 1) (pe_glob (by rfl) hm_TRUES hr_TRUES) (by rfl)) pe_str (pe_ifExp (pt_cmpR (show OpR _ (compareOp .In) (rIn K false) from op_in_seq) (pv 1) (pe_glob (by rfl) hm_FALSES hr_FALSES) (by rfl)) pe_str pe_non)))) pss_nil) (pss_cons (ps_if (pt_cmpR op_eq (pv 0) pe_str (nomark _)) (pss_one (ps_ret (pe_c f_whole_text hr (by omega) (by rfl) (pa_cons (pv 1) pa_nil)))) pss_nil) (pss_cons (ps_if (pt_cmpR op_eq (pv 0) pe_str (nomark _)) (pss_one (ps_ret (pe_c f_float_text hr (by omega) (by rfl) (pa_cons (pv 1) pa_nil)))) pss_nil) (pss_one (ps_ret (pv 1)))))))), ?_, Nat.le_refl _, fun _ h => nomatch h⟩
  refine es_guard (et_test (ev_op (ev_var rfl) (ev_c hd_COLLECTION_TAGS) ro_inT)) (fun h => es_retD ev_non ?_) (fun h1 => ?_)
  · unfold canonL
    rw [if_pos (of_decide_eq_true h)] <;> rfl
  have h1 := of_decide_eq_false h1
  refine es_guard (et_test (ev_op (ev_var rfl) (ev_str tNull) ro_eqS)) (fun h => es_retD (ev_if (s := .d (oS (if l ∈ NULLL then some [110, 117, 108, 108] else none))) (et_test (ev_op (ev_var rfl) (ev_c hd_NULLS) ro_inT)) (fun h => ev_isD (ev_str [110, 117, 108, 108]) ?_) (fun h => ev_isD ev_non ?_)) ?_) (fun h2 => ?_)
  · rw [if_pos (of_decide_eq_true h)] <;> rfl
  · rw [if_neg (of_decide_eq_false h)] <;> rfl
  · unfold canonL
    rw [if_neg h1, if_pos (of_decide_eq_true h)]
  have h2 := of_decide_eq_false h2
  refine es_guard (et_test (ev_op (ev_var rfl) (ev_str tBool) ro_eqS)) (fun h => es_retD (ev_if (s := .d (oS (boolL l))) (et_test (ev_op (ev_var rfl) (ev_c hd_TRUES) ro_inT)) (fun h => ev_isD (ev_str [116, 114, 117, 101]) ?_) (fun hh => ev_if (et_test (ev_op (ev_var rfl) (ev_c hd_FALSES) ro_inT)) (fun h => ev_isD (ev_str [102, 97, 108, 115, 101]) ?_) (fun h => ev_isD ev_non ?_))) ?_) (fun h3 => ?_)
  · unfold boolL
    rw [if_pos (of_decide_eq_true h)] <;> rfl
  · unfold boolL
    rw [if_neg (of_decide_eq_false hh), if_pos (of_decide_eq_true h)] <;> rfl
  · unfold boolL
    rw [if_neg (of_decide_eq_false hh), if_neg (of_decide_eq_false h)] <;> rfl
  · unfold canonL
    rw [if_neg h1, if_neg h2, if_pos (of_decide_eq_true h)]
  have h3 := of_decide_eq_false h3
  refine es_guard (et_test (ev_op (ev_var rfl) (ev_str tInt) ro_eqS)) (fun h => es_retD (ev_call0 (ds := [.str l]) (es := []) (z := oS (wholeL l)) (ea_cons (ev_var rfl) ea_nil) ⟨l, by omega, hx, rfl, rfl, rfl, rfl⟩ rfl (fun _ => rfl)) ?_) (fun h4 => ?_)
  · unfold canonL
    rw [if_neg h1, if_neg h2, if_neg h3, if_pos (of_decide_eq_true h)]
  have h4 := of_decide_eq_false h4
  refine es_guard (et_test (ev_op (ev_var rfl) (ev_str tFloat) ro_eqS)) (fun h => es_retD (ev_call0 (ds := [.str l]) (es := []) (z := oS (floatL l)) (ea_cons (ev_var rfl) ea_nil) ⟨l, hl, rfl, rfl, rfl, rfl⟩ rfl (fun _ => rfl)) ?_) (fun h5 => es_retD (ev_var rfl) ?_)
  · unfold canonL
    rw [if_neg h1, if_neg h2, if_neg h3, if_neg h4, if_pos (of_decide_eq_true h)]
  · unfold canonL
    rw [if_neg h1, if_neg h2, if_neg h3, if_neg h4, if_neg (of_decide_eq_false h5)] <;> rfl
end
end T
namespace T
open PySem PySem.Spec PyProof.Rows L2 DJ LJ LamX
abbrev s_word_tag : Stmt := topS 15
abbrev N_word_tag : List Str := ["word", "tag"]
theorem sc_word_tag : FnScope N_word_tag ["word"] (defScope s_word_tag) := ⟨rfl, rfl, rfl, by decide +kernel, rfl, by decide +kernel, by decide +kernel⟩
section
variable {P : Program} {w : World} {K : PySem.W.Frag} {mg : Str → Option Value} {base : Heap}
def R_word_tag : List Sl → List MO → Sl → List MO → Prop := fun ss M r M' => ∃ l : List Nat, l.length ≤ 10000 ∧ ((isOct l || isHex l) = true → l.length ≤ 2200) ∧ ss = [.d (.str l)] ∧ M = [] ∧ r = .d (.str (tagL l)) ∧ M' = []
theorem cal_word_tag (D : Df K mg "word_tag" s_word_tag ["word"]) (c_WORD_TAGS : Gc K mg "WORD_TAGS" (.tup (WT.map Dt.str))) (f_canonical : Cal P w K mg base 3 "canonical" (SpR K 2 R_canonical) []) : CalF P w K mg base 4 "word_tag" s_word_tag ["word"] (SpR K 1 R_word_tag) := by
  obtain ⟨v_WORD_TAGS, u_WORD_TAGS, hm_WORD_TAGS, hr_WORD_TAGS, hd_WORD_TAGS⟩ := c_WORD_TAGS.ex
  refine cal_mkF (k := 3) D sc_word_tag rfl fun f cdv A outer s H E hr ss M r M' h => ?_
  obtain ⟨l, hl, hx, rfl, rfl, rfl, rfl⟩ := h
  refine ⟨_, [], (pss_cons (ps_for PassesOwn.never rfl (pi_tup (pe_glob (by rfl) hm_WORD_TAGS hr_WORD_TAGS)) (pg_name (i := 1) sc_word_tag.nd rfl (by first | exact .inl rfl | exact .inr rfl)) (pss_one (ps_if (pt_cmpR op_notN (pe_c f_canonical hr (by omega) (by rfl) (pa_cons (pv 1) (pa_cons (pv 0) pa_nil))) pe_non (nomark _)) (pss_one (ps_ret (pv 1))) pss_nil))) (pss_one (ps_ret pe_str))), ?_, Nat.le_refl _, fun _ h => nomatch h⟩
  refine es_forFind WT Dt.str (fun t => !decide (canonL t l = none)) (fun t => .d (.str t)) (G0 := [some (.d (.str l)), none]) (ei_tup (ev_c hd_WORD_TAGS)) (Lg.refl _) (fun t ht => ⟨_, eg_name, fun h => ?_, fun h => ?_⟩) (fun t h => ?_) (fun h => es_retD (ev_str tStr) ?_)
  · exact es_yes (et_test (ev_op (ev_call0 (ds := [.str t, .str l]) (es := []) (z := oS (canonL t l)) (ea_cons (ev_var rfl) (ea_cons (ev_var rfl) ea_nil)) ⟨t, l, hl, hx, rfl, rfl, rfl, rfl⟩ rfl (fun _ => rfl)) ev_non ro_notN)) h (es_ret (ev_var rfl))
  · exact es_nxw (es_no (et_test (ev_op (ev_call0 (ds := [.str t, .str l]) (es := []) (z := oS (canonL t l)) (ea_cons (ev_var rfl) (ea_cons (ev_var rfl) ea_nil)) ⟨t, l, hl, hx, rfl, rfl, rfl, rfl⟩ rfl (fun _ => rfl)) ev_non ro_notN)) h es_next) (lg_cons (lg_cons lg_nil (.inr rfl)) (.inl rfl))
  · unfold tagL
    rw [h] <;> rfl
  · unfold tagL
    rw [h] <;> rfl
end
end T
namespace T
open PySem PySem.Spec PyProof.Rows L2 DJ LJ LamX
/-! ### what a scalar is resolved to, what fits, what is needed -/
abbrev s_check_schema : Stmt := topS 18
abbrev N_check_schema : List Str := ["schema"]
theorem sc_check_schema : FnScope N_check_schema ["schema"] (defScope s_check_schema) := ⟨rfl, rfl, rfl, by decide +kernel, rfl, by decide +kernel, by decide +kernel⟩
abbrev s_may_have : Stmt := topS 20
abbrev N_may_have : List Str := ["kind", "tag", "schema"]
theorem sc_may_have : FnScope N_may_have ["kind", "tag", "schema"] (defScope s_may_have) := ⟨rfl, rfl, rfl, by decide +kernel, rfl, by decide +kernel, by decide +kernel⟩
abbrev s_is_tag : Stmt := topS 19
abbrev N_is_tag : List Str := ["thing", "name"]
theorem sc_is_tag : FnScope N_is_tag ["thing"] (defScope s_is_tag) := ⟨rfl, rfl, rfl, by decide +kernel, rfl, by decide +kernel, by decide +kernel⟩
abbrev s_tag_fits : Stmt := topS 17
abbrev N_tag_fits : List Str := ["kind", "tag", "content", "schema"]
theorem sc_tag_fits : FnScope N_tag_fits ["kind", "tag", "content", "schema"] (defScope s_tag_fits) := ⟨rfl, rfl, rfl, by decide +kernel, rfl, by decide +kernel, by decide +kernel⟩
abbrev TAGSG : List Nat := [65, 66, 67, 68, 69, 70, 71, 72, 73, 74, 75, 76, 77, 78, 79, 80, 81, 82, 83, 84, 85, 86, 87, 88, 89, 90, 97, 98, 99, 100, 101, 102, 103, 104, 105, 106, 107, 108, 109, 110, 111, 112, 113, 114, 115, 116, 117, 118, 119, 120, 121, 122, 48, 49, 50, 51, 52, 53, 54, 55, 56, 57, 45, 35, 59, 47, 63, 58, 64, 38, 61, 43, 36, 95, 46, 126, 42, 39, 40, 41]
abbrev tScalar : List Nat := [115, 99, 97, 108, 97, 114]
abbrev tSeqK : List Nat := [115, 101, 113, 117, 101, 110, 99, 101]
abbrev tSeq : List Nat := [33, 33, 115, 101, 113]
abbrev tMap : List Nat := [33, 33, 109, 97, 112]
abbrev sCore : List Nat := [99, 111, 114, 101]
abbrev sText : List Nat := [116, 101, 120, 116]
abbrev sPlain : List Nat := [112, 108, 97, 105, 110]
abbrev SCH : List (List Nat) := [sCore, sText]
def mayO (k : List Nat) (t : Option (List Nat)) (s : List Nat) : Bool :=
  if k = tScalar then !decide (t ∈ CT.map some) else if (decide (t = some (if k = tSeqK then tMap else tSeq)) || decide (t = some tStr)) = true then false else decide (s = sText) || !decide (t ∈ WT.map some)
section
variable {P : Program} {w : World} {K : PySem.W.Frag} {mg : Str → Option Value} {base : Heap}
theorem ro_ninOT {p : Option (List Nat)} {xs : List (List Nat)} : RO K (rIn K true) (oS p) (.tup (xs.map Dt.str)) (.bl (!decide (p ∈ xs.map some))) := by
  cases p with
  | some l =>
    have h : decide (some l ∈ xs.map some) = decide (l ∈ xs) := by simp
    rw [h]
    exact ro_ninT
  | none =>
    exact fun F B as M H v u Q ow r1 r2 q => by
      obtain ⟨a, vs, e, h1, h2⟩ := r2
      have e2 := h2.strs
      subst e2; subst e
      have r1 : v = .non := r1
      subst r1
      refine ⟨a, _, rfl, .inr (same_t ow.bb h1), rfl, flat_strs xs, q _ B H (Gr.refl F B) ow ?_⟩
      show V.bl (!inV _ _) = _
      rw [inV_non]
      simp
theorem lg_none {G : List (Option Sl)} {n : Nat} (h : G.length = n) : Lg G (List.replicate n none) := ⟨by rw [List.length_replicate]; exact h, fun i s q => by
  rw [List.getElem?_replicate] at q
  split at q <;> cases q⟩
theorem ev_strTy {G : List (Option Sl)} {M : List MO} : EvE K (tC (.ty "str")) G M (.d tyStr) M := ev_ty
def R_check : List Sl → List MO → Sl → List MO → Prop := fun ss M r M' => ∃ s : List Nat, s ∈ SCH ∧ ss = [.d (.str s)] ∧ M = [] ∧ r = .d .non ∧ M' = []
theorem cal_check {k : Nat} (D : Df K mg "check_schema" s_check_schema ["schema"]) (m_isinstance : mg "isinstance" = none) (m_str : mg "str" = none) : Cal P w K mg base (k + 1) "check_schema" (SpR K 1 R_check) [] := by
  refine cal_mkN D sc_check_schema rfl fun f cdv A outer s H E hr ss M r M' h => ?_
  obtain ⟨s, hs, rfl, rfl, rfl, rfl⟩ := h
  refine ⟨_, [], [some (.d (.str s))], (pss_one (ps_if (pt_not (PW.pt (pw_and (pt_val (pe_callB call_isi (by rfl) m_isinstance (by decide +kernel) (pa_cons (pv 0) (pa_cons (pe_bltn (v := .ty "str") (u := .type "str") (by rfl) m_str (by decide +kernel) rfl) pa_nil)))) (pw_and1 (pt_cmpR (show OpR _ (compareOp .In) (rIn K false) from op_in_seq) (pv 0) (pe_tup (pa_cons pe_str (pa_cons pe_str pa_nil))) (by rfl)))))) pss_never pss_nil)), ?_, Nat.le_refl _, rfl⟩
  exact es_no (b := !(true && decide (s ∈ SCH))) (et_not (et_and (et_B (ev_cb (xs := [.str s, tyStr]) (ea_cons (ev_var rfl) (ea_cons ev_strTy ea_nil)) (rc_isStr (.str s)))) (fun _ => et_test (ev_op (ev_var rfl) (ev_tup (xs := SCH.map Dt.str) (ea_cons (ev_str _) (ea_cons (ev_str _) ea_nil)) (show 2 ≤ 1000 by decide)) ro_inT)) (fun _ => rfl))) (by rw [decide_eq_true hs] <;> rfl) es_next
def R_may : List Sl → List MO → Sl → List MO → Prop := fun ss M r M' => ∃ (k : List Nat) (t : Option (List Nat)) (s : List Nat), ss = [.d (.str k), .d (oS t), .d (.str s)] ∧ M = [] ∧ r = .d (.bl (mayO k t s)) ∧ M' = []
theorem cal_may {j : Nat} (D : Df K mg "may_have" s_may_have ["kind", "tag", "schema"]) (c_COLLECTION_TAGS : Gc K mg "COLLECTION_TAGS" (.tup (CT.map Dt.str))) (c_WORD_TAGS : Gc K mg "WORD_TAGS" (.tup (WT.map Dt.str))) : Cal P w K mg base (j + 1) "may_have" (SpR K 3 R_may) [] := by
  obtain ⟨v_COLLECTION_TAGS, u_COLLECTION_TAGS, hm_COLLECTION_TAGS, hr_COLLECTION_TAGS, hd_COLLECTION_TAGS⟩ := c_COLLECTION_TAGS.ex
  obtain ⟨v_WORD_TAGS, u_WORD_TAGS, hm_WORD_TAGS, hr_WORD_TAGS, hd_WORD_TAGS⟩ := c_WORD_TAGS.ex
  refine cal_mk D sc_may_have rfl fun f cdv A outer s H E hr ss M r M' h => ?_
  obtain ⟨k, t, s, rfl, rfl, rfl, rfl⟩ := h
  refine ⟨_, [], (pss_cons (ps_if (pt_cmpR op_eq (pv 0) pe_str (nomark _)) (pss_one (ps_ret (pe_cmpR op_notIn_seq (pv 1) (pe_glob (by rfl) hm_COLLECTION_TAGS hr_COLLECTION_TAGS) (by rfl)))) pss_nil) (pss_cons (ps_if (PW.pt (pw_or (pt_cmpR op_eq (pv 1) (pe_ifExp (pt_cmpR op_eq (pv 0) pe_str (nomark _)) pe_str pe_str) (nomark _)) (pw_or1 (pt_cmpR op_eq (pv 1) pe_str (nomark _))))) (pss_one (ps_ret pe_bl)) pss_nil) (pss_one (ps_ret (pe_or (pe_cmpR op_eq (pv 2) pe_str (nomark _)) (pe_one (pe_cmpR op_notIn_seq (pv 1) (pe_glob (by rfl) hm_WORD_TAGS hr_WORD_TAGS) (by rfl)))))))), ?_, Nat.le_refl _, fun _ h => nomatch h⟩
  refine es_guard (et_test (ev_op (ev_var rfl) (ev_str tScalar) ro_eqS)) (fun h => es_retD (ev_op (ev_var rfl) (ev_c hd_COLLECTION_TAGS) ro_ninOT) ?_) (fun h => ?_)
  · unfold mayO
    rw [if_pos (of_decide_eq_true h)]
  have h1 := of_decide_eq_false h
  have e1 : (if decide (k = tSeqK) = true then tMap else tSeq) = if k = tSeqK then tMap else tSeq := by
    by_cases z : k = tSeqK
    · rw [if_pos z, if_pos (decide_eq_true z)]
    · rw [if_neg z, if_neg (by rw [decide_eq_false z]; exact Bool.false_ne_true)]
  refine es_guard (et_or (b := decide (t = some (if k = tSeqK then tMap else tSeq))) (c := decide (t = some tStr)) (et_test (ev_op (ev_var rfl) (ev_isD (ev_iteS (et_test (ev_op (ev_var rfl) (ev_str tSeqK) ro_eqS)) (fun _ => ev_str tMap) (fun _ => ev_str tSeq)) (show _ = oS (some (if k = tSeqK then tMap else tSeq)) by rw [e1] <;> rfl)) ro_eqO)) (fun _ => et_test (ev_op (ev_var rfl) (ev_isD (ev_str tStr) (show _ = oS (some tStr) from rfl)) ro_eqO)) (fun _ => rfl)) (fun h => es_retD ev_bl ?_) (fun h => es_retD (ev_orV (ev_op (ev_var rfl) (ev_str sText) ro_eqS) (fun _ => ev_op (ev_var rfl) (ev_c hd_WORD_TAGS) ro_ninOT) (fun _ => rfl)) ?_)
  · unfold mayO
    rw [if_neg h1, if_pos h]
  · have h2 : ¬ (decide (t = some (if k = tSeqK then tMap else tSeq)) || decide (t = some tStr)) = true := by rw [h]; exact Bool.false_ne_true
    unfold mayO
    rw [if_neg h1, if_neg h2]
/-! #### fits -/
def isTagL (l : List Nat) : Bool := pre [33] l && isAllL (if pre [33, 33] l = true then l.drop 2 else l.drop 1) TAGSG
def fitsS (t v s : List Nat) : Bool := isTagL t && (mayO tScalar (some t) s && (decide (s = sText) || decide (canonL t v = some v)))
def R_is_tag : List Sl → List MO → Sl → List MO → Prop := fun ss M r M' => ∃ l : List Nat, l.length ≤ 10000 ∧ ss = [.d (.str l)] ∧ M = [] ∧ r = .d (.bl (isTagL l)) ∧ M' = []
theorem cal_is_tag (D : Df K mg "is_tag" s_is_tag ["thing"]) (c_TAG_SIGNS : Gc K mg "TAG_SIGNS" (.str TAGSG)) (f_is_all : Cal P w K mg base 1 "is_all" (SpR K 2 R_is_all) []) (m_isinstance : mg "isinstance" = none) (m_str : mg "str" = none) : Cal P w K mg base 2 "is_tag" (SpR K 1 R_is_tag) [] := by
  obtain ⟨v_TAG_SIGNS, u_TAG_SIGNS, hm_TAG_SIGNS, hr_TAG_SIGNS, hd_TAG_SIGNS⟩ := c_TAG_SIGNS.ex
  refine cal_mk (k := 1) D sc_is_tag rfl fun f cdv A outer s H E hr ss M r M' h => ?_
  obtain ⟨l, hl, rfl, rfl, rfl, rfl⟩ := h
  refine ⟨_, [], (pss_cons (ps_if (PW.pt (pw_or (pt_not (pt_val (pe_callB call_isi (by rfl) m_isinstance (by decide +kernel) (pa_cons (pv 0) (pa_cons (pe_bltn (v := .ty "str") (u := .type "str") (by rfl) m_str (by decide +kernel) rfl) pa_nil))))) (pw_or1 (pt_not (pt_val (pe_m1 PySem.F.slot_str_startswith PySem.F.type_str_startswith mt_startswith (pv 0) pe_str)))))) (pss_one (ps_ret pe_bl)) pss_nil) (pss_cons (ps_asg (pe_ifExp (pt_val (pe_m1 PySem.F.slot_str_startswith PySem.F.type_str_startswith mt_startswith (pv 0) pe_str)) (pe_slice sl_str (pv 0) (po_some pe_int) po_none) (pe_slice sl_str (pv 0) (po_some pe_int) po_none)) (pg_name (i := 1) sc_is_tag.nd rfl (by first | exact .inl rfl | exact .inr rfl))) (pss_one (ps_ret (pe_c f_is_all hr (by omega) (by rfl) (pa_cons (pv 1) (pa_cons (pe_glob (by rfl) hm_TAG_SIGNS hr_TAG_SIGNS) pa_nil))))))), ?_, Nat.le_refl _, fun _ h => nomatch h⟩
  refine es_guard (et_or (b := !true) (c := !pre [33] l) (et_not (et_B (ev_cb (xs := [.str l, tyStr]) (ea_cons (ev_var rfl) (ea_cons ev_strTy ea_nil)) (rc_isStr (.str l))))) (fun _ => et_not (et_B (ev_m1 (ev_var rfl) (ev_str [33]) rm_starts))) (fun _ => rfl)) (fun h => es_retD ev_bl ?_) (fun h => ?_)
  · have h : (!pre [33] l) = true := h
    show Dt.bl false = Dt.bl (isTagL l)
    unfold isTagL
    rw [Bool.not_eq_true'] at h
    rw [h] <;> rfl
  · have h : (!pre [33] l) = false := h
    rw [Bool.not_eq_false'] at h
    have h2 : (l.drop 2).length ≤ l.length ∧ (l.drop 1).length ≤ l.length := by rw [List.length_drop, List.length_drop]; omega
    refine es_seq (es_asg (ev_iteS (et_B (ev_m1 (ev_var rfl) (ev_str [33, 33]) rm_starts)) (fun _ => ev_is (ev_slS (ev_var rfl) (eo_some ev_int) eo_none (by omega)) (cut_at2 l)) (fun _ => ev_is (ev_slS (ev_var rfl) (eo_some ev_int) eo_none (by omega)) (show _ = Sl.d (Dt.str (l.drop 1)) by rw [show cutL l (some 1) none = l.drop 1 from cutL_from l 1])))) ?_
    refine es_retD (ev_call0 (ds := [.str (if pre [33, 33] l = true then l.drop 2 else l.drop 1), .str TAGSG]) (es := []) (z := .bl (isAllL (if pre [33, 33] l = true then l.drop 2 else l.drop 1) TAGSG)) (ea_cons (ev_var rfl) (ea_cons (ev_c hd_TAG_SIGNS) ea_nil)) ⟨_, _, by split <;> omega, rfl, rfl, rfl, rfl⟩ rfl (fun _ => rfl)) ?_
    show _ = Dt.bl (isTagL l)
    unfold isTagL
    rw [h] <;> rfl
def R_fits : List Sl → List MO → Sl → List MO → Prop := fun ss M r M' => ∃ t v s : List Nat, t.length ≤ 640 ∧ v.length ≤ 10000 ∧ ((isOct v || isHex v) = true → v.length ≤ 2200) ∧ s ∈ SCH ∧ ss = [.d (.str tScalar), .d (.str t), .d (.str v), .d (.str s)] ∧ M = [] ∧ r = .d (.bl (fitsS t v s)) ∧ M' = []
theorem cal_fits (D : Df K mg "tag_fits" s_tag_fits ["kind", "tag", "content", "schema"]) (f_check_schema : Cal P w K mg base 1 "check_schema" (SpR K 1 R_check) []) (f_is_tag : Cal P w K mg base 2 "is_tag" (SpR K 1 R_is_tag) []) (f_may_have : Cal P w K mg base 1 "may_have" (SpR K 3 R_may) []) (f_canonical : Cal P w K mg base 3 "canonical" (SpR K 2 R_canonical) [])
    (m_isinstance : mg "isinstance" = none) (m_str : mg "str" = none) : Cal P w K mg base 4 "tag_fits" (SpR K 4 R_fits) [] := by
  refine cal_mk (k := 3) D sc_tag_fits rfl fun f cdv A outer s' H E hr ss M r M' h => ?_
  obtain ⟨t, v, s, ht, hv, hv2, hs, rfl, rfl, rfl, rfl⟩ := h
  refine ⟨_, [], (pss_cons (ps_expr (pe_c f_check_schema hr (by omega) (by rfl) (pa_cons (pv 3) pa_nil))) (pss_cons (ps_if (PW.pt (pw_or (pt_not (pt_val (pe_c f_is_tag hr (by omega) (by rfl) (pa_cons (pv 1) pa_nil)))) (pw_or1 (pt_not (pt_val (pe_c f_may_have hr (by omega) (by rfl) (pa_cons (pv 0) (pa_cons (pv 1) (pa_cons (pv 3) pa_nil))))))))) (pss_one (ps_ret pe_bl)) pss_nil) (pss_cons (ps_if (pt_cmpR op_ne (pv 0) pe_str (nomark _)) (pss_one (ps_ret pe_bl)) pss_nil) (pss_one (ps_ret (pe_and (pe_callB call_isi (by rfl) m_isinstance (by decide +kernel) (pa_cons (pv 2) (pa_cons (pe_bltn (v := .ty "str") (u := .type "str") (by rfl) m_str (by decide +kernel) rfl) pa_nil))) (pe_one (pe_or (pe_cmpR op_eq (pv 3) pe_str (nomark _)) (pe_one (pe_cmpR op_eq (pe_c f_canonical hr (by omega) (by rfl) (pa_cons (pv 1) (pa_cons (pv 2) pa_nil))) (pv 2) (nomark _))))))))))), ?_, Nat.le_refl _, fun _ h => nomatch h⟩
  refine es_seq (es_drop (ev_call0 (ds := [.str s]) (es := []) (z := .non) (ea_cons (ev_var rfl) ea_nil) ⟨s, hs, rfl, rfl, rfl, rfl⟩ rfl (fun _ => rfl))) ?_
  refine es_guard (et_or (b := !isTagL t) (c := !mayO tScalar (some t) s) (et_not (et_B (ev_call0 (ds := [.str t]) (es := []) (z := .bl (isTagL t)) (ea_cons (ev_var rfl) ea_nil) ⟨t, by omega, rfl, rfl, rfl, rfl⟩ rfl (fun _ => rfl)))) (fun _ => et_not (et_B (ev_call0 (ds := [.str tScalar, oS (some t), .str s]) (es := []) (z := .bl (mayO tScalar (some t) s)) (ea_cons (ev_var rfl) (ea_cons (ev_var rfl) (ea_cons (ev_var rfl) ea_nil))) ⟨tScalar, some t, s, rfl, rfl, rfl, rfl⟩ rfl (fun _ => rfl)))) (fun _ => rfl)) (fun h => es_retD ev_bl ?_) (fun h => ?_)
  · unfold fitsS
    cases h1 : isTagL t <;> cases h2 : mayO tScalar (some t) s <;> rw [h1, h2] at h <;> first | rfl | cases h
  have e : isTagL t = true ∧ mayO tScalar (some t) s = true := by
    cases h1 : isTagL t <;> cases h2 : mayO tScalar (some t) s <;> rw [h1, h2] at h <;> first | exact ⟨rfl, rfl⟩ | cases h
  refine es_pass (et_is (et_test (ev_op (ev_var rfl) (ev_str tScalar) ro_neS)) rfl) ?_
  refine es_retD (ev_andV (a := true) (c := decide (s = sText) || decide (canonL t v = some v)) (ev_cb (xs := [.str v, tyStr]) (ea_cons (ev_var rfl) (ea_cons ev_strTy ea_nil)) (rc_isStr (.str v))) (fun _ => ev_orV (ev_op (ev_var rfl) (ev_str sText) ro_eqS) (fun _ => ev_op (ev_call0 (ds := [.str t, .str v]) (es := []) (z := oS (canonL t v)) (ea_cons (ev_var rfl) (ea_cons (ev_var rfl) ea_nil)) ⟨t, v, by omega, hv2, rfl, rfl, rfl, rfl⟩ rfl (fun _ => rfl)) (ev_isD (ev_var rfl) (show _ = oS (some v) from rfl)) ro_eqO) (fun _ => rfl)) (fun z => nomatch z)) ?_
  unfold fitsS
  rw [e.1, e.2] <;> rfl
end
end T
namespace T
open PySem PySem.Spec PyProof.Rows L2 DJ LJ LamX
/-! ### figures and powers -/
abbrev s_figures_and_power : Stmt := topS 29
abbrev N_figures_and_power : List Str := ["content", "figures", "mark", "power", "short"]
theorem sc_figures_and_power : FnScope N_figures_and_power ["content"] (defScope s_figures_and_power) := ⟨rfl, rfl, rfl, by decide +kernel, rfl, by decide +kernel, by decide +kernel⟩
abbrev s_signed_number : Stmt := topS 30
abbrev N_signed_number : List Str := ["text"]
theorem sc_signed_number : FnScope N_signed_number ["text"] (defScope s_signed_number) := ⟨rfl, rfl, rfl, by decide +kernel, rfl, by decide +kernel, by decide +kernel⟩
/-- figures, perhaps with a minus ahead -/
def SgT (l : List Nat) : Prop := l.length ≤ 100000 ∧ NumText.AllDigits (if pre [45] l = true then l.drop 1 else l)
def sgI (l : List Nat) : Int := if pre [45] l = true then -((NumText.digitsVal (l.drop 1) : Nat) : Int) else ((NumText.digitsVal l : Nat) : Int)
def figPow (l : List Nat) : List Nat × List Nat :=
  if (partL [101] l).2.1 = [] then
    (if rstripL [48] (partL [101] l).1 = [] then ([48], [48]) else (rstripL [48] (partL [101] l).1, TL.numL ((partL [101] l).1.length - (rstripL [48] (partL [101] l).1).length)))
  else ((partL [101] l).1, (partL [101] l).2.2)
section
variable {P : Program} {w : World} {K : PySem.W.Frag} {mg : Str → Option Value} {base : Heap}
def R_figpow : List Sl → List MO → Sl → List MO → Prop := fun ss M r M' => ∃ l : List Nat, l.length ≤ 10000 ∧ ss = [.d (.str l)] ∧ M = [] ∧ r = .d (.tup [.str (figPow l).1, .str (figPow l).2]) ∧ M' = []
theorem cal_figpow (D : Df K mg "figures_and_power" s_figures_and_power ["content"]) (f_figures_of : Cal P w K mg base 1 "figures_of" (SpR K 1 R_figures_of) []) (m_len : mg "len" = none) : Cal P w K mg base 2 "figures_and_power" (SpR K 1 R_figpow) [] := by
  refine cal_mk (k := 1) D sc_figures_and_power rfl fun f cdv A outer s H E hr ss M r M' h => ?_
  obtain ⟨l, hl, rfl, rfl, rfl, rfl⟩ := h
  refine ⟨_, [], (pss_cons (ps_asg (pe_m1 PySem.F.slot_str_partition PySem.F.type_str_partition mt_partition (pv 0) pe_str) (pg_tup rfl (pgs_cons (pg_name (i := 1) sc_figures_and_power.nd rfl (by first | exact .inl rfl | exact .inr rfl)) (pgs_cons (pg_name (i := 2) sc_figures_and_power.nd rfl (by first | exact .inl rfl | exact .inr rfl)) (pgs_cons (pg_name (i := 3) sc_figures_and_power.nd rfl (by first | exact .inl rfl | exact .inr rfl)) pgs_nil))))) (pss_cons (ps_if (pt_cmpR op_eq (pv 2) pe_str (nomark _)) (pss_cons (ps_asg (pe_m1 PySem.F.slot_str_rstrip PySem.F.type_str_rstrip mt_rstripChars (pv 1) pe_str) (pg_name (i := 4) sc_figures_and_power.nd rfl (by first | exact .inl rfl | exact .inr rfl))) (pss_cons (ps_asg (pe_c f_figures_of hr (by omega) (by rfl) (pa_cons (pe_op op_sub (pe_callB call_len_str (by rfl) m_len PySem.boot_len (pa_cons (pv 1) pa_nil)) (pe_callB call_len_str (by rfl) m_len PySem.boot_len (pa_cons (pv 4) pa_nil))) pa_nil)) (pg_name (i := 3) sc_figures_and_power.nd rfl (by first | exact .inl rfl | exact .inr rfl))) (pss_one (ps_ret (pe_ifExp (pt_cmpR op_eq (pv 4) pe_str (nomark _)) (pe_tup (pa_cons pe_str (pa_cons pe_str pa_nil))) (pe_tup (pa_cons (pv 4) (pa_cons (pv 3) pa_nil)))))))) pss_nil) (pss_one (ps_ret (pe_tup (pa_cons (pv 1) (pa_cons (pv 3) pa_nil))))))), ?_, Nat.le_refl _, fun _ h => nomatch h⟩
  refine es_seq (es_asgG (ev_isD (ev_m1 (ev_var rfl) (ev_str [101]) (rm_part (by omega) (by simp))) rfl) (eg_tup (egs_cons eg_name (egs_cons eg_name (egs_cons eg_name egs_nil))) rfl)) ?_
  refine es_nG (G' := [_, _, _, _, _]) rfl ?_
  have hp : (partL [101] l).1.length ≤ l.length := by have := part_len [101] l; omega
  refine es_guard (et_test (ev_op (ev_var rfl) (ev_str []) ro_eqS)) (fun h => ?_) (fun h => ?_)
  · have h := of_decide_eq_true h
    have hs := rstrip_len [48] (partL [101] l).1
    refine es_seq (es_asg (ev_m1 (ev_var rfl) (ev_str [48]) (rm_rstrip (by omega)))) ?_
    refine es_nG (G' := [_, _, _, _, _]) rfl ?_
    refine es_seq (es_asg (ev_call0 (ds := [.int (((partL [101] l).1.length - (rstripL [48] (partL [101] l).1).length : Nat) : Int)]) (es := []) (z := .str (TL.numL ((partL [101] l).1.length - (rstripL [48] (partL [101] l).1).length))) (ea_cons (ev_isD (ev_op (ev_cb (xs := [.str _]) (ea_cons (ev_var rfl) ea_nil) (rc_lenS (by omega))) (ev_cb (xs := [.str _]) (ea_cons (ev_var rfl) ea_nil) (rc_lenS (by omega))) ro_sub) (by congr 1; omega)) ea_nil) ⟨_, by have := numL_len_le ((partL [101] l).1.length - (rstripL [48] (partL [101] l).1).length) 5 (by decide) (by omega); omega, rfl, rfl, rfl, rfl⟩ rfl (fun _ => rfl))) ?_
    refine es_nG (G' := [_, _, _, _, _]) rfl ?_
    refine es_ret (ev_isD (ev_if (s := .d (.tup [.str (figPow l).1, .str (figPow l).2])) (et_test (ev_op (ev_var rfl) (ev_str []) ro_eqS)) (fun z => ev_isD (ev_tup (xs := [.str [48], .str [48]]) (ea_cons (ev_str _) (ea_cons (ev_str _) ea_nil)) (show 2 ≤ 1000 by decide)) ?_) (fun z => ev_isD (ev_tup (xs := [_, _]) (ea_cons (ev_var rfl) (ea_cons (ev_var rfl) ea_nil)) (show 2 ≤ 1000 by decide)) ?_)) rfl)
    · unfold figPow; rw [if_pos h, if_pos (of_decide_eq_true z)]
    · unfold figPow; rw [if_pos h, if_neg (of_decide_eq_false z)]
  · have h := of_decide_eq_false h
    refine es_ret (ev_isD (ev_tup (xs := [_, _]) (ea_cons (ev_var rfl) (ea_cons (ev_var rfl) ea_nil)) (show 2 ≤ 1000 by decide)) ?_)
    unfold figPow; rw [if_neg h]
def R_signed : List Sl → List MO → Sl → List MO → Prop := fun ss M r M' => ∃ l : List Nat, SgT l ∧ ss = [.d (.str l)] ∧ M = [] ∧ r = .d (.int (sgI l)) ∧ M' = []
theorem cal_signed (D : Df K mg "signed_number" s_signed_number ["text"]) (f_number_of : Cal P w K mg base 1 "number_of" (SpR K 1 R_number_of) []) : Cal P w K mg base 2 "signed_number" (SpR K 1 R_signed) [] := by
  refine cal_mk (k := 1) D sc_signed_number rfl fun f cdv A outer s H E hr ss M r M' h => ?_
  obtain ⟨l, ⟨hl, hd⟩, rfl, rfl, rfl, rfl⟩ := h
  refine ⟨_, [], (pss_one (ps_ret (pe_ifExp (pt_val (pe_m1 PySem.F.slot_str_startswith PySem.F.type_str_startswith mt_startswith (pv 0) pe_str)) (pe_un un_neg (pe_c f_number_of hr (by omega) (by rfl) (pa_cons (pe_slice sl_str (pv 0) (po_some pe_int) po_none) pa_nil))) (pe_c f_number_of hr (by omega) (by rfl) (pa_cons (pv 0) pa_nil))))), ?_, Nat.le_refl _, fun _ h => nomatch h⟩
  refine es_ret (ev_if (s := .d (.int (sgI l))) (et_B (ev_m1 (ev_var rfl) (ev_str [45]) rm_starts)) (fun h => ev_isD (ev_un (ev_call0 (ds := [.str (l.drop 1)]) (es := []) (z := .int ((NumText.digitsVal (l.drop 1) : Nat) : Int)) (ea_cons (ev_is (ev_slS (ev_var rfl) (eo_some ev_int) eo_none (by omega)) (show _ = Sl.d (Dt.str (l.drop 1)) by rw [show cutL l (some 1) none = l.drop 1 from cutL_from l 1])) ea_nil) ⟨l.drop 1, by rw [List.length_drop]; omega, by rw [if_pos h] at hd; exact hd, rfl, rfl, rfl, rfl⟩ rfl (fun _ => rfl)) ru_neg) ?_) (fun h => ev_isD (ev_call0 (ds := [.str l]) (es := []) (z := .int ((NumText.digitsVal l : Nat) : Int)) (ea_cons (ev_var rfl) ea_nil) ⟨l, hl, by rw [if_neg (by rw [h]; exact Bool.false_ne_true)] at hd; exact hd, rfl, rfl, rfl, rfl⟩ rfl (fun _ => rfl)) ?_))
  · unfold sgI; rw [if_pos h]
  · unfold sgI; rw [if_neg (by rw [h]; exact Bool.false_ne_true)]
end
end T
namespace T
open PySem PySem.Spec PyProof.Rows L2 DJ LJ LamX
/-! ### the program: the least words of numbers -/
abbrev s_signed_figures : Stmt := topS 31
abbrev N_signed_figures : List Str := ["number"]
theorem sc_signed_figures : FnScope N_signed_figures ["number"] (defScope s_signed_figures) := ⟨rfl, rfl, rfl, by decide +kernel, rfl, by decide +kernel, by decide +kernel⟩
abbrev s_words_without_power : Stmt := topS 36
abbrev N_words_without_power : List Str := ["figures", "power", "body"]
theorem sc_words_without_power : FnScope N_words_without_power ["figures", "power"] (defScope s_words_without_power) := ⟨rfl, rfl, rfl, by decide +kernel, rfl, by decide +kernel, by decide +kernel⟩
abbrev s_words_with_power : Stmt := topS 37
abbrev N_words_with_power : List Str := ["figures", "power", "words", "ahead", "behind", "body"]
theorem sc_words_with_power : FnScope N_words_with_power ["figures", "power"] (defScope s_words_with_power) := ⟨rfl, rfl, rfl, by decide +kernel, rfl, by decide +kernel, by decide +kernel⟩
abbrev s_float_words : Stmt := topS 35
abbrev N_float_words : List Str := ["content", "minus", "words", "figures", "power", "word"]
theorem sc_float_words : FnScope N_float_words ["content"] (defScope s_float_words) := ⟨rfl, rfl, rfl, by decide +kernel, rfl, by decide +kernel, by decide +kernel⟩
abbrev s_whole_words : Stmt := topS 34
abbrev N_whole_words : List Str := ["content"]
theorem sc_whole_words : FnScope N_whole_words ["content"] (defScope s_whole_words) := ⟨rfl, rfl, rfl, by decide +kernel, rfl, by decide +kernel, by decide +kernel⟩
abbrev s_least_of : Stmt := topS 33
abbrev N_least_of : List Str := ["words", "word"]
theorem sc_least_of : FnScope N_least_of ["words"] (defScope s_least_of) := ⟨rfl, rfl, rfl, by decide +kernel, rfl, by decide +kernel, by decide +kernel⟩
abbrev s_least_word : Stmt := topS 32
abbrev N_least_word : List Str := ["tag", "content"]
theorem sc_least_word : FnScope N_least_word ["tag", "content"] (defScope s_least_word) := ⟨rfl, rfl, rfl, by decide +kernel, rfl, by decide +kernel, by decide +kernel⟩
def sfig (n : Int) : List Nat := (if decide (n < 0) = true then [45] else []) ++ TL.numL n.natAbs
def wwo (F : List Nat) (p : Int) : List (List Nat) :=
  if (decide (9 < p) || decide (p < -9 - (F.length : Nat))) = true then []
  else if decide (0 ≤ p) = true then [(F ++ List.replicate p.toNat 48) ++ [46]]
  else [((zfillL (-p).toNat F).take ((zfillL (-p).toNat F).length - (-p).toNat) ++ [46]) ++ (zfillL (-p).toNat F).drop ((zfillL (-p).toNat F).length - (-p).toNat)]
abbrev B01 : List (List Nat) := [[], [48]]
def bdE (F a b : List Nat) : List Nat := (a ++ F) ++ b
def wwpB (F : List Nat) (p : Int) (a b : List Nat) : List (List Nat) := [(bdE F a b ++ [69]) ++ sfig (p - (b.length : Nat)), (([46] ++ bdE F a b) ++ [69]) ++ sfig (p - (b.length : Nat) + ((bdE F a b).length : Nat))]
def wwpI (F : List Nat) (p : Int) (a : List Nat) (bs : List (List Nat)) : List (List Nat) := bs.flatMap (wwpB F p a)
def wwpA (F : List Nat) (p : Int) (as : List (List Nat)) : List (List Nat) := as.flatMap fun a => wwpI F p a B01
def fwL (c : List Nat) : List (List Nat) := if (figPow (c.drop (minusL c).length)).1 = [48] then [[46, 48]] else (wwo (figPow (c.drop (minusL c).length)).1 (sgI (figPow (c.drop (minusL c).length)).2) ++ wwpA (figPow (c.drop (minusL c).length)).1 (sgI (figPow (c.drop (minusL c).length)).2) B01).map fun w => minusL c ++ w
def wwL (c : List Nat) : List (List Nat) := if pre [45] c = true then [c] else [c, [48, 120] ++ Hx16.hexA ((NumText.digitsVal c : Nat) : Int)]
def lofL : List (List Nat) → List Nat
  | [] => []
  | w :: ws => (bestP ((w.length : Nat), w) (ws.map fun x => (((x.length : Nat) : Int), x))).2
abbrev FIXK : Kvs := [([110, 117, 108, 108], []), ([116, 114, 117, 101], [84, 82, 85, 69]), ([102, 97, 108, 115, 101], [70, 65, 76, 83, 69]), ([46, 110, 97, 110], [46, 78, 65, 78]), ([46, 105, 110, 102], [46, 73, 78, 70]), ([45, 46, 105, 110, 102], [45, 46, 73, 78, 70])]
def lwL (t c : List Nat) : Option (List Nat) :=
  if t = tStr then (if tagL c = tStr then some c else none)
  else if (decide (t ∈ [tNull, tBool]) || (decide (t = tFloat) && (getK FIXK c).isSome)) = true then getK FIXK c
  else if t = tInt then some (lofL (wwL c)) else if t = tFloat then some (lofL (fwL c)) else none
theorem take_flat {α β : Type} (f : α → List β) {xs : List α} {i : Nat} {x : α} (h : xs[i]? = some x) : (xs.take (i + 1)).flatMap f = (xs.take i).flatMap f ++ f x := by
  have hi := (List.getElem?_eq_some_iff.mp h)
  obtain ⟨h1, h2⟩ := hi
  rw [← List.take_append_getElem h1, List.flatMap_append, h2]
  simp
/-- a power whose figures are few -/
def PwOk (p : Int) : Prop := p.natAbs < 10 ^ 90
theorem sfig_len {n : Int} (h : n.natAbs < 10 ^ 91) : (sfig n).length ≤ 92 := by
  have := numL_len_le n.natAbs 91 (by decide) h
  unfold sfig
  rw [List.length_append]
  split
  · rw [List.length_singleton]; omega
  · rw [List.length_nil]; omega
theorem pw_add {p : Int} {k : Int} (h : PwOk p) (hk : k.natAbs ≤ 100000) : (p + k).natAbs < 10 ^ 91 := by
  unfold PwOk at h
  have : (10 : Nat) ^ 90 + 100000 ≤ 10 ^ 91 := by decide
  omega
structure FgOk (F : List Nat) : Prop where
  ne : F ≠ []
  dg : NumText.AllDigits F
  len : F.length ≤ 9000
section
variable {P : Program} {w : World} {K : PySem.W.Frag} {mg : Str → Option Value} {base : Heap}
def R_sfig : List Sl → List MO → Sl → List MO → Prop := fun ss M r M' => ∃ n : Int, n.natAbs < 10 ^ 91 ∧ ss = [.d (.int n)] ∧ M = [] ∧ r = .d (.str (sfig n)) ∧ M' = []
theorem cal_sfig (D : Df K mg "signed_figures" s_signed_figures ["number"]) (f_figures_of : Cal P w K mg base 1 "figures_of" (SpR K 1 R_figures_of) []) (m_abs : mg "abs" = none) : Cal P w K mg base 2 "signed_figures" (SpR K 1 R_sfig) [] := by
  refine cal_mk (k := 1) D sc_signed_figures rfl fun f cdv A outer s H E hr ss M r M' h => ?_
  obtain ⟨n, hn, rfl, rfl, rfl, rfl⟩ := h
  refine ⟨_, [], (pss_one (ps_ret (pe_op op_add_str (pe_ifExp (pt_cmpR op_lt (pv 0) pe_int (nomark _)) pe_str pe_str) (pe_c f_figures_of hr (by omega) (by rfl) (pa_cons (pe_callB call_abs (by rfl) m_abs (by decide +kernel) (pa_cons (pv 0) pa_nil)) pa_nil))))), ?_, Nat.le_refl _, fun _ h => nomatch h⟩
  have hl := numL_len_le n.natAbs 91 (by decide) hn
  exact es_ret (ev_isD (ev_op (ev_iteS (et_test (ev_op (ev_var rfl) ev_int ro_lt)) (fun _ => ev_str [45]) (fun _ => ev_str [])) (ev_call0 (ds := [.int ((n.natAbs : Nat) : Int)]) (es := []) (z := .str (TL.numL n.natAbs)) (ea_cons (ev_isD (ev_cb (xs := [.int n]) (ea_cons (ev_var rfl) ea_nil) rc_abs) (show Dt.int (if n < 0 then -n else n) = Dt.int ((n.natAbs : Nat) : Int) by congr 1; split <;> omega)) ea_nil) ⟨n.natAbs, by omega, rfl, rfl, rfl, rfl⟩ rfl (fun _ => rfl)) (ro_addS (by split <;> (first | (rw [List.length_singleton]; omega) | (rw [List.length_nil]; omega))))) rfl)
def R_wwo : PySem.W.Frag → List Sl → List MO → Sl → List MO → Prop := fun K ss M r M' => ∃ (F : List Nat) (p : Int), FgOk F ∧ ss = [.d (.str F), .d (.int p)] ∧ M = [] ∧ r = .d (lstX K ((wwo F p).map .str)) ∧ M' = []
theorem cal_wwo (D : Df K mg "words_without_power" s_words_without_power ["figures", "power"]) (m_len : mg "len" = none) : Cal P w K mg base 1 "words_without_power" (SpR K 2 (R_wwo K)) [] := by
  refine cal_mk (k := 0) D sc_words_without_power rfl fun f cdv A outer s H E hr ss M r M' h => ?_
  obtain ⟨F, p, hF, rfl, rfl, rfl, rfl⟩ := h
  refine ⟨_, [], (pss_cons (ps_if (PW.pt (pw_or (pt_cmpR op_gt (pv 1) pe_int (nomark _)) (pw_or1 (pt_cmpR op_lt (pv 1) (pe_op op_sub (pe_un un_neg pe_int) (pe_callB call_len_str (by rfl) m_len PySem.boot_len (pa_cons (pv 0) pa_nil))) (nomark _))))) (pss_one (ps_ret (pe_lst pa_nil))) pss_nil) (pss_cons (ps_if (pt_cmpR op_ge (pv 1) pe_int (nomark _)) (pss_one (ps_ret (pe_lst (pa_cons (pe_op op_add_str (pe_op op_add_str (pv 0) (pe_op op_repN pe_str (pv 1))) pe_str) pa_nil)))) pss_nil) (pss_cons (ps_asg (pe_m1 PySem.F.slot_str_zfill PySem.F.type_str_zfill mt_zfill (pv 0) (pe_un un_neg (pv 1))) (pg_name (i := 2) sc_words_without_power.nd rfl (by first | exact .inl rfl | exact .inr rfl))) (pss_one (ps_ret (pe_lst (pa_cons (pe_op op_add_str (pe_op op_add_str (pe_slice sl_str (pv 2) po_none (po_some (pe_op op_add (pe_callB call_len_str (by rfl) m_len PySem.boot_len (pa_cons (pv 2) pa_nil)) (pv 1)))) pe_str) (pe_slice sl_str (pv 2) (po_some (pe_op op_add (pe_callB call_len_str (by rfl) m_len PySem.boot_len (pa_cons (pv 2) pa_nil)) (pv 1))) po_none)) pa_nil))))))), ?_, Nat.le_refl _, fun _ h => nomatch h⟩
  have hl := hF.len
  have t1 : EvT K _ [some (.d (.str F)), some (.d (.int p)), none] [] (decide (9 < p) || decide (p < -9 - (F.length : Nat))) [] := et_or (et_test (ev_op (ev_var (i := 1) rfl) ev_int ro_gt)) (fun _ => et_test (ev_op (ev_var (i := 1) rfl) (ev_op (ev_un ev_int ru_neg) (ev_cb (xs := [.str F]) (ea_cons (ev_var (i := 0) rfl) ea_nil) (rc_lenS (by omega))) ro_sub) ro_lt)) (fun _ => rfl)
  unfold wwo
  by_cases c1 : (decide (9 < p) || decide (p < -9 - (F.length : Nat))) = true
  · rw [if_pos c1]
    exact es_seqR (es_yes t1 c1 (es_ret (ev_lstX (xs := []) ea_nil (Nat.zero_le _))))
  · rw [if_neg c1]
    have hc : ¬ 9 < p ∧ ¬ p < -9 - (F.length : Nat) := by
      simpa using c1
    refine es_pass (et_is t1 (Bool.eq_false_iff.mpr c1)) ?_
    have t2 : EvT K _ [some (.d (.str F)), some (.d (.int p)), none] [] (decide (0 ≤ p)) [] := et_test (ev_op (ev_var (i := 1) rfl) ev_int ro_ge)
    by_cases c2 : 0 ≤ p
    · rw [if_pos (decide_eq_true c2)]
      have e : (List.replicate p.toNat [48]).flatten = List.replicate p.toNat 48 := by
        generalize p.toNat = m
        induction m with
        | zero => rfl
        | succ m ih => rw [List.replicate_succ, List.flatten_cons, ih] <;> rfl
      exact es_seqR (es_yes t2 (decide_eq_true c2) (es_ret (ev_lstX (xs := [.str ((F ++ List.replicate p.toNat 48) ++ [46])]) (ea_cons (ev_op (ev_op (ev_var rfl) (ev_isD (ev_op (ev_str [48]) (ev_var rfl) (ro_repN (l := [48]) (by omega) (by omega) (by show 1 * p.toNat ≤ _; omega))) (by rw [e])) (ro_addS (by rw [List.length_replicate]; omega))) (ev_str [46]) (ro_addS (by rw [List.length_append, List.length_replicate]; show _ + 1 ≤ _; omega))) ea_nil) (show 1 ≤ 1000 by decide))))
    · rw [if_neg (by rw [decide_eq_false c2]; exact Bool.false_ne_true)]
      refine es_pass (et_is t2 (decide_eq_false c2)) ?_
      have h0 : F[0]? ≠ some 43 ∧ F[0]? ≠ some 45 := by
        cases hf : F with
        | nil => exact absurd hf hF.ne
        | cons c r =>
          have := hF.dg c (by rw [hf]; exact List.mem_cons_self)
          refine ⟨?_, ?_⟩ <;> (intro z; have z : c = _ := Option.some.inj z; omega)
      refine es_seq (es_asg (s := .d (.str (zfillL (-p).toNat F))) (M1 := []) (ev_m1 (ev_var rfl) (ev_isD (ev_un (ev_var rfl) ru_neg) (show Dt.int (-p) = Dt.int (((-p).toNat : Nat) : Int) by congr 1; omega)) (rm_zfill (by omega) h0.1 h0.2))) ?_
      refine es_nG (G' := [_, _, _]) rfl ?_
      have hz : (zfillL (-p).toNat F).length ≤ 10000 ∧ (-p).toNat ≤ (zfillL (-p).toNat F).length := by
        unfold zfillL
        rw [List.length_append, List.length_replicate]
        omega
      generalize zfillL (-p).toNat F = b at *
      have e1 : ((b.length : Nat) : Int) + p = ((b.length - (-p).toNat : Nat) : Int) := by omega
      exact es_ret (ev_lstX (xs := [.str ((b.take (b.length - (-p).toNat) ++ [46]) ++ b.drop (b.length - (-p).toNat))]) (ea_cons (ev_op (ev_op (ev_isD (ev_slS (ev_var rfl) eo_none (eo_some (ev_op (ev_cb (xs := [.str b]) (ea_cons (ev_var rfl) ea_nil) (rc_lenS (by omega))) (ev_var rfl) ro_add)) (by omega)) (show _ = Dt.str (b.take (b.length - (-p).toNat)) by rw [e1, cutL_to])) (ev_str [46]) (ro_addS (by rw [List.length_take]; show _ + 1 ≤ _; omega))) (ev_isD (ev_slS (ev_var rfl) (eo_some (ev_op (ev_cb (xs := [.str b]) (ea_cons (ev_var rfl) ea_nil) (rc_lenS (by omega))) (ev_var rfl) ro_add)) eo_none (by omega)) (show _ = Dt.str (b.drop (b.length - (-p).toNat)) by rw [e1, cutL_from])) (ro_addS (by rw [List.length_append, List.length_take, List.length_drop]; show _ + 1 + _ ≤ _; omega))) ea_nil) (show 1 ≤ 1000 by decide))
end
end T
namespace T
open PySem PySem.Spec PyProof.Rows L2 DJ LJ LamX
/-! ### the program: words with powers, the least one -/
structure FlOk (c : List Nat) : Prop where
  len : c.length ≤ 9000
  fg : (figPow (c.drop (minusL c).length)).1 = [48] ∨ FgOk (figPow (c.drop (minusL c).length)).1
  sg : SgT (figPow (c.drop (minusL c).length)).2
  pw : PwOk (sgI (figPow (c.drop (minusL c).length)).2)
theorem b01_len : ∀ a ∈ B01, a.length ≤ 1 := by decide
theorem bd_len {F a b : List Nat} (ha : a ∈ B01) (hb : b ∈ B01) : (bdE F a b).length ≤ F.length + 2 := by
  have h1 := b01_len a ha
  have h2 := b01_len b hb
  unfold bdE
  rw [List.length_append, List.length_append]
  omega
theorem wwpI_len (F : List Nat) (p : Int) (a : List Nat) : ∀ bs : List (List Nat), (wwpI F p a bs).length = 2 * bs.length
  | [] => rfl
  | b :: bs => by
    have := wwpI_len F p a bs
    show (wwpB F p a b ++ wwpI F p a bs).length = _
    rw [List.length_append, this, List.length_cons]
    show 2 + _ = _
    omega
theorem wwpA_len (F : List Nat) (p : Int) : ∀ as : List (List Nat), (wwpA F p as).length = 4 * as.length
  | [] => rfl
  | a :: as => by
    have := wwpA_len F p as
    have e : (wwpI F p a B01).length = 4 := wwpI_len F p a B01
    show (wwpI F p a B01 ++ wwpA F p as).length = _
    rw [List.length_append, this, e, List.length_cons]
    omega
theorem minus_len (c : List Nat) : (minusL c).length ≤ 1 := by unfold minusL; split <;> decide
theorem wwo_ok {F : List Nat} {p : Int} (hF : FgOk F) : (wwo F p).length ≤ 1 ∧ ∀ w ∈ wwo F p, w.length ≤ 9100 ∧ ∀ c ∈ w, c < 128 := by
  have hl := hF.len
  have hd : ∀ c ∈ F, c < 128 := fun c hc => by have := hF.dg c hc; omega
  unfold wwo
  split
  · exact ⟨Nat.zero_le _, fun w h => nomatch h⟩
  · rename_i c1
    have hc : ¬ 9 < p ∧ ¬ p < -9 - (F.length : Nat) := by simpa using c1
    split
    · refine ⟨Nat.le_refl _, fun w h => ?_⟩
      rw [List.mem_singleton.mp h]
      refine ⟨by rw [List.length_append, List.length_append, List.length_replicate]; show _ + 1 ≤ _; omega, fun c h => ?_⟩
      rcases List.mem_append.mp h with h | h
      · rcases List.mem_append.mp h with h | h
        · exact hd c h
        · rw [List.eq_of_mem_replicate h]; decide
      · rw [List.mem_singleton.mp h]; decide
    · have hz : (zfillL (-p).toNat F).length ≤ 9010 ∧ ∀ c ∈ zfillL (-p).toNat F, c < 128 := by
        unfold zfillL
        refine ⟨by rw [List.length_append, List.length_replicate]; omega, fun c h => ?_⟩
        rcases List.mem_append.mp h with h | h
        · rw [List.eq_of_mem_replicate h]; decide
        · exact hd c h
      refine ⟨Nat.le_refl _, fun w h => ?_⟩
      rw [List.mem_singleton.mp h]
      generalize zfillL (-p).toNat F = b at *
      refine ⟨by rw [List.length_append, List.length_append, List.length_take, List.length_drop]; show _ + 1 + _ ≤ _; omega, fun c h => ?_⟩
      rcases List.mem_append.mp h with h | h
      · rcases List.mem_append.mp h with h | h
        · exact hz.2 c (List.mem_of_mem_take h)
        · rw [List.mem_singleton.mp h]; decide
      · exact hz.2 c (List.mem_of_mem_drop h)
theorem num_asc (n : Nat) : ∀ c ∈ TL.numL n, c < 128 := fun c hc => by
  have := TL.numL_digits n c hc
  omega
theorem sfig_asc (n : Int) : ∀ c ∈ sfig n, c < 128 := fun c hc => by
  unfold sfig at hc
  rcases List.mem_append.mp hc with h | h
  · split at h
    · rw [List.mem_singleton.mp h]; decide
    · cases h
  · exact num_asc _ c h
theorem wwp_ok {F : List Nat} {p : Int} (hF : FgOk F) (hp : PwOk p) : ∀ w ∈ wwpA F p B01, w.length ≤ 9200 ∧ ∀ c ∈ w, c < 128 := fun w hw => by
  obtain ⟨a, ha, hw⟩ := List.mem_flatMap.mp hw
  obtain ⟨b, hb, hw⟩ := List.mem_flatMap.mp hw
  have hl := hF.len
  have hd : ∀ c ∈ F, c < 128 := fun c hc => by have := hF.dg c hc; omega
  have h1 := b01_len a ha
  have h2 := b01_len b hb
  have h3 := bd_len (F := F) ha hb
  have e1 : (p - (b.length : Nat) : Int) = p + -(b.length : Nat) := rfl
  have l1 := sfig_len (pw_add hp (k := -(b.length : Nat)) (by omega))
  have l2 := sfig_len (pw_add hp (k := -(b.length : Nat) + ((bdE F a b).length : Nat)) (by omega))
  have ab : ∀ c ∈ bdE F a b, c < 128 := fun c hc => by
    have m01 : ∀ x ∈ B01, ∀ c ∈ x, c < 128 := by decide
    unfold bdE at hc
    rcases List.mem_append.mp hc with h | h
    · rcases List.mem_append.mp h with h | h
      · exact m01 a ha c h
      · exact hd c h
    · exact m01 b hb c h
  have e2 : (p - (b.length : Nat) + ((bdE F a b).length : Nat) : Int) = p + (-(b.length : Nat) + ((bdE F a b).length : Nat)) := by omega
  unfold wwpB at hw
  rw [e2, e1] at hw
  generalize bdE F a b = d at *
  rcases List.mem_cons.mp hw with h | h
  · rw [h]
    refine ⟨by rw [List.length_append, List.length_append]; show _ + 1 + _ ≤ _; omega, fun c hc => ?_⟩
    rcases List.mem_append.mp hc with h | h
    · rcases List.mem_append.mp h with h | h
      · exact ab c h
      · rw [List.mem_singleton.mp h]; decide
    · exact sfig_asc _ c h
  · rw [List.mem_singleton.mp h]
    refine ⟨by rw [List.length_append, List.length_append, List.length_append]; show 1 + _ + 1 + _ ≤ _; omega, fun c hc => ?_⟩
    rcases List.mem_append.mp hc with h | h
    · rcases List.mem_append.mp h with h | h
      · rcases List.mem_append.mp h with h | h
        · rw [List.mem_singleton.mp h]; decide
        · exact ab c h
      · rw [List.mem_singleton.mp h]; decide
    · exact sfig_asc _ c h
theorem hex_len {c : List Nat} (h : NumText.AllDigits c) (hl : c.length ≤ 9000) : (Hx16.hexA ((NumText.digitsVal c : Nat) : Int)).length ≤ 9001 := by
  unfold Hx16.hexA
  rw [List.length_map]
  refine (Nat.length_toDigits_le_iff (by decide) (by decide)).mpr ?_
  show NumText.digitsVal c < 16 ^ 9001
  have h1 : NumText.digitsVal c < 10 ^ c.length := val_lt c h
  have h2 : 10 ^ c.length ≤ 16 ^ c.length := Nat.pow_le_pow_left (by decide) _
  have h3 : 16 ^ c.length ≤ 16 ^ 9001 := Nat.pow_le_pow_right (by decide) (by omega)
  omega
theorem upper_lt : ∀ d ∈ List.range 16, (Nat.digitChar d).toUpper.toNat < 128 := by decide +kernel
theorem hex_asc (a : Int) : ∀ x ∈ Hx16.hexA a, x < 128 := fun x hx => by
  unfold Hx16.hexA at hx
  obtain ⟨c, hc, rfl⟩ := List.mem_map.mp hx
  have key : ∀ (fuel n : Nat) (ds : List Char), (∀ c ∈ ds, c.toUpper.toNat < 128) → ∀ c ∈ Nat.toDigitsCore 16 fuel n ds, c.toUpper.toNat < 128 := by
    intro fuel
    induction fuel with
    | zero => intro n ds h; unfold Nat.toDigitsCore; exact h
    | succ fuel ih =>
      intro n ds h
      have h2 : ∀ c ∈ Nat.digitChar (n % 16) :: ds, c.toUpper.toNat < 128 := fun c hc => by
        rcases List.mem_cons.mp hc with e | e
        · rw [e]; exact upper_lt _ (List.mem_range.mpr (Nat.mod_lt _ (by decide)))
        · exact h c e
      unfold Nat.toDigitsCore
      simp only
      split
      · exact h2
      · exact ih _ _ h2
  exact key _ _ [] (fun _ h => nomatch h) c hc
section
variable {P : Program} {w : World} {K : PySem.W.Frag} {mg : Str → Option Value} {base : Heap}
def R_wwp : PySem.W.Frag → List Sl → List MO → Sl → List MO → Prop := fun K ss M r M' => ∃ (F : List Nat) (p : Int), FgOk F ∧ PwOk p ∧ ss = [.d (.str F), .d (.int p)] ∧ M = [] ∧ r = .d (lstX K ((wwpA F p B01).map .str)) ∧ M' = []
theorem cal_wwp (D : Df K mg "words_with_power" s_words_with_power ["figures", "power"]) (f_signed_figures : Cal P w K mg base 2 "signed_figures" (SpR K 1 R_sfig) []) (m_len : mg "len" = none) : Cal P w K mg base 3 "words_with_power" (SpR K 2 (R_wwp K)) [] := by
  refine cal_mk (k := 2) D sc_words_with_power rfl fun f cdv A outer s H E hr ss M r M' h => ?_
  obtain ⟨F, p, hF, hp, rfl, rfl, rfl, rfl⟩ := h
  refine ⟨_, [.gone], (pss_cons (ps_asg (pe_lst pa_nil) (pg_name (i := 2) sc_words_with_power.nd rfl (by first | exact .inl rfl | exact .inr rfl))) (pss_cons (ps_for PassesOwn.never rfl (pi_tup (pe_tup (pa_cons pe_str (pa_cons pe_str pa_nil)))) (pg_name (i := 3) sc_words_with_power.nd rfl (by first | exact .inl rfl | exact .inr rfl)) (pss_one (ps_for PassesOwn.never rfl (pi_tup (pe_tup (pa_cons pe_str (pa_cons pe_str pa_nil)))) (pg_name (i := 4) sc_words_with_power.nd rfl (by first | exact .inl rfl | exact .inr rfl)) (pss_cons (ps_asg (pe_op op_add_str (pe_op op_add_str (pv 3) (pv 0)) (pv 4)) (pg_name (i := 5) sc_words_with_power.nd rfl (by first | exact .inl rfl | exact .inr rfl))) (pss_cons (ps_expr (pe_bm PySem.F.plainAttrs_list PySem.F.slot_list_append PySem.F.type_list_append mt_append (pv 2) (pa_cons (pe_op op_add_str (pe_op op_add_str (pv 5) pe_str) (pe_c f_signed_figures hr (by omega) (by rfl) (pa_cons (pe_op op_sub (pv 1) (pe_callB call_len_str (by rfl) m_len PySem.boot_len (pa_cons (pv 4) pa_nil))) pa_nil))) pa_nil))) (pss_one (ps_expr (pe_bm PySem.F.plainAttrs_list PySem.F.slot_list_append PySem.F.type_list_append mt_append (pv 2) (pa_cons (pe_op op_add_str (pe_op op_add_str (pe_op op_add_str pe_str (pv 5)) pe_str) (pe_c f_signed_figures hr (by omega) (by rfl) (pa_cons (pe_op op_add (pe_op op_sub (pv 1) (pe_callB call_len_str (by rfl) m_len PySem.boot_len (pa_cons (pv 4) pa_nil))) (pe_callB call_len_str (by rfl) m_len PySem.boot_len (pa_cons (pv 5) pa_nil))) pa_nil))) pa_nil))))))))) (pss_one (ps_ret (pv 2))))), ?_, Nat.zero_le _, fun _ h => nomatch h⟩
  have hl := hF.len
  refine es_seq (es_asg (ev_lstO (xs := []) ea_nil (Nat.zero_le _))) ?_
  refine es_nG (G' := [_, _, _, _, _, _]) rfl ?_
  refine es_seq (es_forN B01 Dt.str (fun _ => [some (.d (.str F)), some (.d (.int p)), some (.o 0), none, none, none]) (fun i => [.lst ((wwpA F p (B01.take i)).map .str)]) (ei_tup (xs := B01.map Dt.str) (ev_tup (ea_cons (ev_str _) (ea_cons (ev_str _) ea_nil)) (show 2 ≤ 1000 by decide))) (Lg.refl _) fun i a ha => ⟨_, eg_name, .inl ?_⟩) (show EvS K _ _ _ (.rt (.d (lstX K ((wwpA F p B01).map .str))) ([MO.lst ((wwpA F p B01).map .str)].set 0 .gone)) from es_ret (ev_freezeX (k := 0) (ev_var rfl) rfl))
  have ham : a ∈ B01 := List.mem_of_getElem? ha
  have hal := b01_len a ham
  have hil : i < 2 := (List.getElem?_eq_some_iff.mp ha).1
  have hxl := wwpA_len F p (B01.take i)
  have hxl2 : (B01.take i).length ≤ 2 := by rw [List.length_take]; show min i 2 ≤ 2; omega
  have ex : wwpA F p (B01.take (i + 1)) = wwpA F p (B01.take i) ++ wwpI F p a (B01.take 2) := take_flat _ ha
  rw [ex]
  generalize wwpA F p (B01.take i) = X at *
  refine es_nM (M' := [.lst ((X ++ wwpI F p a (B01.take 0)).map .str)]) (by show [MO.lst (X.map .str)] = [MO.lst ((X ++ []).map .str)]; rw [List.append_nil]) ?_
  refine es_nxw (es_forN B01 Dt.str (fun _ => [some (.d (.str F)), some (.d (.int p)), some (.o 0), some (.d (.str a)), none, none]) (fun j => [.lst ((X ++ wwpI F p a (B01.take j)).map .str)]) (ei_tup (xs := B01.map Dt.str) (ev_tup (ea_cons (ev_str _) (ea_cons (ev_str _) ea_nil)) (show 2 ≤ 1000 by decide))) (Lg.refl _) fun j b hb => ⟨_, eg_name, .inl ?_⟩) (lg_cons (lg_cons (lg_cons (lg_cons (lg_cons (lg_cons lg_nil (.inl rfl)) (.inl rfl)) (.inr rfl)) (.inl rfl)) (.inl rfl)) (.inl rfl))
  have hbm : b ∈ B01 := List.mem_of_getElem? hb
  have hbl := b01_len b hbm
  have hyl := wwpI_len F p a (B01.take j)
  have hyl2 : (B01.take j).length ≤ 2 := by rw [List.length_take]; show min j 2 ≤ 2; omega
  have ey : wwpI F p a (B01.take (j + 1)) = wwpI F p a (B01.take j) ++ wwpB F p a b := take_flat _ hb
  rw [ey, ← List.append_assoc]
  have hyz : (X ++ wwpI F p a (B01.take j)).length ≤ 12 := by rw [List.length_append]; omega
  generalize X ++ wwpI F p a (B01.take j) = Y at *
  have h3 := bd_len (F := F) ham hbm
  have n1 := pw_add hp (k := -(b.length : Nat)) (by omega)
  have n2 := pw_add hp (k := -(b.length : Nat) + ((bdE F a b).length : Nat)) (by omega)
  have e1 : (p + -(b.length : Nat) : Int) = p - (b.length : Nat) := rfl
  have e2 : (p + (-(b.length : Nat) + ((bdE F a b).length : Nat)) : Int) = p - (b.length : Nat) + ((bdE F a b).length : Nat) := by omega
  rw [e1] at n1
  rw [e2] at n2
  have l1 := sfig_len n1
  have l2 := sfig_len n2
  unfold wwpB
  refine es_seq (es_asg (s := .d (.str (bdE F a b))) (M1 := [.lst (Y.map .str)]) (ev_op (ev_op (ev_var rfl) (ev_var rfl) (ro_addS (by omega))) (ev_var rfl) (ro_addS (by rw [List.length_append]; omega)))) ?_
  refine es_nG (G' := [_, _, _, _, _, _]) rfl ?_
  generalize bdE F a b = d at *
  refine es_seq (es_appO (k := 0) (xs := Y.map .str) (x := .str ((d ++ [69]) ++ sfig (p - (b.length : Nat)))) (M2 := [.lst (Y.map .str)]) (ev_var rfl) (ev_op (ev_op (ev_var rfl) (ev_str [69]) (ro_addS (by show _ + 1 ≤ _; omega))) (ev_call0 (ds := [.int (p - (b.length : Nat))]) (es := []) (z := .str (sfig (p - (b.length : Nat)))) (ea_cons (ev_op (ev_var rfl) (ev_cb (xs := [.str b]) (ea_cons (ev_var rfl) ea_nil) (rc_lenS (by omega))) ro_sub) ea_nil) ⟨_, n1, rfl, rfl, rfl, rfl⟩ rfl (fun _ => rfl)) (ro_addS (by rw [List.length_append]; show _ + 1 + _ ≤ _; omega))) ⟨_, rfl⟩ rfl (by rw [List.length_map]; omega)) ?_
  refine es_nM (M' := [.lst ((Y ++ [(d ++ [69]) ++ sfig (p - (b.length : Nat))]).map .str)]) (by rw [List.map_append] <;> rfl) ?_
  refine es_nxw (es_nxM (es_appO (k := 0) (xs := (Y ++ [(d ++ [69]) ++ sfig (p - (b.length : Nat))]).map .str) (x := .str ((([46] ++ d) ++ [69]) ++ sfig (p - (b.length : Nat) + (d.length : Nat)))) (M2 := [.lst ((Y ++ [(d ++ [69]) ++ sfig (p - (b.length : Nat))]).map .str)]) (ev_var rfl) (ev_op (ev_op (ev_op (ev_str [46]) (ev_var rfl) (ro_addS (by show 1 + _ ≤ _; omega))) (ev_str [69]) (ro_addS (by rw [List.length_append]; show 1 + _ + 1 ≤ _; omega))) (ev_call0 (ds := [.int (p - (b.length : Nat) + (d.length : Nat))]) (es := []) (z := .str (sfig (p - (b.length : Nat) + (d.length : Nat)))) (ea_cons (ev_op (ev_op (ev_var rfl) (ev_cb (xs := [.str b]) (ea_cons (ev_var rfl) ea_nil) (rc_lenS (by omega))) ro_sub) (ev_cb (xs := [.str d]) (ea_cons (ev_var rfl) ea_nil) (rc_lenS (by omega))) ro_add) ea_nil) ⟨_, n2, rfl, rfl, rfl, rfl⟩ rfl (fun _ => rfl)) (ro_addS (by rw [List.length_append, List.length_append]; show 1 + _ + 1 + _ ≤ _; omega))) ⟨_, rfl⟩ rfl (by rw [List.length_map, List.length_append]; show _ + 1 < _; omega)) (by simp only [List.map_append, List.append_assoc] <;> rfl)) (lg_cons (lg_cons (lg_cons (lg_cons (lg_cons (lg_cons lg_nil (.inr rfl)) (.inr rfl)) (.inl rfl)) (.inl rfl)) (.inl rfl)) (.inl rfl))
end
end T
namespace T
open PySem PySem.Spec PyProof.Rows L2 DJ LJ LamX
/-! ### the program: least_word -/
theorem fw_ok {c : List Nat} (h : FlOk c) : (fwL c).length ≤ 9 ∧ fwL c ≠ [] ∧ ((∀ x ∈ c, x < 128) → ∀ w ∈ fwL c, w.length ≤ 9300 ∧ ∀ x ∈ w, x < 128) := by
  obtain ⟨hl, hf, hs, hp⟩ := h
  have hm := minus_len c
  have hma : ∀ x ∈ minusL c, x < 128 := fun x hx => by
    unfold minusL at hx
    split at hx
    · rw [List.mem_singleton.mp hx]; decide
    · cases hx
  unfold fwL
  by_cases c1 : (figPow (c.drop (minusL c).length)).1 = [48]
  · rw [if_pos c1]
    exact ⟨by decide, (fun z => nomatch z), fun _ w hw => by rw [List.mem_singleton.mp hw]; decide⟩
  · rw [if_neg c1]
    have hF : FgOk (figPow (c.drop (minusL c).length)).1 := hf.resolve_left c1
    generalize (figPow (c.drop (minusL c).length)).1 = F at *
    generalize sgI (figPow (c.drop (minusL c).length)).2 = p at *
    obtain ⟨w1, w2⟩ := wwo_ok (p := p) hF
    have w3 := wwp_ok hF hp
    have w4 := wwpA_len F p B01
    have w4 : (wwpA F p B01).length = 8 := w4
    refine ⟨by rw [List.length_map, List.length_append]; omega, fun z => ?_, fun hc w hw => ?_⟩
    · have := congrArg List.length z
      rw [List.length_map, List.length_append, List.length_nil] at this
      omega
    · obtain ⟨x, hx, rfl⟩ := List.mem_map.mp hw
      have hxx : x.length ≤ 9200 ∧ ∀ c ∈ x, c < 128 := by
        rcases List.mem_append.mp hx with h | h
        · exact ⟨by have := (w2 x h).1; omega, (w2 x h).2⟩
        · exact w3 x h
      refine ⟨by rw [List.length_append]; omega, fun y hy => ?_⟩
      rcases List.mem_append.mp hy with h | h
      · exact hma y h
      · exact hxx.2 y h
def WhOk (c : List Nat) : Prop := c.length ≤ 9000 ∧ (pre [45] c = false → NumText.AllDigits c) ∧ ∀ x ∈ c, x < 128
theorem ww_ok {c : List Nat} (h : WhOk c) : (wwL c).length ≤ 9 ∧ wwL c ≠ [] ∧ ∀ w ∈ wwL c, w.length ≤ 9300 ∧ ∀ x ∈ w, x < 128 := by
  obtain ⟨hl, hd, ha⟩ := h
  unfold wwL
  by_cases c1 : pre [45] c = true
  · rw [if_pos c1]
    exact ⟨by simp, (fun z => nomatch z), fun w hw => by rw [List.mem_singleton.mp hw]; exact ⟨by omega, ha⟩⟩
  · rw [if_neg c1]
    have hd := hd (Bool.eq_false_iff.mpr c1)
    have hx := hex_len hd hl
    refine ⟨by simp, (fun z => nomatch z), fun w hw => ?_⟩
    rcases List.mem_cons.mp hw with h | h
    · rw [h]; exact ⟨by omega, ha⟩
    · rw [List.mem_singleton.mp h]
      refine ⟨by rw [List.length_append]; show 2 + _ ≤ _; omega, fun x hx => ?_⟩
      rcases List.mem_append.mp hx with h | h
      · have : ∀ x ∈ ([48, 120] : List Nat), x < 128 := by decide
        exact this x h
      · exact hex_asc _ x h
structure CoOk (t c : List Nat) : Prop where
  fits : fitsS t c sCore = true
  tl : t.length ≤ 640
  cl : c.length ≤ 9000
  ox : (isOct c || isHex c) = true → c.length ≤ 2200
  asc : ∀ x ∈ c, x < 128
  fx : t = tNull ∨ t = tBool → (getK FIXK c).isSome = true
  wh : t = tInt → WhOk c
  fl : t = tFloat → getK FIXK c = none → FlOk c
section
variable {P : Program} {w : World} {K : PySem.W.Frag} {mg : Str → Option Value} {base : Heap}
def R_fw : List Sl → List MO → Sl → List MO → Prop := fun ss M r M' => ∃ c : List Nat, FlOk c ∧ ss = [.d (.str c)] ∧ M = [] ∧ r = .d (.lst ((fwL c).map .str)) ∧ M' = []
theorem cal_fw (D : Df K mg "float_words" s_float_words ["content"]) (f_figures_and_power : Cal P w K mg base 2 "figures_and_power" (SpR K 1 R_figpow) []) (f_signed_number : Cal P w K mg base 2 "signed_number" (SpR K 1 R_signed) []) (f_words_without_power : Cal P w K mg base 1 "words_without_power" (SpR K 2 (R_wwo K)) []) (f_words_with_power : Cal P w K mg base 3 "words_with_power" (SpR K 2 (R_wwp K)) []) (m_len : mg "len" = none) : Cal P w K mg base 4 "float_words" (SpR K 1 R_fw) [] := by
  refine cal_mk (k := 3) D sc_float_words rfl fun f cdv A outer s H E hr ss M r M' h => ?_
  obtain ⟨c, ⟨hl, hf, hs, hp⟩, rfl, rfl, rfl, rfl⟩ := h
  refine ⟨_, [], (pss_cons (ps_asg (pe_ifExp (pt_val (pe_m1 PySem.F.slot_str_startswith PySem.F.type_str_startswith mt_startswith (pv 0) pe_str)) pe_str pe_str) (pg_name (i := 1) sc_float_words.nd rfl (by first | exact .inl rfl | exact .inr rfl))) (pss_cons (ps_asg (pe_c f_figures_and_power hr (by omega) (by rfl) (pa_cons (pe_slice sl_str (pv 0) (po_some (pe_callB call_len_str (by rfl) m_len PySem.boot_len (pa_cons (pv 1) pa_nil))) po_none) pa_nil)) (pg_tup rfl (pgs_cons (pg_name (i := 3) sc_float_words.nd rfl (by first | exact .inl rfl | exact .inr rfl)) (pgs_cons (pg_name (i := 4) sc_float_words.nd rfl (by first | exact .inl rfl | exact .inr rfl)) pgs_nil)))) (pss_cons (ps_if (pt_cmpR op_eq (pv 3) pe_str (nomark _)) (pss_one (ps_ret (pe_lst (pa_cons pe_str pa_nil)))) pss_nil) (pss_cons (ps_asg (pe_op op_cat (pe_c f_words_without_power hr (by omega) (by rfl) (pa_cons (pv 3) (pa_cons (pe_c f_signed_number hr (by omega) (by rfl) (pa_cons (pv 4) pa_nil)) pa_nil))) (pe_c f_words_with_power hr (by omega) (by rfl) (pa_cons (pv 3) (pa_cons (pe_c f_signed_number hr (by omega) (by rfl) (pa_cons (pv 4) pa_nil)) pa_nil)))) (pg_name (i := 2) sc_float_words.nd rfl (by first | exact .inl rfl | exact .inr rfl))) (pss_one (ps_ret (pe_lc (own := [("word", 5)]) (g := (gName 5)) (by rfl) sc_float_words.nd (pi_list (pv 2)) (blkOk_by (own := [("word", 5)]) (N := N_float_words) (sc := defScope s_float_words) (by decide +kernel)) (fun _ _ _ _ _ => pg_name (i := 5) sc_float_words.nd rfl (by first | exact .inl rfl | exact .inr rfl)) (fun _ _ _ _ _ => pts_nil) (fun _ _ _ _ _ => (pe_op op_add_str (pv 1) (pv 5)))))))))), ?_, Nat.le_refl _, fun _ h => nomatch h⟩
  have hm := minus_len c
  refine es_seq (es_asg (s := .d (.str (minusL c))) (M1 := []) (ev_isD (ev_iteS (et_B (ev_m1 (ev_var rfl) (ev_str [45]) rm_starts)) (fun _ => ev_str [45]) (fun _ => ev_str [])) (show _ = Dt.str (minusL c) from rfl))) ?_
  refine es_nG (G' := [_, _, _, _, _, _]) rfl ?_
  refine es_seq (es_asgG (ev_call0 (ds := [.str (c.drop (minusL c).length)]) (es := []) (z := .tup [.str (figPow (c.drop (minusL c).length)).1, .str (figPow (c.drop (minusL c).length)).2]) (ea_cons (ev_isD (ev_slS (ev_var rfl) (eo_some (ev_cb (xs := [.str (minusL c)]) (ea_cons (ev_var rfl) ea_nil) (rc_lenS (by omega)))) eo_none (by omega)) (show _ = Dt.str (c.drop (minusL c).length) by rw [cutL_from])) ea_nil) ⟨_, by rw [List.length_drop]; omega, rfl, rfl, rfl, rfl⟩ rfl (fun _ => rfl)) (eg_tup (egs_cons eg_name (egs_cons eg_name egs_nil)) rfl)) ?_
  refine es_nG (G' := [_, _, _, _, _, _]) rfl ?_
  have eW : fwL c = if (figPow (c.drop (minusL c).length)).1 = [48] then [[46, 48]] else (wwo (figPow (c.drop (minusL c).length)).1 (sgI (figPow (c.drop (minusL c).length)).2) ++ wwpA (figPow (c.drop (minusL c).length)).1 (sgI (figPow (c.drop (minusL c).length)).2) B01).map fun w => minusL c ++ w := rfl
  rw [eW]
  generalize (figPow (c.drop (minusL c).length)).1 = F at *
  generalize (figPow (c.drop (minusL c).length)).2 = T at *
  by_cases c1 : F = [48]
  · rw [if_pos c1]
    exact es_seqR (es_yes (et_test (ev_op (ev_var rfl) (ev_str [48]) ro_eqS)) (decide_eq_true c1) (es_ret (ev_lst (xs := [.str [46, 48]]) (ea_cons (ev_str _) ea_nil) (show 1 ≤ 1000 by decide))))
  · rw [if_neg c1]
    have hF := hf.resolve_left c1
    refine es_pass (et_is (et_test (ev_op (ev_var rfl) (ev_str [48]) ro_eqS)) (decide_eq_false c1)) ?_
    obtain ⟨w1, w2⟩ := wwo_ok (p := sgI T) hF
    have w3 := wwp_ok hF hp
    have w4 : (wwpA F (sgI T) B01).length = 8 := wwpA_len F (sgI T) B01
    refine es_seq (es_asg (s := .d (lstX K ((wwo F (sgI T) ++ wwpA F (sgI T) B01).map .str))) (M1 := []) (ev_isD (ev_op (ev_call0 (ds := [.str F, .int (sgI T)]) (es := []) (z := lstX K ((wwo F (sgI T)).map .str)) (ea_cons (ev_var rfl) (ea_cons (ev_call0 (ds := [.str T]) (es := []) (z := .int (sgI T)) (ea_cons (ev_var rfl) ea_nil) ⟨T, hs, rfl, rfl, rfl, rfl⟩ rfl (fun _ => rfl)) ea_nil)) ⟨F, _, hF, rfl, rfl, rfl, rfl⟩ rfl (fun _ => rfl)) (ev_call0 (ds := [.str F, .int (sgI T)]) (es := []) (z := lstX K ((wwpA F (sgI T) B01).map .str)) (ea_cons (ev_var rfl) (ea_cons (ev_call0 (ds := [.str T]) (es := []) (z := .int (sgI T)) (ea_cons (ev_var rfl) ea_nil) ⟨T, hs, rfl, rfl, rfl, rfl⟩ rfl (fun _ => rfl)) ea_nil)) ⟨F, _, hF, hp, rfl, rfl, rfl, rfl⟩ rfl (fun _ => rfl)) (ro_cat (by rw [List.length_map, List.length_map]; omega))) (by rw [List.map_append]))) ?_
    refine es_nG (G' := [_, _, _, _, _, _]) rfl ?_
    have hw : ∀ x ∈ wwo F (sgI T) ++ wwpA F (sgI T) B01, x.length ≤ 9200 := fun x hx => by
      rcases List.mem_append.mp hx with h | h
      · have := (w2 x h).1; omega
      · exact (w3 x h).1
    have hwl : (wwo F (sgI T) ++ wwpA F (sgI T) B01).length ≤ 9 := by rw [List.length_append]; omega
    generalize wwo F (sgI T) ++ wwpA F (sgI T) B01 = ws at *
    exact es_ret (ev_isD (ev_lcM ws Dt.str (fun x => .str (minusL c ++ x)) (ei_list (ev_wk (ev_var rfl) lstX_lst)) (by omega) (hw_name (by decide)) fun x hx => ⟨_, eg_name, ev_op (ev_var rfl) (ev_var rfl) (ro_addS (by have := hw x hx; omega))⟩) (by rw [List.map_map] <;> rfl))
def R_ww : List Sl → List MO → Sl → List MO → Prop := fun ss M r M' => ∃ c : List Nat, WhOk c ∧ ss = [.d (.str c)] ∧ M = [] ∧ r = .d (.lst ((wwL c).map .str)) ∧ M' = []
theorem cal_ww (D : Df K mg "whole_words" s_whole_words ["content"]) (f_number_of : Cal P w K mg base 1 "number_of" (SpR K 1 R_number_of) []) : Cal P w K mg base 2 "whole_words" (SpR K 1 R_ww) [] := by
  refine cal_mk (k := 1) D sc_whole_words rfl fun f cdv A outer s H E hr ss M r M' h => ?_
  obtain ⟨c, ⟨hl, hd, ha⟩, rfl, rfl, rfl, rfl⟩ := h
  refine ⟨_, [], (pss_cons (ps_if (pt_val (pe_m1 PySem.F.slot_str_startswith PySem.F.type_str_startswith mt_startswith (pv 0) pe_str)) (pss_one (ps_ret (pe_lst (pa_cons (pv 0) pa_nil)))) pss_nil) (pss_one (ps_ret (pe_lst (pa_cons (pv 0) (pa_cons (pe_joined (PJ.cons pe_str (PJ.cons (pe_fmtX (pe_c f_number_of hr (by omega) (by rfl) (pa_cons (pv 0) pa_nil))) PJ.nil))) pa_nil)))))), ?_, Nat.le_refl _, fun _ h => nomatch h⟩
  unfold wwL
  have t1 : EvT K _ [some (.d (.str c))] [] (pre [45] c) [] := et_B (ev_m1 (ev_var (i := 0) rfl) (ev_str [45]) rm_starts)
  by_cases c1 : pre [45] c = true
  · rw [if_pos c1]
    exact es_seqR (es_yes t1 c1 (es_ret (ev_lst (xs := [.str c]) (ea_cons (ev_var rfl) ea_nil) (show 1 ≤ 1000 by decide))))
  · rw [if_neg c1]
    have hd := hd (Bool.eq_false_iff.mpr c1)
    have hx := hex_len hd hl
    have hz : (16777216 : Nat) ≤ sizeLine := by decide
    refine es_pass (et_is t1 (Bool.eq_false_iff.mpr c1)) ?_
    exact es_ret (ev_lst (xs := [.str c, .str ([48, 120] ++ Hx16.hexA ((NumText.digitsVal c : Nat) : Int))]) (ea_cons (ev_var rfl) (ea_cons (ev_js2 (ev_str [48, 120]) (ev_fmtX (ev_call0 (ds := [.str c]) (es := []) (z := .int ((NumText.digitsVal c : Nat) : Int)) (ea_cons (ev_var rfl) ea_nil) ⟨c, by omega, hd, rfl, rfl, rfl, rfl⟩ rfl (fun _ => rfl)) (by omega) (by omega)) (by show 2 + _ ≤ _; omega)) ea_nil)) (show 2 ≤ 1000 by decide))
def R_lof : List Sl → List MO → Sl → List MO → Prop := fun ss M r M' => ∃ ws : List (List Nat), ws ≠ [] ∧ ws.length ≤ 1000 ∧ (∀ w ∈ ws, w.length ≤ 9300 ∧ ∀ x ∈ w, x < 128) ∧ ss = [.d (.lst (ws.map .str))] ∧ M = [] ∧ r = .d (.str (lofL ws)) ∧ M' = []
theorem cal_lof (D : Df K mg "least_of" s_least_of ["words"]) (m_len : mg "len" = none) (m_min : mg "min" = none) : Cal P w K mg base 1 "least_of" (SpR K 1 R_lof) [] := by
  refine cal_mk (k := 0) D sc_least_of rfl fun f cdv A outer s H E hr ss M r M' h => ?_
  obtain ⟨ws, hne, hl, hw, rfl, rfl, rfl, rfl⟩ := h
  refine ⟨_, [], (pss_one (ps_ret (pe_ix (show IxR _ (rIxT K) from ix_tup) (pe_callB (cr_minT rfl (room64 hr)) (by rfl) m_min (by decide +kernel) (pa_cons (pe_lc (own := [("word", 1)]) (g := (gName 1)) (by rfl) sc_least_of.nd (pi_list (pv 0)) (blkOk_by (own := [("word", 1)]) (N := N_least_of) (sc := defScope s_least_of) (by decide +kernel)) (fun _ _ _ _ _ => pg_name (i := 1) sc_least_of.nd rfl (by first | exact .inl rfl | exact .inr rfl)) (fun _ _ _ _ _ => pts_nil) (fun _ _ _ _ _ => (pe_tup (pa_cons (pe_callB call_len_str (by rfl) m_len PySem.boot_len (pa_cons (pv 1) pa_nil)) (pa_cons (pv 1) pa_nil))))) pa_nil)) pe_int (fun _ _ => rfl)))), ?_, Nat.le_refl _, fun _ h => nomatch h⟩
  cases ws with
  | nil => exact absurd rfl hne
  | cons v vs =>
    exact es_ret (ev_op (ev_minP (p := ((v.length : Nat), v)) (ps := vs.map fun x => (((x.length : Nat) : Int), x)) (ev_isD (ev_lcM (v :: vs) Dt.str (fun x => pairD ((x.length : Nat), x)) (ei_list (ev_var rfl)) (by omega) (hw_name (by decide)) fun x hx => ⟨_, eg_name, ev_tup (xs := [.int (x.length : Nat), .str x]) (ea_cons (ev_cb (xs := [.str x]) (ea_cons (ev_var rfl) ea_nil) (rc_lenS (by have := (hw x hx).1; omega))) (ea_cons (ev_var rfl) ea_nil)) (show 2 ≤ 1000 by decide)⟩) (by rw [List.map_cons, List.map_cons, List.map_map] <;> rfl)) (fun q hq x hx => by
      rcases List.mem_cons.mp hq with e | e
      · subst e
        exact (hw v List.mem_cons_self).2 x hx
      · obtain ⟨y, hy, rfl⟩ := List.mem_map.mp e
        exact (hw y (List.mem_cons_of_mem v hy)).2 x hx)) ev_int (ro_ixT (i := 1) rfl))
def R_lw : List Sl → List MO → Sl → List MO → Prop := fun ss M r M' => ∃ t c : List Nat, CoOk t c ∧ ss = [.d (.str t), .d (.str c)] ∧ M = [] ∧ r = .d (oS (lwL t c)) ∧ M' = []
theorem cal_lw {dF : Addr} {esF : Array DictEntry} {nF : Nat} (D : Df K mg "least_word" s_least_word ["tag", "content"]) (c_FIXED_WORDS : Gc K mg "FIXED_WORDS" (.raw (.ref dF))) (tF : TDict K w dF FIXK esF nF) (f_tag_fits : Cal P w K mg base 4 "tag_fits" (SpR K 4 R_fits) []) (f_word_tag : Cal P w K mg base 4 "word_tag" (SpR K 1 R_word_tag) []) (f_least_of : Cal P w K mg base 1 "least_of" (SpR K 1 R_lof) []) (f_whole_words : Cal P w K mg base 2 "whole_words" (SpR K 1 R_ww) []) (f_float_words : Cal P w K mg base 4 "float_words" (SpR K 1 R_fw) []) : CalF P w K mg base 5 "least_word" s_least_word ["tag", "content"] (SpR K 2 R_lw) := by
  obtain ⟨v_FIXED_WORDS, u_FIXED_WORDS, hm_FIXED_WORDS, hr_FIXED_WORDS, hd_FIXED_WORDS⟩ := c_FIXED_WORDS.ex
  have kd_FIXED_WORDS := tF.kd
  refine cal_mkF (k := 4) D sc_least_word rfl fun f cdv A outer s H E hr ss M r M' h => ?_
  obtain ⟨t, c, hC, rfl, rfl, rfl, rfl⟩ := h
  refine ⟨_, [], (pss_cons (ps_if (pt_not (pt_val (pe_c f_tag_fits hr (by omega) (by rfl) (pa_cons pe_str (pa_cons (pv 0) (pa_cons (pv 1) (pa_cons pe_str pa_nil))))))) pss_never pss_nil) (pss_cons (ps_if (pt_cmpR op_eq (pv 0) pe_str (nomark _)) (pss_one (ps_ret (pe_ifExp (pt_cmpR op_eq (pe_c f_word_tag hr (by omega) (by rfl) (pa_cons (pv 1) pa_nil)) pe_str (nomark _)) (pv 1) pe_non))) pss_nil) (pss_cons (ps_if (PW.pt (pw_or (pt_cmpR (show OpR _ (compareOp .In) (rIn K false) from op_in_seq) (pv 0) (pe_tup (pa_cons pe_str (pa_cons pe_str pa_nil))) (by rfl)) (pw_or1 (PW.pt (pw_and (pt_cmpR op_eq (pv 0) pe_str (nomark _)) (pw_and1 (pt_cmpR (op_in_kd kd_FIXED_WORDS) (pv 1) (pe_glob (by rfl) hm_FIXED_WORDS hr_FIXED_WORDS) (by rfl)))))))) (pss_one (ps_ret (pe_ix ix_kdict (pe_glob (by rfl) hm_FIXED_WORDS hr_FIXED_WORDS) (pv 1) (fun _ _ => rfl)))) pss_nil) (pss_cons (ps_if (pt_cmpR op_eq (pv 0) pe_str (nomark _)) (pss_one (ps_ret (pe_c f_least_of hr (by omega) (by rfl) (pa_cons (pe_c f_whole_words hr (by omega) (by rfl) (pa_cons (pv 1) pa_nil)) pa_nil)))) pss_nil) (pss_one (ps_ret (pe_ifExp (pt_cmpR op_eq (pv 0) pe_str (nomark _)) (pe_c f_least_of hr (by omega) (by rfl) (pa_cons (pe_c f_float_words hr (by omega) (by rfl) (pa_cons (pv 1) pa_nil)) pa_nil)) pe_non))))))), ?_, Nat.le_refl _, fun j h => by cases lwL t c <;> cases h⟩
  refine es_pass (et_is (et_not (et_B (ev_call0 (ds := [.str tScalar, .str t, .str c, .str sCore]) (es := []) (z := .bl (fitsS t c sCore)) (ea_cons (ev_str _) (ea_cons (ev_var rfl) (ea_cons (ev_var rfl) (ea_cons (ev_str _) ea_nil)))) ⟨t, c, sCore, hC.tl, by have := hC.cl; omega, hC.ox, by decide, rfl, rfl, rfl, rfl⟩ rfl (fun _ => rfl)))) (by rw [hC.fits] <;> rfl)) ?_
  have hcl := hC.cl
  unfold lwL
  by_cases c1 : t = tStr
  · rw [if_pos c1]
    exact es_seqR (es_yes (et_test (ev_op (ev_var rfl) (ev_str tStr) ro_eqS)) (decide_eq_true c1) (es_ret (ev_if (s := .d (oS (if tagL c = tStr then some c else none))) (et_test (ev_op (ev_call0 (ds := [.str c]) (es := []) (z := .str (tagL c)) (ea_cons (ev_var rfl) ea_nil) ⟨c, by omega, hC.ox, rfl, rfl, rfl, rfl⟩ rfl (fun _ => rfl)) (ev_str tStr) ro_eqS)) (fun h => ev_isD (ev_var rfl) (by rw [if_pos (of_decide_eq_true h)] <;> rfl)) (fun h => ev_isD ev_non (by rw [if_neg (of_decide_eq_false h)] <;> rfl)))))
  · rw [if_neg c1]
    refine es_pass (et_is (et_test (ev_op (ev_var rfl) (ev_str tStr) ro_eqS)) (decide_eq_false c1)) ?_
    have t2 : EvT K _ [some (.d (.str t)), some (.d (.str c))] [] (decide (t ∈ [tNull, tBool]) || (decide (t = tFloat) && (getK FIXK c).isSome)) [] := et_or (et_test (ev_op (ev_var (i := 0) rfl) (ev_tup (xs := [tNull, tBool].map Dt.str) (ea_cons (ev_str _) (ea_cons (ev_str _) ea_nil)) (show 2 ≤ 1000 by decide)) ro_inT)) (fun _ => et_and (et_test (ev_op (ev_var (i := 0) rfl) (ev_str tFloat) ro_eqS)) (fun _ => et_test (ev_op (ev_var (i := 1) rfl) (ev_c hd_FIXED_WORDS) (ro_inKd tF))) (fun _ => rfl)) (fun _ => rfl)
    by_cases c2 : (decide (t ∈ [tNull, tBool]) || (decide (t = tFloat) && (getK FIXK c).isSome)) = true
    · rw [if_pos c2]
      have hs : (getK FIXK c).isSome = true := by
        rw [Bool.or_eq_true, Bool.and_eq_true] at c2
        rcases c2 with h | h
        · have h := of_decide_eq_true h
          simp only [List.mem_cons, List.not_mem_nil, or_false] at h
          exact hC.fx h
        · exact h.2
      obtain ⟨v, hv⟩ := Option.isSome_iff_exists.mp hs
      rw [hv]
      exact es_seqR (es_yes t2 c2 (es_ret (ev_isD (ev_op (ev_c hd_FIXED_WORDS) (ev_var rfl) (ro_kd (tF.hit hv))) rfl)))
    · rw [if_neg c2]
      refine es_pass (et_is t2 (Bool.eq_false_iff.mpr c2)) ?_
      by_cases c3 : t = tInt
      · rw [if_pos c3]
        have hW := hC.wh c3
        obtain ⟨h1, h2, h3⟩ := ww_ok hW
        exact es_seqR (es_yes (et_test (ev_op (ev_var rfl) (ev_str tInt) ro_eqS)) (decide_eq_true c3) (es_ret (ev_isD (ev_call0 (ds := [.lst ((wwL c).map .str)]) (es := []) (z := .str (lofL (wwL c))) (ea_cons (ev_call0 (ds := [.str c]) (es := []) (z := .lst ((wwL c).map .str)) (ea_cons (ev_var rfl) ea_nil) ⟨c, hW, rfl, rfl, rfl, rfl⟩ rfl (fun _ => rfl)) ea_nil) ⟨_, h2, by omega, h3, rfl, rfl, rfl, rfl⟩ rfl (fun _ => rfl)) rfl)))
      · rw [if_neg c3]
        refine es_pass (et_is (et_test (ev_op (ev_var rfl) (ev_str tInt) ro_eqS)) (decide_eq_false c3)) ?_
        refine es_ret (ev_if (s := .d (oS (if t = tFloat then some (lofL (fwL c)) else none))) (et_test (ev_op (ev_var rfl) (ev_str tFloat) ro_eqS)) (fun h => ?_) (fun h => ev_isD ev_non (by rw [if_neg (of_decide_eq_false h)] <;> rfl)))
        have c4 := of_decide_eq_true h
        rw [if_pos c4]
        have hF : FlOk c := hC.fl c4 (by
          cases hg : getK FIXK c with
          | none => rfl
          | some v => exact absurd (by rw [hg, decide_eq_true c4]; simp) c2)
        obtain ⟨h1, h2, h3⟩ := fw_ok hF
        exact ev_isD (ev_call0 (ds := [.lst ((fwL c).map .str)]) (es := []) (z := .str (lofL (fwL c))) (ea_cons (ev_call0 (ds := [.str c]) (es := []) (z := .lst ((fwL c).map .str)) (ea_cons (ev_var rfl) ea_nil) ⟨c, hF, rfl, rfl, rfl, rfl⟩ rfl (fun _ => rfl)) ea_nil) ⟨_, h2, by omega, h3 hC.asc, rfl, rfl, rfl, rfl⟩ rfl (fun _ => rfl)) rfl
end
end T
namespace T
open PySem PySem.Spec PyProof.Rows L2 DJ LJ LamX
/-! ### the law's draws -/
abbrev s__law_draw : Stmt := topS 39
abbrev N__law_draw : List Str := ["_law_well_here", "_law_many", "_law_mixed", "_law_found"]
theorem sc__law_draw : FnScope N__law_draw ["_law_well_here", "_law_many"] (defScope s__law_draw) := ⟨rfl, rfl, rfl, by decide +kernel, rfl, by decide +kernel, by decide +kernel⟩
abbrev Wl := Int × Int × Int
abbrev wl (w : Wl) : MO := .lst [.int w.1, .int w.2.1, .int w.2.2]
def mix1 (a b : Int) : Int := ((a + 7919 * b + 1) * 48271) % 2147483647
def mix2 (m : Int) : Int := (m * (m / 1009 + 69621)) % 2147483629
def mix3 (m : Int) : Int := (m * (m / 2003 + 40692)) % 2147483587 / 5
def drawW (w : Wl) (n : Int) : Int × Wl :=
  if 10 ^ 18 ≤ w.1 then (w.1 % n, (w.1 / n, w.2.1, w.2.2)) else (mix3 (mix2 (mix1 w.2.1 (w.2.2 + 1))) % n, (w.1, w.2.1, w.2.2 + 1))
theorem draw_lt (w : Wl) {n : Int} (h : 0 < n) : 0 ≤ (drawW w n).1 ∧ (drawW w n).1 < n := by
  unfold drawW
  split
  · exact ⟨Int.emod_nonneg _ (by omega), Int.emod_lt_of_pos _ h⟩
  · exact ⟨Int.emod_nonneg _ (by omega), Int.emod_lt_of_pos _ h⟩
section
variable {P : Program} {w : World} {K : PySem.W.Frag} {mg : Str → Option Value} {base : Heap}
def R_draw : List Sl → List MO → Sl → List MO → Prop := fun ss M r M' => ∃ (x : Wl) (n : Int), (0 < n ∧ n.natAbs.log2 < 9000) ∧ ss = [.o 0, .d (.int n)] ∧ M = [wl x] ∧ r = .d (.int (drawW x n).1) ∧ M' = [wl (drawW x n).2]
theorem cal_draw {k : Nat} (D : Df K mg "_law_draw" s__law_draw ["_law_well_here", "_law_many"]) (m_int : mg "int" = none) : Cal P w K mg base (k + 1) "_law_draw" (SpR K 2 R_draw) [] := by
  refine cal_mk D sc__law_draw rfl fun f cdv A outer s H E hr ss M r M' h => ?_
  obtain ⟨⟨a, b, c⟩, n, ⟨hn, hn2⟩, rfl, rfl, rfl, rfl⟩ := h
  refine ⟨_, [], (pss_cons (ps_if (pt_cmpR op_ge (pe_ix ix_list (pv 0) pe_int (fun _ _ => rfl)) (pe_op op_pow pe_int pe_int) (nomark _)) (pss_cons (ps_asg (pe_op op_mod (pe_callTy call_int1 (by rfl) m_int (by decide +kernel) (pa_cons (pe_ix ix_list (pv 0) pe_int (fun _ _ => rfl)) pa_nil)) (pv 1)) (pg_name (i := 3) sc__law_draw.nd rfl (by first | exact .inl rfl | exact .inr rfl))) (pss_cons (ps_asg (pe_op op_fdivW (pe_ix ix_list (pv 0) pe_int (fun _ _ => rfl)) (pv 1)) (pg_sub (pv 0) pe_int set_list)) (pss_one (ps_ret (pv 3))))) pss_nil) (pss_cons (ps_asg (pe_op op_add (pe_ix ix_list (pv 0) pe_int (fun _ _ => rfl)) pe_int) (pg_sub (pv 0) pe_int set_list)) (pss_cons (ps_asg (pe_op op_mod (pe_callTy call_int1 (by rfl) m_int (by decide +kernel) (pa_cons (pe_op op_mul (pe_op op_add (pe_op op_add (pe_ix ix_list (pv 0) pe_int (fun _ _ => rfl)) (pe_op op_mul pe_int (pe_ix ix_list (pv 0) pe_int (fun _ _ => rfl)))) pe_int) pe_int) pa_nil)) pe_int) (pg_name (i := 2) sc__law_draw.nd rfl (by first | exact .inl rfl | exact .inr rfl))) (pss_cons (ps_asg (pe_op op_mod (pe_callTy call_int1 (by rfl) m_int (by decide +kernel) (pa_cons (pe_op op_mul (pv 2) (pe_op op_add (pe_op op_fdivW (pv 2) pe_int) pe_int)) pa_nil)) pe_int) (pg_name (i := 2) sc__law_draw.nd rfl (by first | exact .inl rfl | exact .inr rfl))) (pss_one (ps_ret (pe_op op_mod (pe_callTy call_int1 (by rfl) m_int (by decide +kernel) (pa_cons (pe_op op_fdivW (pe_op op_mod (pe_callTy call_int1 (by rfl) m_int (by decide +kernel) (pa_cons (pe_op op_mul (pv 2) (pe_op op_add (pe_op op_fdivW (pv 2) pe_int) pe_int)) pa_nil)) pe_int) pe_int) pa_nil)) (pv 1)))))))), ?_, Nat.le_refl _, fun _ h => nomatch h⟩
  refine es_guard (et_test (ev_op (ev_ixO (k := 0) (x := .int a) (ev_var rfl) ev_int rfl rfl) (ev_op ev_int ev_int (ro_pow ⟨by decide, by decide, by decide⟩)) ro_ge)) (fun h => ?_) (fun h => ?_)
  · have h : (10 : Int) ^ 18 ≤ a := of_decide_eq_true h
    have e : drawW (a, b, c) n = (a % n, (a / n, b, c)) := if_pos h
    rw [e]
    refine es_seq (es_asg (ev_op (ev_cb (xs := [.int a]) (ea_cons (ev_ixO (k := 0) (x := .int a) (ev_var rfl) ev_int rfl rfl) ea_nil) rc_int1) (ev_var rfl) (ro_mod hn))) ?_
    refine es_seq (es_setO (k := 0) (j := 0) (xs := [.int a, .int b, .int c]) (ev_op (ev_ixO (k := 0) (x := .int a) (ev_var rfl) ev_int rfl rfl) (ev_var rfl) (ro_fdivW ⟨hn, hn2⟩)) (ev_var rfl) ev_int rfl rfl) ?_
    exact es_ret (ev_var rfl)
  · have h : ¬ (10 : Int) ^ 18 ≤ a := of_decide_eq_false h
    have e : drawW (a, b, c) n = (mix3 (mix2 (mix1 b (c + 1))) % n, (a, b, c + 1)) := if_neg h
    rw [e]
    have k1 : CMul (mix1 b (c + 1)) (mix1 b (c + 1) / 1009 + 69621) := by
      left
      have h1 : 0 ≤ mix1 b (c + 1) := Int.emod_nonneg _ (by decide)
      have h2 : mix1 b (c + 1) < 2147483647 := Int.emod_lt_of_pos _ (by decide)
      generalize mix1 b (c + 1) = m at *
      omega
    have k2 : CMul (mix2 (mix1 b (c + 1))) (mix2 (mix1 b (c + 1)) / 2003 + 40692) := by
      left
      have h1 : 0 ≤ mix2 (mix1 b (c + 1)) := Int.emod_nonneg _ (by decide)
      have h2 : mix2 (mix1 b (c + 1)) < 2147483629 := Int.emod_lt_of_pos _ (by decide)
      generalize mix2 (mix1 b (c + 1)) = m at *
      omega
    refine es_seq (es_setO (k := 0) (j := 2) (xs := [.int a, .int b, .int c]) (ev_op (ev_ixO (k := 0) (x := .int c) (ev_var rfl) ev_int rfl rfl) ev_int ro_add) (ev_var rfl) ev_int rfl rfl) ?_
    refine es_seq (es_asg (ev_isD (ev_op (ev_cb (xs := [.int ((b + 7919 * (c + 1) + 1) * 48271)]) (ea_cons (ev_op (ev_op (ev_op (ev_ixO (k := 0) (x := .int b) (ev_var rfl) ev_int rfl rfl) (ev_op ev_int (ev_ixO (k := 0) (x := .int (c + 1)) (ev_var rfl) ev_int rfl rfl) (ro_mul (.inl (by decide)))) ro_add) ev_int ro_add) ev_int (ro_mul (.inr (by decide)))) ea_nil) rc_int1) ev_int (ro_mod (by decide))) (show _ = Dt.int (mix1 b (c + 1)) from rfl))) ?_
    refine es_nG (G' := [_, _, _, _]) rfl ?_
    refine es_seq (es_asg (ev_isD (ev_op (ev_cb (xs := [.int (mix1 b (c + 1) * (mix1 b (c + 1) / 1009 + 69621))]) (ea_cons (ev_op (ev_var rfl) (ev_op (ev_op (ev_var rfl) ev_int (ro_fdivW ⟨by decide, by decide⟩)) ev_int ro_add) (ro_mul k1)) ea_nil) rc_int1) ev_int (ro_mod (by decide))) (show _ = Dt.int (mix2 (mix1 b (c + 1))) from rfl))) ?_
    refine es_nG (G' := [_, _, _, _]) rfl ?_
    exact es_ret (ev_op (ev_cb (xs := [.int (mix3 (mix2 (mix1 b (c + 1))))]) (ea_cons (ev_isD (ev_op (ev_op (ev_cb (xs := [.int (mix2 (mix1 b (c + 1)) * (mix2 (mix1 b (c + 1)) / 2003 + 40692))]) (ea_cons (ev_op (ev_var rfl) (ev_op (ev_op (ev_var rfl) ev_int (ro_fdivW ⟨by decide, by decide⟩)) ev_int ro_add) (ro_mul k2)) ea_nil) rc_int1) ev_int (ro_mod (by decide))) ev_int (ro_fdivW ⟨by decide, by decide⟩)) (show _ = Dt.int (mix3 (mix2 (mix1 b (c + 1)))) from rfl)) ea_nil) rc_int1) (ev_var rfl) (ro_mod hn))
end
end T
namespace T
open PySem PySem.Spec PyProof.Rows L2 DJ LJ LamX
abbrev s__law_one : Stmt := topS 40
abbrev N__law_one : List Str := ["_law_well_here", "_law_some"]
theorem sc__law_one : FnScope N__law_one ["_law_well_here", "_law_some"] (defScope s__law_one) := ⟨rfl, rfl, rfl, by decide +kernel, rfl, by decide +kernel, by decide +kernel⟩
abbrev s__law_well : Stmt := topS 41
abbrev N__law_well : List Str := ["_law_script", "_law_k", "_law_cell"]
theorem sc__law_well : FnScope N__law_well ["_law_script", "_law_k"] (defScope s__law_well) := ⟨rfl, rfl, rfl, by decide +kernel, rfl, by decide +kernel, by decide +kernel⟩
def wellW (ns : List Int) (k : Nat) : Wl := (ns.getD k (7919 * (k : Int)), ns.getD k (7919 * (k : Int)) % 2147483629, 0)
/-- a drawn one of some things -/
def oneT (x : Wl) (xs : List (List Nat)) : List Nat × Wl := (xs.getD (drawW x xs.length).1.toNat [], (drawW x xs.length).2)
def oneC (x : Wl) (l : List Nat) : Nat × Wl := (l.getD (drawW x l.length).1.toNat 0, (drawW x l.length).2)
theorem atI_draw {α : Type} (x : Wl) (xs : List α) (d : α) (h : xs ≠ []) : atI xs (drawW x xs.length).1 = some (xs.getD (drawW x xs.length).1.toNat d) := by
  have hl : 0 < xs.length := List.length_pos_iff.mpr h
  obtain ⟨h1, h2⟩ := draw_lt x (n := xs.length) (by omega)
  generalize (drawW x xs.length).1 = i at *
  obtain ⟨n, rfl⟩ := Int.eq_ofNat_of_zero_le h1
  have hn : n < xs.length := by omega
  rw [atI_nat hn, Int.toNat_natCast, List.getD_eq_getElem?_getD, List.getElem?_eq_getElem hn] <;> rfl
section
variable {P : Program} {w : World} {K : PySem.W.Frag} {mg : Str → Option Value} {base : Heap}
def R_one : List Sl → List MO → Sl → List MO → Prop := fun ss M r M' => ∃ x : Wl, M = [wl x] ∧
  ((∃ xs : List Dt, xs ≠ [] ∧ xs.length ≤ 100000 ∧ ss = [.o 0, .d (.lst xs)] ∧ r = .d (xs.getD (drawW x xs.length).1.toNat .non) ∧ M' = [wl (drawW x xs.length).2]) ∨
    ∃ l : List Nat, l ≠ [] ∧ l.length ≤ 100000 ∧ ss = [.o 0, .d (.str l)] ∧ r = .d (.str [l.getD (drawW x l.length).1.toNat 0]) ∧ M' = [wl (drawW x l.length).2])
theorem cal_one {k : Nat} (D : Df K mg "_law_one" s__law_one ["_law_well_here", "_law_some"]) (f__law_draw : Cal P w K mg base (k + 1) "_law_draw" (SpR K 2 R_draw) []) (m_len : mg "len" = none) : Cal P w K mg base (k + 2) "_law_one" (SpR K 2 R_one) [] := by
  refine cal_mk D sc__law_one rfl fun f cdv A outer s H E hr ss M r M' h => ?_
  refine ⟨_, [], (pss_one (ps_ret (pe_ix ix_seq (pv 1) (pe_c f__law_draw hr (by omega) (by rfl) (pa_cons (pv 0) (pa_cons (pe_callB call_len (by rfl) m_len PySem.boot_len (pa_cons (pv 1) pa_nil)) pa_nil))) (fun _ _ => rfl)))), ?_, ?_, ?_⟩
  · obtain ⟨x, rfl, h⟩ := h
    rcases h with ⟨xs, hne, hl, rfl, rfl, rfl⟩ | ⟨l, hne, hl, rfl, rfl, rfl⟩
    · have hp : 0 < xs.length := List.length_pos_iff.mpr hne
      refine es_ret (ev_op (ev_var rfl) (ev_call1 (k := 0) (m := wl x) (m' := wl (drawW x xs.length).2) (es := []) (ss := [.o 0, .d (.int (xs.length : Nat))]) (ea_cons (ev_var rfl) (ea_cons (ev_cb (xs := [.lst xs]) (ea_cons (ev_var rfl) ea_nil) rc_lenL') ea_nil)) rfl (fun z => nomatch z) ?_ ⟨x, _, ⟨by omega, log_short (by omega) (by omega)⟩, rfl, rfl, rfl, rfl⟩ (fun z => nomatch z) rfl (fun _ => rfl)) (ro_ixL' (atI_draw x xs .non hne)))
      intro s hs j e
      subst e
      simp at hs
      exact hs
    · have hp : 0 < l.length := List.length_pos_iff.mpr hne
      refine es_ret (ev_op (ev_var rfl) (ev_call1 (k := 0) (m := wl x) (m' := wl (drawW x l.length).2) (es := []) (ss := [.o 0, .d (.int (l.length : Nat))]) (ea_cons (ev_var rfl) (ea_cons (ev_cb (xs := [.str l]) (ea_cons (ev_var rfl) ea_nil) (rc_lenS' (by omega))) ea_nil)) rfl (fun z => nomatch z) ?_ ⟨x, _, ⟨by omega, log_short (by omega) (by omega)⟩, rfl, rfl, rfl, rfl⟩ (fun z => nomatch z) rfl (fun _ => rfl)) (ro_ixS' (by omega) (atI_draw x l 0 hne)))
      intro s hs j e
      subst e
      simp at hs
      exact hs
  · obtain ⟨x, rfl, h⟩ := h
    rcases h with ⟨xs, hne, hl, rfl, rfl, rfl⟩ | ⟨l, hne, hl, rfl, rfl, rfl⟩ <;> exact Nat.le_refl _
  · obtain ⟨x, rfl, h⟩ := h
    rcases h with ⟨xs, hne, hl, rfl, rfl, rfl⟩ | ⟨l, hne, hl, rfl, rfl, rfl⟩ <;> exact fun _ h => nomatch h
def R_well : List Sl → List MO → Sl → List MO → Prop := fun ss M r M' => ∃ (ns : List Int) (k : Nat), ss = [.d (.lst (ns.map .int)), .d (.int k)] ∧ M = [] ∧ r = .o 0 ∧ M' = [wl (wellW ns k)]
theorem cal_well {k : Nat} (D : Df K mg "_law_well" s__law_well ["_law_script", "_law_k"]) (m_int : mg "int" = none) (m_len : mg "len" = none) : Cal P w K mg base (k + 1) "_law_well" (SpR K 2 R_well) [] := by
  refine cal_mk D sc__law_well rfl fun f cdv A outer s H E hr ss M r M' h => ?_
  obtain ⟨ns, k, rfl, rfl, rfl, rfl⟩ := h
  refine ⟨_, [], (pss_cons (ps_asg (pe_ifExp (pt_cmpR op_lt (pv 1) (pe_callB call_len_seq (by rfl) m_len PySem.boot_len (pa_cons (pv 0) pa_nil)) (nomark _)) (pe_ix ix_list (pv 0) (pv 1) (fun _ _ => rfl)) (pe_op op_mul pe_int (pv 1))) (pg_name (i := 2) sc__law_well.nd rfl (by first | exact .inl rfl | exact .inr rfl))) (pss_one (ps_ret (pe_lst (pa_cons (pv 2) (pa_cons (pe_op op_mod (pe_callTy call_int1 (by rfl) m_int (by decide +kernel) (pa_cons (pv 2) pa_nil)) pe_int) (pa_cons pe_int pa_nil))))))), ?_, Nat.zero_le _, fun j h => by cases h; exact Nat.zero_lt_one⟩
  refine es_seq (es_asg (ev_isD (ev_iteI (et_test (ev_op (ev_var rfl) (ev_cb (xs := [.lst (ns.map .int)]) (ea_cons (ev_var rfl) ea_nil) rc_lenL) ro_lt)) (fun h => ev_isD (ev_op (ev_var rfl) (ev_var rfl) (ro_ixL (x := .int (ns.getD k (7919 * (k : Int)))) ?_)) rfl) (fun h => ev_op ev_int (ev_var rfl) (ro_mul (.inl (by decide))))) (show _ = Dt.int (ns.getD k (7919 * (k : Int))) from ?_))) ?_
  · have h : (k : Int) < ((ns.map Dt.int).length : Nat) := of_decide_eq_true h
    rw [List.length_map] at h
    have hk : k < ns.length := by omega
    rw [atI_nat (by rw [List.length_map]; exact hk), List.getElem_map, List.getD_eq_getElem?_getD, List.getElem?_eq_getElem hk] <;> rfl
  · congr 1
    split
    · rfl
    · rename_i h
      have h : ¬ (k : Int) < ((ns.map Dt.int).length : Nat) := by simpa using h
      rw [List.length_map] at h
      rw [List.getD_eq_getElem?_getD, List.getElem?_eq_none (by omega)] <;> rfl
  · exact es_ret (ev_lstO (xs := [_, _, _]) (ea_cons (ev_var rfl) (ea_cons (ev_op (ev_cb (xs := [.int (ns.getD k (7919 * (k : Int)))]) (ea_cons (ev_var rfl) ea_nil) rc_int1) ev_int (ro_mod (by decide))) (ea_cons ev_int ea_nil))) (show 3 ≤ 1000 by decide))
end
end T
namespace T
open PySem PySem.Spec PyProof.Rows L2 DJ LJ LamX
/-! ### the law: what a word is -/
abbrev s__law_content : Stmt := topS 42
abbrev N__law_content : List Str := ["_law_word", "_law_rest", "_law_at", "_law_power", "_law_figures", "_law_behind", "_law_turn", "_law_head", "_law_tail", "_law_number", "_law_scale", "_law_one_here"]
theorem sc__law_content : FnScope N__law_content ["_law_word"] (defScope s__law_content) := ⟨rfl, rfl, rfl, by decide +kernel, rfl, by decide +kernel, by decide +kernel⟩
abbrev PMS : List (List Nat) := [[43], [45]]
abbrev MARKS : List Nat := [43, 45, 46, 69, 101]
def cRest (w : List Nat) : List Nat := if w.take 1 ∈ PMS then w.drop 1 else w
def cAt (r : List Nat) : Int := if Txt.find (tx r) (tx [101]) > Txt.find (tx r) (tx [69]) then Txt.find (tx r) (tx [101]) else Txt.find (tx r) (tx [69])
def cHead (r : List Nat) : List Nat := if 0 ≤ cAt r then cutL r none (some (cAt r)) else r
def cTail (r : List Nat) : List Nat := if 0 ≤ cAt r then cutL r (some (cAt r + 1)) none else [48]
def cFig (h : List Nat) : List Nat := StrLaws.replL [46] [] h
def iv (l : List Nat) : Int := (PySem.intText? (tx l)).getD 0
def cBehind (h : List Nat) : Int := if sub [46] h = true then (h.length : Nat) - 1 - Txt.find (tx h) (tx [46]) else 0
def cTr (s : Int × Int) : Int × Int := if s.1 % 10 = 0 then (s.1 / 10, s.2 + 1) else s
def cTrI (s : Int × Int) : Nat → Int × Int
  | 0 => s
  | k + 1 => cTr (cTrI s k)
def cNum (w h t : List Nat) : List Nat × List Nat :=
  if iv (cFig h) = 0 then (tFloat, [48, 101, 48])
  else (tFloat, (((if w.take 1 = [45] then [45] else []) ++ intL (cTrI (iv (cFig h), iv t - cBehind h) (cFig h).length).1) ++ [101]) ++ intL (cTrI (iv (cFig h), iv t - cBehind h) (cFig h).length).2)
def cBad (h t : List Nat) : Bool := decide (cFig h = []) || (decide (cRest t = []) || decide (1 < Txt.count (tx h) (tx [46])))
def cMarks (h t : List Nat) : List Nat := (cFig h ++ cRest t).filter fun c => sub [c] MARKS
def cW (w : List Nat) : Option (List Nat × List Nat) :=
  if cBad (cHead (cRest w)) (cTail (cRest w)) = true then none
  else if cMarks (cHead (cRest w)) (cTail (cRest w)) ≠ [] then none
  else if (decide (cHead (cRest w) = cRest w) && !sub [46] (cHead (cRest w))) = true then some (tInt, intL (iv w))
  else some (cNum w (cHead (cRest w)) (cTail (cRest w)))
def oP (p : Option (List Nat × List Nat)) : Dt := match p with | none => .non | some q => keyD [q.1, q.2]
/-- what int() wants to know -/
structure CwOk (w : List Nat) : Prop where
  len : w.length ≤ 3
  fl : (cRest w).length ≤ 3 ∧ (cHead (cRest w)).length ≤ 3 ∧ (cTail (cRest w)).length ≤ 3 ∧ (cFig (cHead (cRest w))).length ≤ 3
  as : ∀ c ∈ cFig (cHead (cRest w)) ++ cRest (cTail (cRest w)), c < 128
  wh : cBad (cHead (cRest w)) (cTail (cRest w)) = false → cMarks (cHead (cRest w)) (cTail (cRest w)) = [] → (decide (cHead (cRest w) = cRest w) && !sub [46] (cHead (cRest w))) = true → PySem.intText? (tx w) = some (iv w) ∧ (iv w).natAbs < 10 ^ 10
  fg : cBad (cHead (cRest w)) (cTail (cRest w)) = false → cMarks (cHead (cRest w)) (cTail (cRest w)) = [] → (decide (cHead (cRest w) = cRest w) && !sub [46] (cHead (cRest w))) = false → PySem.intText? (tx (cFig (cHead (cRest w)))) = some (iv (cFig (cHead (cRest w)))) ∧ PySem.intText? (tx (cTail (cRest w))) = some (iv (cTail (cRest w))) ∧
    ∀ k, k ≤ 3 → (cTrI (iv (cFig (cHead (cRest w))), iv (cTail (cRest w)) - cBehind (cHead (cRest w))) k).1.natAbs < 10 ^ 10 ∧ (cTrI (iv (cFig (cHead (cRest w))), iv (cTail (cRest w)) - cBehind (cHead (cRest w))) k).2.natAbs < 10 ^ 10
theorem pl_chars : ∀ {l : List Nat}, (∀ c ∈ l, c < 128) → plDs (l.map fun c => Dt.str [c]) = true ∧ dpDs (l.map fun c => Dt.str [c]) ≤ 1
  | [], _ => ⟨rfl, Nat.zero_le _⟩
  | c :: l, h => by
    obtain ⟨h1, h2⟩ := pl_chars (l := l) fun x hx => h x (List.mem_cons_of_mem c hx)
    have hc := h c List.mem_cons_self
    refine ⟨?_, Nat.max_le.mpr ⟨show 0 ≤ 1 by decide, h2⟩⟩
    show (plD (.str [c]) && plDs (l.map fun c => Dt.str [c])) = true
    rw [h1, Bool.and_true]
    show (decide (c < 128) && true) = true
    rw [decide_eq_true hc] <;> rfl
theorem rest_len (w : List Nat) : (cRest w).length ≤ w.length := by
  unfold cRest
  split
  · rw [List.length_drop]; omega
  · exact Nat.le_refl _
section
variable {K : PySem.W.Frag} {G : List (Option Sl)} {M : List MO} {ta : TA} {g : TG} {tb : TS}
theorem es_rngl {Gn : Nat → List (Option Sl)} {Mn : Nat → List MO} {m : Int} (n : Nat) (h : EvA K ta G M [.d (.int m)] (Mn 0)) (hm : m = (n : Nat)) (hn : n ≤ 1000000) (h0 : Lg G (Gn 0))
    (turn : ∀ i, i < n → ∃ G1, EvG K g (Gn i) (.d (.int (i : Nat))) G1 ∧ EvS K tb G1 (Mn i) (.nx (Gn (i + 1)) (Mn (i + 1)))) : EvS K (tFor (iRng1 ta) g tb) G M (.nx (Gn n) (Mn n)) := by
  subst hm
  refine es_forNn (List.range n) n List.length_range (fun i => .int (i : Nat)) Gn Mn (ei_is (ei_rng1 h (by omega)) (List.map_congr_left fun i _ => by rw [Int.zero_add])) h0 fun i y hi hy => ?_
  obtain ⟨_, e⟩ := List.getElem?_eq_some_iff.mp hy
  rw [List.getElem_range] at e
  subst e
  exact turn i hi
end
section
variable {P : Program} {w : World} {K : PySem.W.Frag} {mg : Str → Option Value} {base : Heap}
def R_cw : List Sl → List MO → Sl → List MO → Prop := fun ss M r M' => ∃ l : List Nat, CwOk l ∧ ss = [.d (.str l)] ∧ M = [] ∧ r = .d (oP (cW l)) ∧ M' = []
theorem take_drop1 (l : List Nat) : cutL l none (some 1) = l.take 1 ∧ cutL l (some 1) none = l.drop 1 := ⟨cutL_to l 1, cutL_from l 1⟩
theorem cal_cw {k : Nat} (D : Df K mg "_law_content" s__law_content ["_law_word"]) (m_max : mg "max" = none) (m_len : mg "len" = none) (m_str : mg "str" = none) (m_int : mg "int" = none) (m_range : mg "range" = none) (dgk : DgK K) : Cal P w K mg base (k + 1) "_law_content" (SpR K 1 R_cw) [] := by
  refine cal_mkT D sc__law_content rfl (by decide +kernel) (by decide) fun f cdv A outer s H E hr ss M r M' h => ?_
  obtain ⟨l, hO, rfl, rfl, rfl, rfl⟩ := h
  refine ⟨_, [], (psst_cons (PST.of (ps_asg (pe_ifExp (pt_cmpR (show OpR _ (compareOp .In) (rIn K false) from op_in_seq) (pe_slice sl_str (pv 0) po_none (po_some pe_int)) (pe_tup (pa_cons pe_str (pa_cons pe_str pa_nil))) (by rfl)) (pe_slice sl_str (pv 0) (po_some pe_int) po_none) (pv 0)) (pg_name (i := 1) sc__law_content.nd rfl (by first | exact .inl rfl | exact .inr rfl)))) (psst_cons (PST.of (ps_asg (pe_callB (call_max2 rfl) (by rfl) m_max (by decide +kernel) (pa_cons (pe_m1 PySem.F.slot_str_find PySem.F.type_str_find mt_find (pv 1) pe_str) (pa_cons (pe_m1 PySem.F.slot_str_find PySem.F.type_str_find mt_find (pv 1) pe_str) pa_nil))) (pg_name (i := 2) sc__law_content.nd rfl (by first | exact .inl rfl | exact .inr rfl)))) (psst_cons (PST.of (ps_asg (pe_ifExp (pt_cmpR op_ge (pv 2) pe_int (nomark _)) (pe_tup (pa_cons (pe_slice sl_str (pv 1) po_none (po_some (pv 2))) (pa_cons (pe_slice sl_str (pv 1) (po_some (pe_op op_add (pv 2) pe_int)) po_none) pa_nil))) (pe_tup (pa_cons (pv 1) (pa_cons pe_str pa_nil)))) (pg_tup rfl (pgs_cons (pg_name (i := 7) sc__law_content.nd rfl (by first | exact .inl rfl | exact .inr rfl)) (pgs_cons (pg_name (i := 8) sc__law_content.nd rfl (by first | exact .inl rfl | exact .inr rfl)) pgs_nil))))) (psst_cons (PST.of (ps_asg (pe_ifExp (pt_cmpR (show OpR _ (compareOp .In) (rIn K false) from op_in_seq) (pe_slice sl_str (pv 8) po_none (po_some pe_int)) (pe_tup (pa_cons pe_str (pa_cons pe_str pa_nil))) (by rfl)) (pe_slice sl_str (pv 8) (po_some pe_int) po_none) (pv 8)) (pg_name (i := 3) sc__law_content.nd rfl (by first | exact .inl rfl | exact .inr rfl)))) (psst_cons (pst_asg (CwR.pet_replC (pv 7)) (pg_name (i := 4) sc__law_content.nd rfl (by first | exact .inl rfl | exact .inr rfl))) (PSsT.of (PSs.nox (pss_cons (ps_if (PW.pt (pw_or (pt_cmpR op_eq (pv 4) pe_str (nomark _)) (pw_or (pt_cmpR op_eq (pv 3) pe_str (nomark _)) (pw_or1 (pt_cmpR op_gt (pe_m1 PySem.F.slot_str_count PySem.F.type_str_count mt_count (pv 7) pe_str) pe_int (nomark _)))))) (pss_one (ps_ret pe_non)) pss_nil) (pss_cons (ps_if (pt_cmpR (op_neD (room64 hr)) (pe_lc (own := [("_law_one_here", 11)]) (g := (gName 11)) (by rfl) sc__law_content.nd (pi_str (pe_op op_add_str (pv 4) (pv 3))) (blkOk_by (own := [("_law_one_here", 11)]) (N := N__law_content) (sc := defScope s__law_content) (by decide +kernel)) (fun _ _ _ _ _ => pg_name (i := 11) sc__law_content.nd rfl (by first | exact .inl rfl | exact .inr rfl)) (fun _ _ _ _ _ => pts_one (pt_cmpR op_in_str (pv 11) pe_str (by rfl))) (fun _ _ _ _ _ => (pv 11))) (pe_lst pa_nil) (nomark _)) (pss_one (ps_ret pe_non)) pss_nil) (pss_cons (ps_if (PW.pt (pw_and (pt_cmpR op_eq (pv 7) (pv 1) (nomark _)) (pw_and1 (pt_cmpR op_notIn_str pe_str (pv 7) (by rfl))))) (pss_one (ps_ret (pe_tup (pa_cons pe_str (pa_cons (pe_callTy (call_str_long (by rfl) dgk) (by rfl) m_str (by decide +kernel) (pa_cons (pe_callTy call_int_str (by rfl) m_int (by decide +kernel) (pa_cons (pv 0) pa_nil)) pa_nil)) pa_nil))))) pss_nil) (pss_cons (ps_asg (pe_ifExp (pt_cmpR op_in_str pe_str (pv 7) (by rfl)) (pe_op op_sub (pe_op op_sub (pe_callB call_len_str (by rfl) m_len PySem.boot_len (pa_cons (pv 7) pa_nil)) pe_int) (pe_m1 PySem.F.slot_str_find PySem.F.type_str_find mt_find (pv 7) pe_str)) pe_int) (pg_name (i := 5) sc__law_content.nd rfl (by first | exact .inl rfl | exact .inr rfl))) (pss_cons (ps_par (i := 9) (j := 10) (by rfl) sc__law_content.nd rfl rfl (by decide) rfl rfl (pa_cons (pe_callTy call_int_str (by rfl) m_int (by decide +kernel) (pa_cons (pv 4) pa_nil)) (pa_cons (pe_op op_sub (pe_callTy call_int_str (by rfl) m_int (by decide +kernel) (pa_cons (pv 8) pa_nil)) (pv 5)) pa_nil)) (by rfl)) (pss_cons (ps_if (pt_cmpR op_eq (pv 9) pe_int (nomark _)) (pss_one (ps_ret (pe_tup (pa_cons pe_str (pa_cons pe_str pa_nil))))) pss_nil) (pss_cons (ps_for PassesOwn.never rfl (pi_range1 (by rfl) m_range (pa_cons (pe_callB call_len_str (by rfl) m_len PySem.boot_len (pa_cons (pv 4) pa_nil)) pa_nil)) (pg_name (i := 6) sc__law_content.nd rfl (by first | exact .inl rfl | exact .inr rfl)) (pss_one (ps_if (pt_cmpR op_eq (pe_op op_mod (pe_callTy call_int1 (by rfl) m_int (by decide +kernel) (pa_cons (pv 9) pa_nil)) pe_int) pe_int (nomark _)) (pss_one (ps_par (i := 9) (j := 10) (by rfl) sc__law_content.nd rfl rfl (by decide) rfl rfl (pa_cons (pe_op op_fdiv (pv 9) pe_int) (pa_cons (pe_op op_add (pv 10) pe_int) pa_nil)) (by rfl))) pss_nil))) (pss_one (ps_ret (pe_tup (pa_cons pe_str (pa_cons (pe_op op_add_str (pe_op op_add_str (pe_op op_add_str (pe_ifExp (pt_cmpR op_eq (pe_slice sl_str (pv 0) po_none (po_some pe_int)) pe_str (nomark _)) pe_str pe_str) (pe_callTy (call_str_long (by rfl) dgk) (by rfl) m_str (by decide +kernel) (pa_cons (pv 9) pa_nil))) pe_str) (pe_callTy (call_str_long (by rfl) dgk) (by rfl) m_str (by decide +kernel) (pa_cons (pv 10) pa_nil))) pa_nil))))))))))))))))))), ?_, Nat.le_refl _, fun _ h => nomatch h⟩
  have h0 := hO.len
  obtain ⟨f1, f2, f3, f4⟩ := hO.fl
  have pm : ∀ {G : List (Option Sl)} {i : Nat} {m : List Nat}, (∀ M, EvE K (tVar i) G M (.d (.str m)) M) → m.length ≤ 1000 → EvE K _ G [] (.d (.str (cRest m))) [] := fun {G i m} hv hm => ev_isD (ev_iteS (et_test (ev_op (ev_slS (hv []) eo_none (eo_some ev_int) (by omega)) (ev_tup (xs := PMS.map Dt.str) (ea_cons (ev_str _) (ea_cons (ev_str _) ea_nil)) (show 2 ≤ 1000 by decide)) ro_inT)) (fun _ => ev_slS (hv []) (eo_some ev_int) eo_none (by omega)) (fun _ => hv [])) (by
    rw [(take_drop1 m).1, (take_drop1 m).2]
    unfold cRest
    by_cases z : m.take 1 ∈ PMS
    · rw [if_pos z, if_pos (decide_eq_true z)]
    · rw [if_neg z, if_neg (by rw [decide_eq_false z]; exact Bool.false_ne_true)])
  refine es_seq (es_asg (s := .d (.str (cRest l))) (M1 := []) (pm (i := 0) (fun M => ev_var rfl) (by omega))) ?_
  refine es_nG (G' := [_, _, _, _, _, _, _, _, _, _, _, _]) rfl ?_
  generalize hr1 : cRest l = r at *
  refine es_seq (es_asg (s := .d (.int (cAt r))) (M1 := []) (ev_cb (xs := [.int (Txt.find (tx r) (tx [69])), .int (Txt.find (tx r) (tx [101]))]) (ea_cons (ev_m1 (ev_var rfl) (ev_str [69]) rm_find) (ea_cons (ev_m1 (ev_var rfl) (ev_str [101]) rm_find) ea_nil)) rc_max2)) ?_
  refine es_nG (G' := [_, _, _, _, _, _, _, _, _, _, _, _]) rfl ?_
  refine es_seq (es_asgG (s := .d (.tup [.str (cHead r), .str (cTail r)])) (M1 := []) (ev_if (et_test (ev_op (ev_var rfl) ev_int ro_ge)) (fun h => ev_isD (ev_tup (xs := [.str (cutL r none (some (cAt r))), .str (cutL r (some (cAt r + 1)) none)]) (ea_cons (ev_slS (ev_var rfl) eo_none (eo_some (ev_var rfl)) (by omega)) (ea_cons (ev_slS (ev_var rfl) (eo_some (ev_op (ev_var rfl) ev_int ro_add)) eo_none (by omega)) ea_nil)) (show 2 ≤ 1000 by decide)) (by unfold cHead cTail; rw [if_pos (of_decide_eq_true h), if_pos (of_decide_eq_true h)])) (fun h => ev_isD (ev_tup (xs := [.str r, .str [48]]) (ea_cons (ev_var rfl) (ea_cons (ev_str [48]) ea_nil)) (show 2 ≤ 1000 by decide)) (by unfold cHead cTail; rw [if_neg (of_decide_eq_false h), if_neg (of_decide_eq_false h)]))) (eg_tup (egs_cons eg_name (egs_cons eg_name egs_nil)) rfl)) ?_
  refine es_nG (G' := [_, _, _, _, _, _, _, _, _, _, _, _]) rfl ?_
  have hcW : cW l = if cBad (cHead r) (cTail r) = true then none else if cMarks (cHead r) (cTail r) ≠ [] then none else if (decide (cHead r = r) && !sub [46] (cHead r)) = true then some (tInt, intL (iv l)) else some (cNum l (cHead r) (cTail r)) := by unfold cW; rw [hr1]
  have hwh := hO.wh
  have hfg := hO.fg
  have has := hO.as
  rw [hr1] at hwh hfg has
  rw [hcW]
  generalize cHead r = h at *
  generalize cTail r = t at *
  have f5 := rest_len t
  refine es_seq (es_asg (s := .d (.str (cRest t))) (M1 := []) (pm (i := 8) (fun M => ev_var rfl) (by omega))) ?_
  refine es_nG (G' := [_, _, _, _, _, _, _, _, _, _, _, _]) rfl ?_
  refine es_seq (es_asg (s := .d (.str (cFig h))) (M1 := []) (ev_repl (y := [46]) (z := []) (ev_var rfl) rfl rfl (by decide) (by show _ + _ * 0 ≤ _; omega))) ?_
  refine es_nG (G' := [_, _, _, _, _, _, _, _, _, _, _, _]) rfl ?_
  refine es_guard (b := cBad h t) (et_or (b := decide (cFig h = [])) (c := decide (cRest t = []) || decide (1 < Txt.count (tx h) (tx [46]))) (et_test (ev_op (ev_var rfl) (ev_str []) ro_eqS)) (fun _ => et_or (b := decide (cRest t = [])) (c := decide (1 < Txt.count (tx h) (tx [46]))) (et_test (ev_op (ev_var rfl) (ev_str []) ro_eqS)) (fun _ => et_test (ev_op (ev_m1 (ev_var rfl) (ev_str [46]) rm_count) ev_int ro_gt)) (fun _ => rfl)) (fun _ => rfl)) (fun hb => es_retD ev_non (by rw [if_pos hb] <;> rfl)) (fun hb => ?_)
  rw [if_neg (by rw [hb]; exact Bool.false_ne_true)]
  have hwh := hwh hb
  have hfg := hfg hb
  refine es_guard (b := decide (cMarks h t ≠ [])) (et_is (et_test (ev_op (ev_lcF (cFig h ++ cRest t) (fun c => .str [c]) (fun c => .str [c]) (fun c => sub [c] MARKS) (ei_str (ev_op (ev_var rfl) (ev_var rfl) (ro_addS (by omega)))) (by rw [List.length_append]; omega) (hw_name (by decide)) fun c _ => ⟨_, eg_name, et_test (ev_op (ev_var rfl) (ev_str MARKS) ro_inS), fun _ => ev_var rfl⟩) (ev_lst (xs := []) ea_nil (by decide)) (ro_neDt ?_ rfl ?_ (by decide)))) ?_) (fun hm => es_retD ev_non (by rw [if_pos (of_decide_eq_true hm)] <;> rfl)) (fun hm => ?_)
  · exact (pl_chars fun c hc => has c (List.mem_filter.mp hc).1).1
  · have := (pl_chars (l := (cFig h ++ cRest t).filter fun c => sub [c] MARKS) fun c hc => has c (List.mem_filter.mp hc).1).2
    show dpDs _ + 1 ≤ 64
    omega
  · show (!eqD (.lst ((cMarks h t).map fun c => Dt.str [c])) (.lst [])) = _
    cases cMarks h t with
    | nil => rfl
    | cons c r => rfl
  have hm := of_decide_eq_false hm
  rw [if_neg hm]
  have hwh := hwh (Decidable.not_not.mp hm)
  have hfg := hfg (Decidable.not_not.mp hm)
  refine es_guard (b := decide (h = r) && !sub [46] h) (et_and (et_test (ev_op (ev_var rfl) (ev_var rfl) ro_eqS)) (fun _ => et_test (ev_op (ev_str [46]) (ev_var rfl) ro_ninS)) (fun _ => rfl)) (fun hi => ?_) (fun hi => ?_)
  · obtain ⟨w1, w2⟩ := hwh hi
    rw [if_pos hi]
    exact es_ret (ev_tupK (ks := [tInt, intL (iv l)]) (ea_cons (ev_str tInt) (ea_cons (ev_cb (xs := [.int (iv l)]) (ea_cons (ev_cb (xs := [.str l]) (ea_cons (ev_var rfl) ea_nil) (rc_intT w1 (by omega))) ea_nil) (rc_strL (Nat.lt_of_lt_of_le w2 (Nat.pow_le_pow_right (by decide) (by decide))))) ea_nil)) (show 2 ≤ 1000 by decide))
  rw [if_neg (by rw [hi]; exact Bool.false_ne_true)]
  obtain ⟨w1, w2, w3⟩ := hfg hi
  have hfl : ((h.length : Nat) : Int) = (h.length : Nat) := rfl
  refine es_seq (es_asg (s := .d (.int (cBehind h))) (M1 := []) (ev_iteI (et_test (ev_op (ev_str [46]) (ev_var rfl) ro_inS)) (fun _ => ev_op (ev_op (ev_cb (xs := [.str h]) (ea_cons (ev_var rfl) ea_nil) (rc_lenS (by omega))) ev_int ro_sub) (ev_m1 (ev_var rfl) (ev_str [46]) rm_find) ro_sub) (fun _ => ev_int))) ?_
  refine es_nG (G' := [_, _, _, _, _, _, _, _, _, _, _, _]) rfl ?_
  refine es_seq (es_par (x := .d (.int (iv (cFig h)))) (y := .d (.int (iv t - cBehind h))) (M1 := []) (ea_cons (ev_cb (xs := [.str (cFig h)]) (ea_cons (ev_var rfl) ea_nil) (rc_intT w1 (by omega))) (ea_cons (ev_op (ev_cb (xs := [.str t]) (ea_cons (ev_var rfl) ea_nil) (rc_intT w2 (by omega))) (ev_var rfl) ro_sub) ea_nil))) ?_
  refine es_nG (G' := [_, _, _, _, _, _, _, _, _, _, _, _]) rfl ?_
  unfold cNum
  refine es_guard (et_test (ev_op (ev_var rfl) ev_int ro_eqI)) (fun hz => es_retD (ev_tupK (ks := [tFloat, [48, 101, 48]]) (ea_cons (ev_str _) (ea_cons (ev_str _) ea_nil)) (show 2 ≤ 1000 by decide)) (by rw [if_pos (of_decide_eq_true hz)] <;> rfl)) (fun hz => ?_)
  rw [if_neg (of_decide_eq_false hz)]
  generalize hb2 : cBehind h = bh at *
  generalize hF : cFig h = F at *
  generalize iv F = n0 at *
  generalize iv t = t0 at *
  have w4 := w3 F.length f4
  refine es_seq (G1 := [some (.d (.str l)), some (.d (.str r)), some (.d (.int (cAt r))), some (.d (.str (cRest t))), some (.d (.str F)), some (.d (.int bh)), none, some (.d (.str h)), some (.d (.str t)), some (.d (.int (cTrI (n0, t0 - bh) F.length).1)), some (.d (.int (cTrI (n0, t0 - bh) F.length).2)), none]) (M1 := []) ?_ ?_
  · refine es_rngl F.length (m := (F.length : Nat)) (Gn := fun k => [some (.d (.str l)), some (.d (.str r)), some (.d (.int (cAt r))), some (.d (.str (cRest t))), some (.d (.str F)), some (.d (.int bh)), none, some (.d (.str h)), some (.d (.str t)), some (.d (.int (cTrI (n0, t0 - bh) k).1)), some (.d (.int (cTrI (n0, t0 - bh) k).2)), none]) (Mn := fun _ => []) (ea_cons (ev_cb (xs := [.str F]) (ea_cons (ev_var rfl) ea_nil) (rc_lenS (by omega))) ea_nil) rfl (by omega) (Lg.refl _) fun k hk => ⟨_, eg_name, ?_⟩
    have e : cTrI (n0, t0 - bh) (k + 1) = cTr (cTrI (n0, t0 - bh) k) := rfl
    rw [e]
    generalize cTrI (n0, t0 - bh) k = z
    unfold cTr
    by_cases hd : z.1 % 10 = 0
    · rw [if_pos hd]
      exact es_nxw (es_yes (et_test (ev_op (ev_op (ev_cb (xs := [.int z.1]) (ea_cons (ev_var rfl) ea_nil) rc_int1) ev_int (ro_mod (by decide))) ev_int ro_eqI)) (decide_eq_true hd) (es_par (x := .d (.int (z.1 / 10))) (y := .d (.int (z.2 + 1))) (M1 := []) (ea_cons (ev_op (ev_var rfl) ev_int (ro_fdiv ⟨by decide, by decide⟩)) (ea_cons (ev_op (ev_var rfl) ev_int ro_add) ea_nil)))) (lg_cons (lg_cons (lg_cons (lg_cons (lg_cons (lg_cons (lg_cons (lg_cons (lg_cons (lg_cons (lg_cons (lg_cons lg_nil (.inl rfl)) (.inl rfl)) (.inl rfl)) (.inl rfl)) (.inl rfl)) (.inr rfl)) (.inl rfl)) (.inl rfl)) (.inl rfl)) (.inl rfl)) (.inl rfl)) (.inl rfl))
    · rw [if_neg hd]
      exact es_nxw (es_no (et_test (ev_op (ev_op (ev_cb (xs := [.int z.1]) (ea_cons (ev_var rfl) ea_nil) rc_int1) ev_int (ro_mod (by decide))) ev_int ro_eqI)) (decide_eq_false hd) es_next) (lg_cons (lg_cons (lg_cons (lg_cons (lg_cons (lg_cons (lg_cons (lg_cons (lg_cons (lg_cons (lg_cons (lg_cons lg_nil (.inl rfl)) (.inl rfl)) (.inl rfl)) (.inl rfl)) (.inl rfl)) (.inr rfl)) (.inl rfl)) (.inl rfl)) (.inl rfl)) (.inl rfl)) (.inl rfl)) (.inl rfl))
  generalize cTrI (n0, t0 - bh) F.length = z at *
  have big : ∀ i : Int, i.natAbs < 10 ^ 10 → i.natAbs < 10 ^ 4300 ∧ (intL i).length ≤ 11 := fun i hi => ⟨Nat.lt_of_lt_of_le hi (Nat.pow_le_pow_right (by decide) (by decide)), by
    have := TL.numL_len (k := 10) (by decide) hi
    unfold intL
    split
    · rw [List.length_cons]; omega
    · omega⟩
  obtain ⟨b1, b2⟩ := big z.1 w4.1
  obtain ⟨b3, b4⟩ := big z.2 w4.2
  have hs : (if l.take 1 = [45] then ([45] : List Nat) else []).length ≤ 1 := by split <;> decide
  have lead : EvE K _ [some (.d (.str l)), some (.d (.str r)), some (.d (.int (cAt r))), some (.d (.str (cRest t))), some (.d (.str F)), some (.d (.int bh)), none, some (.d (.str h)), some (.d (.str t)), some (.d (.int z.1)), some (.d (.int z.2)), none] [] (.d (.str (if l.take 1 = [45] then [45] else []))) [] := ev_isD (ev_iteS (et_test (ev_op (ev_slS (ev_var (i := 0) rfl) eo_none (eo_some ev_int) (by omega)) (ev_str [45]) ro_eqS)) (fun _ => ev_str [45]) (fun _ => ev_str [])) (by rw [(take_drop1 l).1]; simp only [decide_eq_true_eq])
  generalize (if l.take 1 = [45] then ([45] : List Nat) else []) = sg at *
  exact es_retD (ev_tupK (ks := [tFloat, ((sg ++ intL z.1) ++ [101]) ++ intL z.2]) (ea_cons (ev_str tFloat) (ea_cons (ev_op (ev_op (ev_op lead (ev_cb (xs := [.int z.1]) (ea_cons (ev_var rfl) ea_nil) (rc_strL b1)) (ro_addS (by omega))) (ev_str [101]) (ro_addS (by rw [List.length_append]; show _ + 1 ≤ _; omega))) (ev_cb (xs := [.int z.2]) (ea_cons (ev_var rfl) ea_nil) (rc_strL b3)) (ro_addS (by rw [List.length_append, List.length_append]; show _ + 1 + _ ≤ _; omega))) ea_nil)) (show 2 ≤ 1000 by decide)) rfl
end
end T
namespace T
open PySem PySem.Spec PyProof.Rows L2 DJ LJ LamX
/-! ### the law: all words of at most three signs (by the kernel) -/
abbrev SGNS : List Nat := [43, 45, 46, 48, 49, 50, 51, 52, 53, 54, 55, 56, 57, 69, 101]
def longer (r : List (List Nat)) : List (List Nat) := r.flatMap fun w => SGNS.map fun c => w ++ [c]
def wordsK : Nat → List (List Nat)
  | 0 => [[]]
  | k + 1 => longer (wordsK k)
def someI (l : List Nat) : Bool := match PySem.intText? (tx l) with
  | some n => decide (n.natAbs < 10 ^ 9)
  | none => false
def chkW (w : List Nat) : Bool :=
  let r := cRest w
  let h := cHead r
  let t := cTail r
  decide (w.length ≤ 3) && (decide (r.length ≤ 3) && (decide (h.length ≤ 3) && (decide (t.length ≤ 3) && (decide ((cFig h).length ≤ 3) && ((cFig h ++ cRest t).all (fun c => decide (c < 128)) &&
    (cBad h t || (!decide (cMarks h t = []) || (if (decide (h = r) && !sub [46] h) = true then someI w else (someI (cFig h) && (someI t && ([0, 1, 2, 3].all fun k => decide ((cTrI (iv (cFig h), iv t - cBehind h) k).1.natAbs < 10 ^ 10) && decide ((cTrI (iv (cFig h), iv t - cBehind h) k).2.natAbs < 10 ^ 10)))))))))))) 
theorem chk1 : (wordsK 1).all chkW = true := by decide +kernel
theorem chk2 : (wordsK 2).all chkW = true := by decide +kernel
/-- the words of three signs, by the first one: the kernel takes no more memory than it must -/
def w3 (a : Nat) : List (List Nat) := SGNS.flatMap fun b => SGNS.map fun c => [a, b, c]
theorem w3_all {p : List Nat → Bool} (h : ∀ a ∈ SGNS, (w3 a).all p = true) : (wordsK 3).all p = true := by
  refine List.all_eq_true.mpr fun w hw => ?_
  obtain ⟨u, hu, hw⟩ := List.mem_flatMap.mp hw
  obtain ⟨c, hc, rfl⟩ := List.mem_map.mp hw
  obtain ⟨v, hv, hu⟩ := List.mem_flatMap.mp hu
  obtain ⟨b, hb, rfl⟩ := List.mem_map.mp hu
  obtain ⟨z, hz, hv⟩ := List.mem_flatMap.mp hv
  obtain ⟨a, ha, rfl⟩ := List.mem_map.mp hv
  rw [List.mem_singleton.mp hz]
  exact List.all_eq_true.mp (h a ha) _ (List.mem_flatMap.mpr ⟨b, hb, List.mem_map.mpr ⟨c, hc, rfl⟩⟩)
theorem chk_43 : (w3 43).all chkW = true := by decide +kernel
theorem chk_45 : (w3 45).all chkW = true := by decide +kernel
theorem chk_46 : (w3 46).all chkW = true := by decide +kernel
theorem chk_48 : (w3 48).all chkW = true := by decide +kernel
theorem chk_49 : (w3 49).all chkW = true := by decide +kernel
theorem chk_50 : (w3 50).all chkW = true := by decide +kernel
theorem chk_51 : (w3 51).all chkW = true := by decide +kernel
theorem chk_52 : (w3 52).all chkW = true := by decide +kernel
theorem chk_53 : (w3 53).all chkW = true := by decide +kernel
theorem chk_54 : (w3 54).all chkW = true := by decide +kernel
theorem chk_55 : (w3 55).all chkW = true := by decide +kernel
theorem chk_56 : (w3 56).all chkW = true := by decide +kernel
theorem chk_57 : (w3 57).all chkW = true := by decide +kernel
theorem chk_69 : (w3 69).all chkW = true := by decide +kernel
theorem chk_101 : (w3 101).all chkW = true := by decide +kernel
theorem chk3 : (wordsK 3).all chkW = true := w3_all (List.forall_mem_cons.mpr ⟨chk_43, (List.forall_mem_cons.mpr ⟨chk_45, (List.forall_mem_cons.mpr ⟨chk_46, (List.forall_mem_cons.mpr ⟨chk_48, (List.forall_mem_cons.mpr ⟨chk_49, (List.forall_mem_cons.mpr ⟨chk_50, (List.forall_mem_cons.mpr ⟨chk_51, (List.forall_mem_cons.mpr ⟨chk_52, (List.forall_mem_cons.mpr ⟨chk_53, (List.forall_mem_cons.mpr ⟨chk_54, (List.forall_mem_cons.mpr ⟨chk_55, (List.forall_mem_cons.mpr ⟨chk_56, (List.forall_mem_cons.mpr ⟨chk_57, (List.forall_mem_cons.mpr ⟨chk_69, (List.forall_mem_cons.mpr ⟨chk_101, (fun _ h => nomatch h)⟩)⟩)⟩)⟩)⟩)⟩)⟩)⟩)⟩)⟩)⟩)⟩)⟩)⟩)⟩)
end T
namespace T
open PySem PySem.Spec PyProof.Rows L2 DJ LJ LamX
/-! ### the law: each number's least word of at most three signs is the program's (by the kernel) -/
def digB (l : List Nat) : Bool := l.all fun c => decide (48 ≤ c) && decide (c ≤ 57)
def chkC (t c : List Nat) : Bool :=
  fitsS t c sCore && (decide (t.length ≤ 640) && (decide (c.length ≤ 100) && ((c.all fun x => decide (x < 128)) && (!(isOct c || isHex c) &&
    ((decide (t = tInt) && (pre [45] c || digB c)) ||
     (decide (t = tFloat) && ((decide ((figPow (c.drop (minusL c).length)).1 = [48]) || (!decide ((figPow (c.drop (minusL c).length)).1 = []) && (digB (figPow (c.drop (minusL c).length)).1 && decide ((figPow (c.drop (minusL c).length)).1.length ≤ 100)))) &&
      (decide ((figPow (c.drop (minusL c).length)).2.length ≤ 100) && (digB (if pre [45] (figPow (c.drop (minusL c).length)).2 = true then (figPow (c.drop (minusL c).length)).2.drop 1 else (figPow (c.drop (minusL c).length)).2) && decide ((sgI (figPow (c.drop (minusL c).length)).2).natAbs < 10 ^ 20)))))))))) 
def ltWb (u v : List Nat) : Bool := if u.length = v.length then decide (u < v) else decide (u.length < v.length)
def chkL (w : List Nat) : Bool := match cW w with
  | none => true
  | some k => match lwL k.1 k.2 with
    | none => false
    | some u => chkC k.1 k.2 && (decide (cW u = some k) && (!decide (u = []) && (decide (u.length ≤ 3) && ((u.all fun c => decide (c ∈ SGNS)) && !ltWb w u))))
theorem chl1 : (wordsK 1).all chkL = true := by decide +kernel
theorem chl2 : (wordsK 2).all chkL = true := by decide +kernel
end T
namespace T
open PySem PySem.Spec PyProof.Rows L2 DJ LJ LamX
/-! ### .. of three signs (by the kernel, first sign by first sign) -/
theorem chl_43 : (w3 43).all chkL = true := by decide +kernel
theorem chl_45 : (w3 45).all chkL = true := by decide +kernel
theorem chl_46 : (w3 46).all chkL = true := by decide +kernel
theorem chl_48 : (w3 48).all chkL = true := by decide +kernel
theorem chl_49 : (w3 49).all chkL = true := by decide +kernel
theorem chl_50 : (w3 50).all chkL = true := by decide +kernel
theorem chl_51 : (w3 51).all chkL = true := by decide +kernel
theorem chl_52 : (w3 52).all chkL = true := by decide +kernel
theorem chl_53 : (w3 53).all chkL = true := by decide +kernel
theorem chl_54 : (w3 54).all chkL = true := by decide +kernel
theorem chl_55 : (w3 55).all chkL = true := by decide +kernel
theorem chl_56 : (w3 56).all chkL = true := by decide +kernel
theorem chl_57 : (w3 57).all chkL = true := by decide +kernel
theorem chl_69 : (w3 69).all chkL = true := by decide +kernel
theorem chl_101 : (w3 101).all chkL = true := by decide +kernel
theorem chl3 : (wordsK 3).all chkL = true := w3_all (List.forall_mem_cons.mpr ⟨chl_43, (List.forall_mem_cons.mpr ⟨chl_45, (List.forall_mem_cons.mpr ⟨chl_46, (List.forall_mem_cons.mpr ⟨chl_48, (List.forall_mem_cons.mpr ⟨chl_49, (List.forall_mem_cons.mpr ⟨chl_50, (List.forall_mem_cons.mpr ⟨chl_51, (List.forall_mem_cons.mpr ⟨chl_52, (List.forall_mem_cons.mpr ⟨chl_53, (List.forall_mem_cons.mpr ⟨chl_54, (List.forall_mem_cons.mpr ⟨chl_55, (List.forall_mem_cons.mpr ⟨chl_56, (List.forall_mem_cons.mpr ⟨chl_57, (List.forall_mem_cons.mpr ⟨chl_69, (List.forall_mem_cons.mpr ⟨chl_101, (fun _ h => nomatch h)⟩)⟩)⟩)⟩)⟩)⟩)⟩)⟩)⟩)⟩)⟩)⟩)⟩)⟩)⟩)
end T
namespace T
open PySem PySem.Spec PyProof.Rows L2 DJ LJ LamX
/-! ### what the kernel has checked -/
theorem dig_b {l : List Nat} (h : digB l = true) : NumText.AllDigits l := fun d hd => by
  have := List.all_eq_true.mp h d hd
  rw [Bool.and_eq_true] at this
  exact ⟨of_decide_eq_true this.1, of_decide_eq_true this.2⟩
theorem co_of {t c : List Nat} (h : chkC t c = true) : CoOk t c := by
  unfold chkC at h
  simp only [Bool.and_eq_true, Bool.or_eq_true, decide_eq_true_eq, Bool.not_eq_true'] at h
  obtain ⟨h1, h2, h3, h4, h5, h6⟩ := h
  have asc : ∀ x ∈ c, x < 128 := fun x hx => of_decide_eq_true (List.all_eq_true.mp h4 x hx)
  have nb : t ≠ tNull ∧ t ≠ tBool := by
    rcases h6 with ⟨e, _⟩ | ⟨e, _⟩ <;> rw [e] <;> exact ⟨by decide, by decide⟩
  refine ⟨h1, h2, by omega, fun z => ?_, asc, fun z => ?_, fun z => ?_, fun z _ => ?_⟩
  · rw [h5] at z; cases z
  · rcases z with z | z
    · exact absurd z nb.1
    · exact absurd z nb.2
  · rcases h6 with ⟨_, h6⟩ | ⟨e, _⟩
    · refine ⟨by omega, fun hp => ?_, asc⟩
      rcases h6 with h6 | h6
      · rw [h6] at hp; cases hp
      · exact dig_b h6
    · rw [e] at z; exact absurd z (by decide)
  · rcases h6 with ⟨e, _⟩ | ⟨_, h6, h7, h8, h9⟩
    · rw [e] at z; exact absurd z (by decide)
    · refine ⟨by omega, ?_, ⟨by omega, dig_b h8⟩, Nat.lt_of_lt_of_le h9 (Nat.pow_le_pow_right (by decide) (by decide))⟩
      rcases h6 with h6 | ⟨h6, h10, h11⟩
      · exact .inl h6
      · exact .inr ⟨of_decide_eq_false h6, dig_b h10, by omega⟩
theorem lt_b (u v : List Nat) : ltWb u v = if ((u.length : Nat) : Int) = (v.length : Nat) then decide (u < v) else decide (((u.length : Nat) : Int) < (v.length : Nat)) := by
  unfold ltWb
  by_cases h : u.length = v.length
  · rw [if_pos h, if_pos (by omega)]
  · rw [if_neg h, if_neg (by omega)]
    exact decide_eq_decide.mpr (by omega)
theorem chk_ok {w : List Nat} (h : chkW w = true) : CwOk w := by
  unfold chkW at h
  simp only [Bool.and_eq_true, decide_eq_true_eq] at h
  obtain ⟨h1, h2, h3, h4, h5, h6, h7⟩ := h
  refine ⟨h1, ⟨h2, h3, h4, h5⟩, fun c hc => of_decide_eq_true (List.all_eq_true.mp h6 c hc), fun hb hm hi => ?_, fun hb hm hi => ?_⟩
  · rw [hb, hm] at h7
    simp only [Bool.false_or, decide_true, Bool.not_true] at h7
    rw [if_pos (by simpa using hi)] at h7
    unfold someI at h7
    unfold iv
    split at h7
    · rename_i n e
      rw [e]
      exact ⟨rfl, Nat.lt_of_lt_of_le (of_decide_eq_true h7) (by decide)⟩
    · cases h7
  · rw [hb, hm] at h7
    simp only [Bool.false_or, decide_true, Bool.not_true] at h7
    rw [if_neg (fun z => by rw [decide_eq_true z.1, z.2] at hi; cases hi)] at h7
    simp only [Bool.and_eq_true] at h7
    obtain ⟨a, b, c⟩ := h7
    have one : ∀ {l : List Nat}, someI l = true → PySem.intText? (tx l) = some (iv l) := fun {l} hl => by
      unfold someI at hl
      unfold iv
      split at hl
      · rename_i n e
        rw [e] <;> rfl
      · cases hl
    refine ⟨one a, one b, fun k hk => ?_⟩
    have hk : k ∈ [0, 1, 2, 3] := by
      simp only [List.mem_cons, List.not_mem_nil, or_false]
      omega
    have := List.all_eq_true.mp c k hk
    rw [Bool.and_eq_true] at this
    exact ⟨of_decide_eq_true this.1, of_decide_eq_true this.2⟩
end T
namespace T
open PySem PySem.Spec PyProof.Rows L2 DJ LJ LamX
/-! ### what is refused -/
abbrev s__law_is_refused : Stmt := topS 44
abbrev N__law_is_refused : List Str := ["_law_lead", "_law_text", "e"]
theorem sc__law_is_refused : FnScope N__law_is_refused ["_law_lead", "_law_text"] (defScope s__law_is_refused) := ⟨rfl, rfl, rfl, by decide +kernel, rfl, by decide +kernel, by decide +kernel⟩
section
variable {P : Program} {w : World} {K : PySem.W.Frag} {mg : Str → Option Value} {base : Heap} {B : Addr}
inductive NoS : Dt → Prop where
  | int (i : Int) : NoS (.int i)
  | non : NoS .non
/-- tags and contents that no scalar has -/
inductive WrS : Dt → Dt → Prop where
  | fit (t v : List Nat) (ht : t.length ≤ 640) (hv : v.length ≤ 640) (hf : fitsS t v sCore = false) : WrS (.str t) (.str v)
  | nos (t : List Nat) (y : Dt) (ht : t.length ≤ 640) (h1 : isTagL t = true) (h2 : mayO tScalar (some t) sCore = true) (hy : NoS y) : WrS (.str t) y
  | tag (y : Dt) : WrS .non y
def R_isN : List Sl → List MO → Sl → List MO → Prop := fun ss M r M' => ss = [.d .non] ∧ M = [] ∧ r = .d (.bl false) ∧ M' = []
theorem cal_isN {k : Nat} (D : Df K mg "is_tag" s_is_tag ["thing"]) (c_TAG_SIGNS : Gc K mg "TAG_SIGNS" (.str TAGSG)) (f_is_all : Cal P w K mg base 1 "is_all" (SpR K 2 R_is_all) []) (m_isinstance : mg "isinstance" = none) (m_str : mg "str" = none) : Cal P w K mg base 2 "is_tag" (SpR K 1 R_isN) [] := by
  obtain ⟨v_TAG_SIGNS, u_TAG_SIGNS, hm_TAG_SIGNS, hr_TAG_SIGNS, hd_TAG_SIGNS⟩ := c_TAG_SIGNS.ex
  refine cal_mk (k := 1) D sc_is_tag rfl fun f cdv A outer s H E hr ss M r M' h => ?_
  obtain ⟨rfl, rfl, rfl, rfl⟩ := h
  refine ⟨_, [], (pss_cons (ps_if (PW.pt (pw_or (pt_not (pt_val (pe_callB call_isi (by rfl) m_isinstance (by decide +kernel) (pa_cons (pv 0) (pa_cons (pe_bltn (v := .ty "str") (u := .type "str") (by rfl) m_str (by decide +kernel) rfl) pa_nil))))) (pw_or1 (pt_not (pt_val (pe_m1 PySem.F.slot_str_startswith PySem.F.type_str_startswith mt_startswith (pv 0) pe_str)))))) (pss_one (ps_ret pe_bl)) pss_nil) (pss_cons (ps_asg (pe_ifExp (pt_val (pe_m1 PySem.F.slot_str_startswith PySem.F.type_str_startswith mt_startswith (pv 0) pe_str)) (pe_slice sl_str (pv 0) (po_some pe_int) po_none) (pe_slice sl_str (pv 0) (po_some pe_int) po_none)) (pg_name (i := 1) sc_is_tag.nd rfl (by first | exact .inl rfl | exact .inr rfl))) (pss_one (ps_ret (pe_c f_is_all hr (by omega) (by rfl) (pa_cons (pv 1) (pa_cons (pe_glob (by rfl) hm_TAG_SIGNS hr_TAG_SIGNS) pa_nil))))))), ?_, Nat.le_refl _, fun _ h => nomatch h⟩
  exact es_seqR (es_yes (et_is (et_or (b := true) (c := false) (et_is (et_not (et_B (ev_cb (xs := [.non, tyStr]) (ea_cons (ev_var rfl) (ea_cons ev_strTy ea_nil)) (rc_isStr .non)))) rfl) (fun z => nomatch z) (fun _ => rfl)) rfl) rfl (es_ret ev_bl))
def R_fitsW : List Sl → List MO → Sl → List MO → Prop := fun ss M r M' => ∃ t y : Dt, ss = [.d (.str tScalar), .d t, .d y, .d (.str sCore)] ∧ M = [] ∧ r = .d (.bl false) ∧ M' = [] ∧ ((∃ l, t = .str l ∧ l.length ≤ 640 ∧ isTagL l = true ∧ mayO tScalar (some l) sCore = true ∧ NoS y) ∨ t = .non)
theorem cal_fitsN (D : Df K mg "tag_fits" s_tag_fits ["kind", "tag", "content", "schema"]) (f_check_schema : Cal P w K mg base 1 "check_schema" (SpR K 1 R_check) []) (i_is_tag : Cal P w K mg base 2 "is_tag" (SpR K 1 R_is_tag) []) (n_is_tag : Cal P w K mg base 2 "is_tag" (SpR K 1 R_isN) []) (f_may_have : Cal P w K mg base 1 "may_have" (SpR K 3 R_may) []) (f_canonical : Cal P w K mg base 3 "canonical" (SpR K 2 R_canonical) [])
    (m_isinstance : mg "isinstance" = none) (m_str : mg "str" = none) : Cal P w K mg base 4 "tag_fits" (SpR K 4 R_fitsW) [] := by
  refine cal_mk (k := 3) D sc_tag_fits rfl fun f cdv A outer s' H E hr ss M r M' h => ?_
  obtain ⟨t, y, rfl, rfl, rfl, rfl, hc⟩ := h
  rcases hc with ⟨t, rfl, ht, e1, e2, hy⟩ | rfl
  · have f_is_tag := i_is_tag
    refine ⟨_, [], (pss_cons (ps_expr (pe_c f_check_schema hr (by omega) (by rfl) (pa_cons (pv 3) pa_nil))) (pss_cons (ps_if (PW.pt (pw_or (pt_not (pt_val (pe_c f_is_tag hr (by omega) (by rfl) (pa_cons (pv 1) pa_nil)))) (pw_or1 (pt_not (pt_val (pe_c f_may_have hr (by omega) (by rfl) (pa_cons (pv 0) (pa_cons (pv 1) (pa_cons (pv 3) pa_nil))))))))) (pss_one (ps_ret pe_bl)) pss_nil) (pss_cons (ps_if (pt_cmpR op_ne (pv 0) pe_str (nomark _)) (pss_one (ps_ret pe_bl)) pss_nil) (pss_one (ps_ret (pe_and (pe_callB call_isi (by rfl) m_isinstance (by decide +kernel) (pa_cons (pv 2) (pa_cons (pe_bltn (v := .ty "str") (u := .type "str") (by rfl) m_str (by decide +kernel) rfl) pa_nil))) (pe_one (pe_or (pe_cmpR op_eq (pv 3) pe_str (nomark _)) (pe_one (pe_cmpR op_eq (pe_c f_canonical hr (by omega) (by rfl) (pa_cons (pv 1) (pa_cons (pv 2) pa_nil))) (pv 2) (nomark _))))))))))), ?_, Nat.le_refl _, fun _ h => nomatch h⟩
    refine es_seq (es_drop (ev_call0 (ds := [.str sCore]) (es := []) (z := .non) (ea_cons (ev_var rfl) ea_nil) ⟨sCore, by decide, rfl, rfl, rfl, rfl⟩ rfl (fun _ => rfl))) ?_
    refine es_pass (et_is (et_or (b := !isTagL t) (c := !mayO tScalar (some t) sCore) (et_not (et_B (ev_call0 (ds := [.str t]) (es := []) (z := .bl (isTagL t)) (ea_cons (ev_var rfl) ea_nil) ⟨t, by omega, rfl, rfl, rfl, rfl⟩ rfl (fun _ => rfl)))) (fun _ => et_not (et_B (ev_call0 (ds := [.str tScalar, oS (some t), .str sCore]) (es := []) (z := .bl (mayO tScalar (some t) sCore)) (ea_cons (ev_var rfl) (ea_cons (ev_var rfl) (ea_cons (ev_var rfl) ea_nil))) ⟨tScalar, some t, sCore, rfl, rfl, rfl, rfl⟩ rfl (fun _ => rfl)))) (fun _ => rfl)) (by rw [e1, e2] <;> rfl)) ?_
    refine es_pass (et_is (et_test (ev_op (ev_var rfl) (ev_str tScalar) ro_neS)) rfl) ?_
    cases hy with
    | int i => exact es_ret (ev_isD (ev_andV (a := false) (c := false) (ev_cb (xs := [.int i, tyStr]) (ea_cons (ev_var rfl) (ea_cons ev_strTy ea_nil)) (rc_isStr (.int i))) (fun z => nomatch z) (fun _ => rfl)) rfl)
    | non => exact es_ret (ev_isD (ev_andV (a := false) (c := false) (ev_cb (xs := [.non, tyStr]) (ea_cons (ev_var rfl) (ea_cons ev_strTy ea_nil)) (rc_isStr .non)) (fun z => nomatch z) (fun _ => rfl)) rfl)
  · have f_is_tag := n_is_tag
    refine ⟨_, [], (pss_cons (ps_expr (pe_c f_check_schema hr (by omega) (by rfl) (pa_cons (pv 3) pa_nil))) (pss_cons (ps_if (PW.pt (pw_or (pt_not (pt_val (pe_c f_is_tag hr (by omega) (by rfl) (pa_cons (pv 1) pa_nil)))) (pw_or1 (pt_not (pt_val (pe_c f_may_have hr (by omega) (by rfl) (pa_cons (pv 0) (pa_cons (pv 1) (pa_cons (pv 3) pa_nil))))))))) (pss_one (ps_ret pe_bl)) pss_nil) (pss_cons (ps_if (pt_cmpR op_ne (pv 0) pe_str (nomark _)) (pss_one (ps_ret pe_bl)) pss_nil) (pss_one (ps_ret (pe_and (pe_callB call_isi (by rfl) m_isinstance (by decide +kernel) (pa_cons (pv 2) (pa_cons (pe_bltn (v := .ty "str") (u := .type "str") (by rfl) m_str (by decide +kernel) rfl) pa_nil))) (pe_one (pe_or (pe_cmpR op_eq (pv 3) pe_str (nomark _)) (pe_one (pe_cmpR op_eq (pe_c f_canonical hr (by omega) (by rfl) (pa_cons (pv 1) (pa_cons (pv 2) pa_nil))) (pv 2) (nomark _))))))))))), ?_, Nat.le_refl _, fun _ h => nomatch h⟩
    refine es_seq (es_drop (ev_call0 (ds := [.str sCore]) (es := []) (z := .non) (ea_cons (ev_var rfl) ea_nil) ⟨sCore, by decide, rfl, rfl, rfl, rfl⟩ rfl (fun _ => rfl))) ?_
    exact es_seqR (es_yes (et_is (et_or (b := true) (c := false) (et_is (et_not (et_B (ev_call0 (ds := [.non]) (es := []) (z := .bl false) (ea_cons (ev_var rfl) ea_nil) ⟨rfl, rfl, rfl, rfl⟩ rfl (fun _ => rfl)))) rfl) (fun z => nomatch z) (fun _ => rfl)) rfl) rfl (es_ret ev_bl))
def X_lw (B : Addr) : List Sl → List MO → Ex → List MO → Prop := fun ss M x M' => ∃ t y : Dt, WrS t y ∧ ss = [.d t, .d y] ∧ M = [] ∧ x = ⟨.ref B, some ("place", .int 0)⟩ ∧ M' = []
end
section
variable {P : Program} {w : World} {K : PySem.W.Frag} {mg : Str → Option Value} {base : Heap} {B : Addr}
theorem cal_lwX {dF : Addr} {esF : Array DictEntry} {nF : Nat} (D : Df K mg "least_word" s_least_word ["tag", "content"]) (c_FIXED_WORDS : Gc K mg "FIXED_WORDS" (.raw (.ref dF))) (tF : TDict K w dF FIXK esF nF) (T_BadTag : Xi P w K mg base "BadTag" "place" B) (i_fits : Cal P w K mg base 4 "tag_fits" (SpR K 4 R_fits) []) (n_fits : Cal P w K mg base 4 "tag_fits" (SpR K 4 R_fitsW) []) (f_word_tag : Cal P w K mg base 4 "word_tag" (SpR K 1 R_word_tag) []) (f_least_of : Cal P w K mg base 1 "least_of" (SpR K 1 R_lof) []) (f_whole_words : Cal P w K mg base 2 "whole_words" (SpR K 1 R_ww) []) (f_float_words : Cal P w K mg base 4 "float_words" (SpR K 1 R_fw) []) : CalX P w K mg base 5 "least_word" (SpX K 2 (fun _ _ _ _ => False) (X_lw B)) [] := by
  obtain ⟨v_FIXED_WORDS, u_FIXED_WORDS, hm_FIXED_WORDS, hr_FIXED_WORDS, hd_FIXED_WORDS⟩ := c_FIXED_WORDS.ex
  have kd_FIXED_WORDS := tF.kd
  refine cal_mkX (k := 4) D sc_least_word rfl fun f cdv A outer s H E hr tk po => ⟨fun ss M r M' h => h.elim, fun ss M x M' h => ?_⟩
  obtain ⟨t, y, hc, rfl, rfl, rfl, rfl⟩ := h
  cases hc with
  | fit t v ht hv hf =>
    have f_tag_fits := i_fits
    refine ⟨_, [], List.replicate 2 none, (pss_cons (ps_if (pt_not (pt_val (pe_c f_tag_fits hr (by omega) (by rfl) (pa_cons pe_str (pa_cons (pv 0) (pa_cons (pv 1) (pa_cons pe_str pa_nil))))))) (pss_one (ps_raiseI rfl tk T_BadTag hr (by omega) (by rfl) (pa_cons pe_int pa_nil))) pss_nil) (pss_cons (ps_if (pt_cmpR op_eq (pv 0) pe_str (nomark _)) (pss_one (ps_ret (pe_ifExp (pt_cmpR op_eq (pe_c f_word_tag hr (by omega) (by rfl) (pa_cons (pv 1) pa_nil)) pe_str (nomark _)) (pv 1) pe_non))) pss_nil) (pss_cons (ps_if (PW.pt (pw_or (pt_cmpR (show OpR _ (compareOp .In) (rIn K false) from op_in_seq) (pv 0) (pe_tup (pa_cons pe_str (pa_cons pe_str pa_nil))) (by rfl)) (pw_or1 (PW.pt (pw_and (pt_cmpR op_eq (pv 0) pe_str (nomark _)) (pw_and1 (pt_cmpR (op_in_kd kd_FIXED_WORDS) (pv 1) (pe_glob (by rfl) hm_FIXED_WORDS hr_FIXED_WORDS) (by rfl)))))))) (pss_one (ps_ret (pe_ix ix_kdict (pe_glob (by rfl) hm_FIXED_WORDS hr_FIXED_WORDS) (pv 1) (fun _ _ => rfl)))) pss_nil) (pss_cons (ps_if (pt_cmpR op_eq (pv 0) pe_str (nomark _)) (pss_one (ps_ret (pe_c f_least_of hr (by omega) (by rfl) (pa_cons (pe_c f_whole_words hr (by omega) (by rfl) (pa_cons (pv 1) pa_nil)) pa_nil)))) pss_nil) (pss_one (ps_ret (pe_ifExp (pt_cmpR op_eq (pv 0) pe_str (nomark _)) (pe_c f_least_of hr (by omega) (by rfl) (pa_cons (pe_c f_float_words hr (by omega) (by rfl) (pa_cons (pv 1) pa_nil)) pa_nil)) pe_non))))))), ?_, Nat.le_refl _⟩
    exact er_seq1 (er_if (b := true) (M1 := []) (et_is (et_not (et_B (ev_call0 (ds := [.str tScalar, .str t, .str v, .str sCore]) (es := []) (z := .bl (fitsS t v sCore)) (ea_cons (ev_str _) (ea_cons (ev_var rfl) (ea_cons (ev_var rfl) (ea_cons (ev_str _) ea_nil)))) ⟨t, v, sCore, ht, by omega, fun _ => by omega, by decide, rfl, rfl, rfl, rfl⟩ rfl (fun _ => rfl)))) (by rw [hf] <;> rfl)) (fun _ => er_weak (er_raiseI T_BadTag.ox T_BadTag.no (ea_cons ev_int ea_nil)) (lg_none rfl)) (fun z => nomatch z))
  | nos t y ht h1 h2 hy =>
    have f_tag_fits := n_fits
    refine ⟨_, [], List.replicate 2 none, (pss_cons (ps_if (pt_not (pt_val (pe_c f_tag_fits hr (by omega) (by rfl) (pa_cons pe_str (pa_cons (pv 0) (pa_cons (pv 1) (pa_cons pe_str pa_nil))))))) (pss_one (ps_raiseI rfl tk T_BadTag hr (by omega) (by rfl) (pa_cons pe_int pa_nil))) pss_nil) (pss_cons (ps_if (pt_cmpR op_eq (pv 0) pe_str (nomark _)) (pss_one (ps_ret (pe_ifExp (pt_cmpR op_eq (pe_c f_word_tag hr (by omega) (by rfl) (pa_cons (pv 1) pa_nil)) pe_str (nomark _)) (pv 1) pe_non))) pss_nil) (pss_cons (ps_if (PW.pt (pw_or (pt_cmpR (show OpR _ (compareOp .In) (rIn K false) from op_in_seq) (pv 0) (pe_tup (pa_cons pe_str (pa_cons pe_str pa_nil))) (by rfl)) (pw_or1 (PW.pt (pw_and (pt_cmpR op_eq (pv 0) pe_str (nomark _)) (pw_and1 (pt_cmpR (op_in_kd kd_FIXED_WORDS) (pv 1) (pe_glob (by rfl) hm_FIXED_WORDS hr_FIXED_WORDS) (by rfl)))))))) (pss_one (ps_ret (pe_ix ix_kdict (pe_glob (by rfl) hm_FIXED_WORDS hr_FIXED_WORDS) (pv 1) (fun _ _ => rfl)))) pss_nil) (pss_cons (ps_if (pt_cmpR op_eq (pv 0) pe_str (nomark _)) (pss_one (ps_ret (pe_c f_least_of hr (by omega) (by rfl) (pa_cons (pe_c f_whole_words hr (by omega) (by rfl) (pa_cons (pv 1) pa_nil)) pa_nil)))) pss_nil) (pss_one (ps_ret (pe_ifExp (pt_cmpR op_eq (pv 0) pe_str (nomark _)) (pe_c f_least_of hr (by omega) (by rfl) (pa_cons (pe_c f_float_words hr (by omega) (by rfl) (pa_cons (pv 1) pa_nil)) pa_nil)) pe_non))))))), ?_, Nat.le_refl _⟩
    exact er_seq1 (er_if (b := true) (M1 := []) (et_is (et_not (et_B (ev_call0 (ds := [.str tScalar, .str t, y, .str sCore]) (es := []) (z := .bl false) (ea_cons (ev_str _) (ea_cons (ev_var rfl) (ea_cons (ev_var rfl) (ea_cons (ev_str _) ea_nil)))) ⟨.str t, y, rfl, rfl, rfl, rfl, .inl ⟨t, rfl, ht, h1, h2, hy⟩⟩ rfl (fun _ => rfl)))) rfl) (fun _ => er_weak (er_raiseI T_BadTag.ox T_BadTag.no (ea_cons ev_int ea_nil)) (lg_none rfl)) (fun z => nomatch z))
  | tag y =>
    have f_tag_fits := n_fits
    refine ⟨_, [], List.replicate 2 none, (pss_cons (ps_if (pt_not (pt_val (pe_c f_tag_fits hr (by omega) (by rfl) (pa_cons pe_str (pa_cons (pv 0) (pa_cons (pv 1) (pa_cons pe_str pa_nil))))))) (pss_one (ps_raiseI rfl tk T_BadTag hr (by omega) (by rfl) (pa_cons pe_int pa_nil))) pss_nil) (pss_cons (ps_if (pt_cmpR op_eq (pv 0) pe_str (nomark _)) (pss_one (ps_ret (pe_ifExp (pt_cmpR op_eq (pe_c f_word_tag hr (by omega) (by rfl) (pa_cons (pv 1) pa_nil)) pe_str (nomark _)) (pv 1) pe_non))) pss_nil) (pss_cons (ps_if (PW.pt (pw_or (pt_cmpR (show OpR _ (compareOp .In) (rIn K false) from op_in_seq) (pv 0) (pe_tup (pa_cons pe_str (pa_cons pe_str pa_nil))) (by rfl)) (pw_or1 (PW.pt (pw_and (pt_cmpR op_eq (pv 0) pe_str (nomark _)) (pw_and1 (pt_cmpR (op_in_kd kd_FIXED_WORDS) (pv 1) (pe_glob (by rfl) hm_FIXED_WORDS hr_FIXED_WORDS) (by rfl)))))))) (pss_one (ps_ret (pe_ix ix_kdict (pe_glob (by rfl) hm_FIXED_WORDS hr_FIXED_WORDS) (pv 1) (fun _ _ => rfl)))) pss_nil) (pss_cons (ps_if (pt_cmpR op_eq (pv 0) pe_str (nomark _)) (pss_one (ps_ret (pe_c f_least_of hr (by omega) (by rfl) (pa_cons (pe_c f_whole_words hr (by omega) (by rfl) (pa_cons (pv 1) pa_nil)) pa_nil)))) pss_nil) (pss_one (ps_ret (pe_ifExp (pt_cmpR op_eq (pv 0) pe_str (nomark _)) (pe_c f_least_of hr (by omega) (by rfl) (pa_cons (pe_c f_float_words hr (by omega) (by rfl) (pa_cons (pv 1) pa_nil)) pa_nil)) pe_non))))))), ?_, Nat.le_refl _⟩
    exact er_seq1 (er_if (b := true) (M1 := []) (et_is (et_not (et_B (ev_call0 (ds := [.str tScalar, .non, y, .str sCore]) (es := []) (z := .bl false) (ea_cons (ev_str _) (ea_cons (ev_var rfl) (ea_cons (ev_var rfl) (ea_cons (ev_str _) ea_nil)))) ⟨.non, y, rfl, rfl, rfl, rfl, .inr rfl⟩ rfl (fun _ => rfl)))) rfl) (fun _ => er_weak (er_raiseI T_BadTag.ox T_BadTag.no (ea_cons ev_int ea_nil)) (lg_none rfl)) (fun z => nomatch z))
end
end T
namespace T
open PySem PySem.Spec PyProof.Rows L2 DJ LJ LamX
/-! ### what is refused, told -/
section
variable {P : Program} {w : World} {K : PySem.W.Frag} {mg : Str → Option Value} {base : Heap} {B : Addr}
def R_ref : List Sl → List MO → Sl → List MO → Prop := fun ss M r M' => ∃ t y : Dt, WrS t y ∧ ss = [.d t, .d y] ∧ M = [] ∧ r = .d (.bl true) ∧ M' = []
theorem es_rt1 {G : List (Option Sl)} {M M1 : List MO} {t u : TS} {r : Sl} (h : EvS K t G M (.rt r M1)) : EvS K (L2.tSeq t u) G M (.rt r M1) := fun F B as σ H ow sl D gd => h F B as σ H ow sl _ gd
theorem cal_ref (D : Df K mg "_law_is_refused" s__law_is_refused ["_law_lead", "_law_text"]) (T_BadTag : Xi P w K mg base "BadTag" "place" B) (x_least_word : CalX P w K mg base 5 "least_word" (SpX K 2 (fun _ _ _ _ => False) (X_lw B)) []) : Cal P w K mg base 6 "_law_is_refused" (SpR K 2 R_ref) [] := by
  refine cal_mk (k := 5) D sc__law_is_refused rfl fun f cdv A outer s H E hr ss M r M' h => ?_
  obtain ⟨t, y, hc, rfl, rfl, rfl, rfl⟩ := h
  refine ⟨_, [], pss_cons (ps_try_as (i := 2) (c := .ref B) (Wout := fun _ _ _ _ => False) (tb := fun W => tDrop (tCallSD (SpX K 2 (fun _ _ _ _ => False) (X_lw B)) [] (WE W) (tCons (tVar 0) (tCons (tVar 1) tNil)))) (ts := fun a cls d => tRet (tOp rEq (tXf a cls d B "place" (tVar 2)) (tC (.int 0))))
    rfl rfl sc__law_is_refused.nd rfl rfl ⟨rfl, by decide, .inl T_BadTag.gC⟩ L2.takes0 (fun W pn xe tk _ => pss_one (ps_expr (pe_cX x_least_word tk hr (by omega) (by rfl) (pa_cons (pv 0) (pa_cons (pv 1) pa_nil)))))
    (fun a oe cls d pn hz hf => pss_one (ps_ret (pe_cmpR op_eq (pe_xf T_BadTag.xf T_BadTag.no hz hf (pv 2)) pe_int (nomark _))))) (pss_one (ps_ret pe_bl)), ?_, Nat.le_refl _, fun _ h => nomatch h⟩
  refine es_rt1 (es_tryAX (f := "place") (y := .int 0) (C := .ref B) (fun W => er_drop (ex_callX (ds := [t, y]) (es := []) (ea_cons (ev_var rfl) (ea_cons (ev_var rfl) ea_nil)) ⟨t, y, hc, rfl, rfl, rfl, rfl⟩ rfl (fun _ => rfl))) T_BadTag.te fun a dd => ?_)
  exact es_ret (ev_op (ev_xf (ev_var rfl)) ev_int ro_eqI)
end
end T
namespace T
open PySem PySem.Spec PyProof.Rows L2 DJ LJ LamX
theorem draw_nat (x : Wl) (n : Nat) (h : 0 < n) : (drawW x n).1.toNat < n := by
  obtain ⟨h1, h2⟩ := draw_lt x (n := n) (by omega)
  omega
/-! ### what is an integer's text, and what is none -/
theorem all_iff {l s : List Nat} : isAllL l s = true ↔ l ≠ [] ∧ ∀ c ∈ l, c ∈ s := by
  refine ⟨all_in, fun ⟨h1, h2⟩ => ?_⟩
  unfold isAllL
  rw [decide_eq_false h1, Bool.not_false, Bool.true_and, List.all_map, List.all_eq_true]
  intro c hc
  show sub [c] s = true
  rw [sub_one]
  exact decide_eq_true (h2 c hc)
theorem all_no {l s : List Nat} (h : l = [] ∨ ∃ c ∈ l, c ∉ s) : isAllL l s = false := by
  cases e : isAllL l s with
  | false => rfl
  | true =>
    obtain ⟨h1, h2⟩ := all_in e
    rcases h with h | ⟨c, hc, hn⟩
    · exact absurd h h1
    · exact absurd (h2 c hc) hn
theorem pre_one (a : Nat) (l : List Nat) : pre [a] l = decide (l[0]? = some a) := by
  cases l with
  | nil => rfl
  | cons c l =>
    show ([c] == [a]) = _
    by_cases h : c = a
    · subst h; simp
    · simp [h]
theorem uns_is (l : List Nat) : unsignedL l = if l[0]? = some 43 ∨ l[0]? = some 45 then l.drop 1 else l := by
  unfold unsignedL
  rw [pre_one, pre_one, show cutL l (some 1) none = l.drop 1 from cutL_from l 1]
  by_cases h : l[0]? = some 43 <;> by_cases h2 : l[0]? = some 45 <;> simp [h, h2]
theorem pre2 {a b : Nat} {l : List Nat} (h : l[1]? ≠ some b) : pre [a, b] l = false := by
  match l, h with
  | [], _ => rfl
  | [x], _ =>
    show ([x] == [a, b]) = false
    simp
  | x :: y :: r, h =>
    have h : y ≠ b := by simpa using h
    show ([x, y] == [a, b]) = false
    simp [h]
/-- a text with a sign in it, not the first one, that no integer has -/
theorem bad_in {l : List Nat} (h : ∃ c ∈ l.drop 1, c ∉ HEX ∧ c ≠ 120 ∧ c ≠ 111) : wholeL l = none := by
  obtain ⟨c, hc, h1, h2, h3⟩ := h
  have hF : c ∉ FIG := fun z => h1 (by simp only [List.mem_cons, List.not_mem_nil, or_false] at z ⊢; omega)
  have hO : c ∉ OCT := fun z => h1 (by simp only [List.mem_cons, List.not_mem_nil, or_false] at z ⊢; omega)
  have hc0 : c ∈ l := List.mem_of_mem_drop hc
  have two : ∀ (b : Nat) (s : List Nat), b ≠ c → c ∉ s → (pre [48, b] l && isAllL (l.drop 2) s) = false := fun b s hb hs => by
    match l, hc with
    | x :: y :: r, hc =>
      rcases List.mem_cons.mp (show c ∈ y :: r from hc) with e | hr
      · rw [pre2 (by subst e; simpa using hb.symm)] <;> rfl
      · show (pre [48, b] (x :: y :: r) && isAllL r s) = false
        rw [all_no (.inr ⟨c, hr, hs⟩), Bool.and_false]
  unfold wholeL
  rw [if_neg (by unfold isOct; rw [two 111 OCT (Ne.symm h3) hO]; exact Bool.false_ne_true), if_neg (by unfold isHex; rw [two 120 HEX (Ne.symm h2) h1]; exact Bool.false_ne_true)]
  unfold wholeA
  rw [if_pos]
  apply all_no
  right
  rw [uns_is]
  split
  · exact ⟨c, hc, hF⟩
  · exact ⟨c, hc0, hF⟩
/-- not of the forms 0o, 0x, and with a sign behind its own that is no figure, or nothing -/
theorem bad_dec {l : List Nat} (h1 : isOct l = false) (h2 : isHex l = false) (h : unsignedL l = [] ∨ ∃ c ∈ unsignedL l, c ∉ FIG) : wholeL l = none := by
  unfold wholeL
  rw [if_neg (by rw [h1]; exact Bool.false_ne_true), if_neg (by rw [h2]; exact Bool.false_ne_true)]
  unfold wholeA
  rw [if_pos (all_no h)]
theorem strip_zeros (l : List Nat) : ∀ k : Nat, lstripL [48] (List.replicate k 48 ++ l) = lstripL [48] l
  | 0 => rfl
  | k + 1 => by
    rw [List.replicate_succ, List.cons_append]
    show List.dropWhile (inL [48]) (48 :: _) = _
    rw [List.dropWhile_cons_of_pos rfl]
    exact strip_zeros l k
theorem strip_num {n : Nat} : lstripL [48] (TL.numL n) = if n = 0 then [] else TL.numL n := by
  have key : ∀ n, n ≠ 0 → ∃ c r, TL.numL n = c :: r ∧ c ≠ 48 := by
    intro n
    induction n using Nat.strongRecOn with
    | _ n ih =>
      intro h0
      by_cases h : n < 10
      · exact ⟨48 + n, [], TL.numL_lt h, by omega⟩
      · obtain ⟨c, r, e, hc⟩ := ih (n / 10) (by omega) (by omega)
        exact ⟨c, r ++ [48 + n % 10], by rw [TL.numL_step (by omega), e] <;> rfl, hc⟩
  split
  · rename_i h; subst h; rw [TL.numL_lt (by decide)] <;> rfl
  · rename_i h
    obtain ⟨c, r, e, hc⟩ := key n h
    rw [e]
    show List.dropWhile (inL [48]) (c :: r) = _
    rw [List.dropWhile_cons_of_neg]
    intro z
    have z : c ∈ [48] := of_decide_eq_true z
    exact hc (List.mem_singleton.mp z)
theorem fig_of {l : List Nat} (h : NumText.AllDigits l) : ∀ c ∈ l, c ∈ FIG := fun c hc => by
  have := h c hc
  simp only [List.mem_cons, List.not_mem_nil, or_false]
  omega
/-- figures, a sign ahead of them or none -/
theorem dec_is {sg : List Nat} {k n : Nat} (hs : sg = [] ∨ sg = [43] ∨ sg = [45]) : wholeL (sg ++ (List.replicate k 48 ++ TL.numL n)) = some (if n = 0 then [48] else if sg = [45] then 45 :: TL.numL n else TL.numL n) := by
  have hd : ∀ c ∈ List.replicate k 48 ++ TL.numL n, c ∈ FIG := fun c hc => by
    rcases List.mem_append.mp hc with hc | hc
    · rw [(List.mem_replicate.mp hc).2]; decide
    · exact fig_of (TL.numL_digits n) c hc
  have hne : List.replicate k 48 ++ TL.numL n ≠ [] := by simp [TL.numL_ne]
  have hstrip : lstripL [48] (List.replicate k 48 ++ TL.numL n) = if n = 0 then [] else TL.numL n := by rw [strip_zeros, strip_num]
  generalize List.replicate k 48 ++ TL.numL n = t at *
  have hu : unsignedL (sg ++ t) = t := by
    rw [uns_is]
    rcases hs with e | e | e <;> subst e
    · cases t with
      | nil => exact absurd rfl hne
      | cons c r =>
        have := hd c List.mem_cons_self
        have h1 : c ≠ 43 ∧ c ≠ 45 := by
          simp only [List.mem_cons, List.not_mem_nil, or_false] at this; omega
        rw [if_neg (by simp [h1.1, h1.2])] <;> rfl
    · rw [if_pos (.inl rfl)] <;> rfl
    · rw [if_pos (.inr rfl)] <;> rfl
  have no2 : ∀ b s, b ∉ FIG → (pre [48, b] (sg ++ t) && isAllL ((sg ++ t).drop 2) s) = false := fun b s hb => by
    rw [pre2, Bool.false_and]
    rcases hs with e | e | e <;> subst e
    · intro z
      exact hb (hd b (List.mem_of_getElem? (show t[1]? = some b from z)))
    · intro z
      exact hb (hd b (List.mem_of_getElem? (show t[0]? = some b from z)))
    · intro z
      exact hb (hd b (List.mem_of_getElem? (show t[0]? = some b from z)))
  unfold wholeL
  rw [if_neg (by unfold isOct; rw [no2 111 OCT (by decide)]; exact Bool.false_ne_true), if_neg (by unfold isHex; rw [no2 120 HEX (by decide)]; exact Bool.false_ne_true)]
  unfold wholeA
  rw [hu, if_neg (by rw [all_iff.mpr ⟨hne, hd⟩]; decide), hstrip]
  by_cases hn : n = 0
  · rw [if_pos hn, if_pos rfl, if_pos hn]
  · rw [if_neg hn, if_neg (TL.numL_ne n), if_neg hn, pre_one]
    rcases hs with e | e | e <;> subst e
    · rw [if_neg, if_neg (by decide)]
      rw [List.nil_append]
      intro z
      have z := of_decide_eq_true z
      have := hd 45 (List.mem_of_getElem? z)
      exact absurd this (by decide)
    · rw [if_neg (by simp), if_neg (by decide)]
    · rw [if_pos (by simp), if_pos rfl] <;> rfl
/-! ### decimal words -/
theorem intL_two (p : Int) : intL p = (if p < 0 then [45] else []) ++ TL.numL p.natAbs := by
  unfold intL
  split <;> rfl
theorem val_zeros (z : Nat) (l : List Nat) : NumText.digitsVal (List.replicate z 48 ++ l) = NumText.digitsVal l := by
  induction z with
  | zero => rfl
  | succ z ih =>
    show (48 :: (List.replicate z 48 ++ l)).foldl (fun acc c => acc * 10 + (c - 48)) 0 = _
    rw [List.foldl_cons]
    exact ih
def SGN (l : List Nat) : Prop := l = [] ∨ l = [43] ∨ l = [45]
/-- before and behind the point, and the row of both with it, or none -/
structure Mant (ahead part mant : List Nat) : Prop where
  a : ∀ c ∈ ahead, c ∈ FIG
  p : ∀ c ∈ part, c ∈ FIG
  ne : ahead ++ part ≠ []
  is : (mant = ahead ∧ part = []) ∨ mant = ahead ++ ([46] ++ part)
/-- an exponent -/
def Expo (E : Int) (ex : List Nat) : Prop :=
  (ex = [] ∧ E = 0) ∨ ∃ (c : Nat) (sg : List Nat) (z m : Nat), (c = 101 ∨ c = 69) ∧ SGN sg ∧ ex = c :: (sg ++ (List.replicate z 48 ++ TL.numL m)) ∧ E = if sg = [45] then -(m : Int) else m
abbrev ALLS : List Nat := FIG ++ [43, 45, 46, 101, 69]
theorem fig_all {c : Nat} (h : c ∈ FIG) : c ∈ ALLS := List.mem_append_left _ h
theorem num_all (z m : Nat) : ∀ c ∈ List.replicate z 48 ++ TL.numL m, c ∈ FIG := fun c hc => by
  rcases List.mem_append.mp hc with hc | hc
  · rw [(List.mem_replicate.mp hc).2]; decide
  · exact fig_of (TL.numL_digits m) c hc
theorem sgn_all {sg : List Nat} (h : SGN sg) : ∀ c ∈ sg, c ∈ ALLS := by
  rcases h with e | e | e <;> rw [e] <;> decide
theorem mant_all {a p t : List Nat} (m : Mant a p t) : ∀ c ∈ t, c ∈ FIG ∨ c = 46 := fun c hc => by
  rcases m.is with ⟨e, _⟩ | e
  · rw [e] at hc; exact .inl (m.a c hc)
  · rw [e] at hc
    rcases List.mem_append.mp hc with hc | hc
    · exact .inl (m.a c hc)
    · rcases List.mem_append.mp hc with hc | hc
      · exact .inr (List.mem_singleton.mp hc)
      · exact .inl (m.p c hc)
theorem mant_ne {a p t : List Nat} (m : Mant a p t) : t ≠ [] := by
  rcases m.is with ⟨e, e2⟩ | e
  · have := m.ne
    rw [e2, List.append_nil] at this
    rw [e]; exact this
  · rw [e]; simp
theorem expo_all {E : Int} {ex : List Nat} (h : Expo E ex) : ∀ c ∈ ex, c ∈ ALLS := by
  rcases h with ⟨e, _⟩ | ⟨c, sg, z, m, hc, hs, e, _⟩
  · rw [e]; exact fun _ h => nomatch h
  · rw [e]
    intro d hd
    rcases List.mem_cons.mp hd with h | h
    · rw [h]; rcases hc with h | h <;> rw [h] <;> decide
    · rcases List.mem_append.mp h with h | h
      · exact sgn_all hs d h
      · exact fig_all (num_all z m d h)
theorem uns_sg {sg t : List Nat} (h : SGN sg) (h1 : t[0]? ≠ some 43) (h2 : t[0]? ≠ some 45) : unsignedL (sg ++ t) = t := by
  rw [uns_is]
  rcases h with e | e | e <;> subst e
  · rw [if_neg (by simpa using ⟨h1, h2⟩)] <;> rfl
  · rw [if_pos (.inl rfl)] <;> rfl
  · rw [if_pos (.inr rfl)] <;> rfl
theorem first_fig {t : List Nat} (h : ∀ c ∈ t, c ∈ FIG ∨ c = 46) (b : Nat) (hb : b = 43 ∨ b = 45) : t[0]? ≠ some b := fun e => by
  have := h b (List.mem_of_getElem? e)
  rcases hb with z | z <;> subst z <;> revert this <;> decide
theorem first_app {t ex : List Nat} (h : t ≠ []) : (t ++ ex)[0]? = t[0]? := by
  cases t with
  | nil => exact absurd rfl h
  | cons c r => rfl
def upE (x : Nat) : Nat := if x = 69 then 101 else x
theorem map_free {l : List Nat} (h : 69 ∉ l) : l.map upE = l := by
  induction l with
  | nil => rfl
  | cons c l ih =>
    rw [List.map_cons, ih fun m => h (List.mem_cons_of_mem _ m)]
    have : c ≠ 69 := fun e => h (by rw [e]; exact List.mem_cons_self)
    show (if c = 69 then 101 else c) :: l = _
    rw [if_neg this]
theorem par_free {s : Nat} {l : List Nat} (h : s ∉ l) : partL [s] l = (l, [], []) := by
  unfold partL
  rw [TL.par_none1 (S := []) h]
theorem par_hit {s : Nat} {p q : List Nat} (h : s ∉ p) : partL [s] (p ++ (s :: q)) = (p, [s], q) := by
  unfold partL
  have := TL.par_part1 (S := []) (rest := q) (acc := []) h
  rw [show p ++ (s :: q) = p ++ ([s] ++ q) from rfl, this] <;> rfl
theorem mant_free {a p t : List Nat} (m : Mant a p t) {b : Nat} (hb : b ∉ FIG) (h2 : b ≠ 46) : b ∉ t := fun h => (mant_all m b h).elim hb h2
theorem whole_parts {a p t : List Nat} (m : Mant a p t) : (partL [46] t).1 = a ∧ (partL [46] t).2.2 = p := by
  have h46 : 46 ∉ a := fun h => absurd (m.a 46 h) (by decide)
  rcases m.is with ⟨e, e2⟩ | e
  · rw [e, e2, par_free h46]; exact ⟨rfl, rfl⟩
  · rw [e, show a ++ ([46] ++ p) = a ++ (46 :: p) from rfl, par_hit h46]; exact ⟨rfl, rfl⟩
theorem expo_parts {a p t : List Nat} (m : Mant a p t) {ld : List Nat} (hl : SGN ld) {E : Int} {ex : List Nat} (he : Expo E ex) :
    unsignedL (ld ++ (t ++ ex)) = t ++ ex ∧ (expoL (ld ++ (t ++ ex))).1 = t ∧ pow1 (ld ++ (t ++ ex)) = E ∧ ((!decide ((expoL (ld ++ (t ++ ex))).2.1 = [])) && !isAllL (unsignedL (expoL (ld ++ (t ++ ex))).2.2) FIG) = false := by
  have hne := mant_ne m
  have hu : unsignedL (ld ++ (t ++ ex)) = t ++ ex := uns_sg hl (by rw [first_app hne]; exact first_fig (mant_all m) 43 (.inl rfl)) (by rw [first_app hne]; exact first_fig (mant_all m) 45 (.inr rfl))
  have hx : expoL (ld ++ (t ++ ex)) = partL [101] ((t ++ ex).map upE) := by
    unfold expoL
    rw [hu] <;> rfl
  have h69 := mant_free m (b := 69) (by decide) (by decide)
  have h101 := mant_free m (b := 101) (by decide) (by decide)
  refine ⟨hu, ?_⟩
  rcases he with ⟨e, e2⟩ | ⟨c, sg, z, k, hc, hs, e, e2⟩
  · subst e
    rw [List.append_nil] at hx hu ⊢
    rw [map_free h69, par_free h101] at hx
    refine ⟨by rw [hx], ?_, by rw [hx] <;> rfl⟩
    unfold pow1 pow0
    rw [hx, e2] <;> rfl
  · have hd := num_all z k
    have hdne : List.replicate z 48 ++ TL.numL k ≠ [] := by simp [TL.numL_ne]
    have hval : NumText.digitsVal (List.replicate z 48 ++ TL.numL k) = k := by rw [val_zeros, TL.numL_val]
    generalize List.replicate z 48 ++ TL.numL k = ds at *
    have hm : (t ++ ex).map upE = t ++ (101 :: (sg ++ ds)) := by
      rw [e, List.map_append, map_free h69, List.map_cons]
      have h1 : upE c = 101 := by rcases hc with h | h <;> rw [h] <;> rfl
      rw [h1, map_free]
      intro h
      rcases List.mem_append.mp h with h | h
      · rcases hs with z | z | z <;> rw [z] at h <;> revert h <;> decide
      · exact absurd (hd 69 h) (by decide)
    rw [hm, par_hit h101] at hx
    have hus : unsignedL (sg ++ ds) = ds := uns_sg hs (first_fig (fun c h => .inl (hd c h)) 43 (.inl rfl)) (first_fig (fun c h => .inl (hd c h)) 45 (.inr rfl))
    refine ⟨by rw [hx], ?_, ?_⟩
    · unfold pow1 pow0
      rw [hx]
      show (if pre [45] (sg ++ ds) = true then -(if (!decide (([101] : List Nat) = [])) = true then ((NumText.digitsVal (unsignedL (sg ++ ds)) : Nat) : Int) else 0) else (if (!decide (([101] : List Nat) = [])) = true then ((NumText.digitsVal (unsignedL (sg ++ ds)) : Nat) : Int) else 0)) = E
      have hk : (if (!decide (([101] : List Nat) = [])) = true then ((k : Nat) : Int) else 0) = k := if_pos (by decide)
      rw [hus, hval, hk, e2, pre_one]
      have h45 : ds[0]? ≠ some 45 := first_fig (fun c h => .inl (hd c h)) 45 (.inr rfl)
      rcases hs with q | q | q <;> subst q
      · rw [if_neg (by simpa using h45), if_neg (by decide)]
      · rw [if_neg (by simp), if_neg (by decide)]
      · rw [if_pos (by simp), if_pos rfl]
    · rw [hx]
      show ((!decide (([101] : List Nat) = [])) && !isAllL (unsignedL (sg ++ ds)) FIG) = false
      rw [hus, all_iff.mpr ⟨hdne, hd⟩] <;> rfl
def PW (a p : List Nat) (E : Int) : Int := E - (p.length : Nat) + ((lstripL [48] (a ++ p)).length : Nat) - ((rstripL [48] (lstripL [48] (a ++ p))).length : Nat)
theorem float_is {a p t : List Nat} (m : Mant a p t) {ld : List Nat} (hl : SGN ld) {E : Int} {ex : List Nat} (he : Expo E ex) :
    floatL (ld ++ (t ++ ex)) = if lstripL [48] (a ++ p) = [] then some [48, 101, 48] else some (((if ld = [45] then [45] else []) ++ rstripL [48] (lstripL [48] (a ++ p)) ++ [101]) ++ intL (PW a p E)) := by
  obtain ⟨h1, h2, h3, h4⟩ := expo_parts m hl he
  obtain ⟨w1, w2⟩ := whole_parts m
  have hw : (wholL (ld ++ (t ++ ex))).1 = a ∧ (wholL (ld ++ (t ++ ex))).2.2 = p := by
    unfold wholL
    rw [h2]
    exact ⟨w1, w2⟩
  have hall : ∀ c ∈ ld ++ (t ++ ex), c ∈ ALLS := fun c hc => by
    rcases List.mem_append.mp hc with hc | hc
    · exact sgn_all hl c hc
    · rcases List.mem_append.mp hc with hc | hc
      · rcases mant_all m c hc with h | h
        · exact fig_all h
        · rw [h]; decide
      · exact expo_all he c hc
  have hmin : minusL (ld ++ (t ++ ex)) = if ld = [45] then [45] else [] := by
    unfold minusL
    rw [pre_one]
    have h45 : (t ++ ex)[0]? ≠ some 45 := by rw [first_app (mant_ne m)]; exact first_fig (mant_all m) 45 (.inr rfl)
    rcases hl with q | q | q <;> subst q
    · rw [if_neg (by simpa using h45), if_neg (by decide)]
    · rw [if_neg (by simp), if_neg (by decide)]
    · rw [if_pos (by simp), if_pos rfl]
  have hnan : ld ++ (t ++ ex) ∉ NANL := fun h => by
    have : ∀ l ∈ NANL, ∃ c ∈ l, c ∉ ALLS := by decide
    obtain ⟨c, hc, hn⟩ := this _ h
    exact hn (hall c hc)
  have hinf : unsignedL (ld ++ (t ++ ex)) ∉ INFL := fun h => by
    have : ∀ l ∈ INFL, ∃ c ∈ l, c ∉ ALLS := by decide
    obtain ⟨c, hc, hn⟩ := this _ h
    rw [h1] at hc
    exact hn (hall c (List.mem_append_right _ hc))
  have hfig : isAllL (a ++ p) FIG = true := all_iff.mpr ⟨m.ne, fun c hc => (List.mem_append.mp hc).elim (m.a c) (m.p c)⟩
  unfold floatL
  rw [if_neg hnan, if_neg hinf, hw.1, hw.2, if_neg (by rw [hfig]; decide), if_neg (by rw [h4]; decide)]
  unfold powL shortL figsL
  rw [hw.1, hw.2, h3, hmin, intL_two]
  unfold PW
  simp only [List.append_assoc]
end T
namespace T
open PySem PySem.Spec PyProof.Rows L2 DJ LJ LamX
abbrev TEN : List Nat := [48, 49, 50, 51, 52, 53, 54, 55, 56, 57]
abbrev NINE : List Nat := [49, 50, 51, 52, 53, 54, 55, 56, 57]
abbrev wg (x : Wl) : wl x ≠ .gone := fun z => nomatch z
def oneC' (x : Wl) (s : List Nat) : Nat × Wl := (s.getD (drawW x s.length).1.toNat 0, (drawW x s.length).2)
theorem oneC_mem (x : Wl) {s : List Nat} (h : s ≠ []) : (oneC' x s).1 ∈ s := by
  have hl := draw_nat x s.length (List.length_pos_iff.mpr h)
  show s.getD _ 0 ∈ s
  rw [List.getD_eq_getElem?_getD, List.getElem?_eq_getElem hl]
  exact List.getElem_mem hl
theorem R_oneC (x : Wl) (s : List Nat) (hne : s ≠ []) (hl : s.length ≤ 100000) : R_one (.o 0 :: [Dt.str s].map Sl.d) [wl x] (.d (.str [(oneC' x s).1])) [wl (oneC' x s).2] := ⟨x, rfl, .inr ⟨s, hne, hl, rfl, rfl, rfl⟩⟩
theorem getD_map {α : Type} (f : α → Dt) (ys : List α) (d : α) (i : Nat) (h : i < ys.length) : (ys.map f).getD i .non = f (ys.getD i d) := by
  rw [List.getD_eq_getElem?_getD, List.getD_eq_getElem?_getD, List.getElem?_map, List.getElem?_eq_getElem h] <;> rfl
theorem R_oneI (x : Wl) (ys : List (List Nat)) (hne : ys ≠ []) (hl : ys.length ≤ 100000) : R_one (.o 0 :: [Dt.lst (ys.map .str)].map Sl.d) [wl x] (.d (.str (oneT x ys).1)) [wl (oneT x ys).2] := by
  have hp := draw_nat x ys.length (List.length_pos_iff.mpr hne)
  refine ⟨x, rfl, .inl ⟨ys.map .str, by simpa using hne, by rw [List.length_map]; exact hl, rfl, ?_, ?_⟩⟩
  · rw [List.length_map, getD_map _ ys [] _ hp] <;> rfl
  · rw [List.length_map] <;> rfl
theorem oneT_all {p : List Nat → Prop} (x : Wl) (ys : List (List Nat)) (hne : ys ≠ []) (h : ∀ y ∈ ys, p y) : p (oneT x ys).1 := by
  have hp := draw_nat x ys.length (List.length_pos_iff.mpr hne)
  show p (ys.getD _ [])
  rw [List.getD_eq_getElem?_getD, List.getElem?_eq_getElem hp]
  exact h _ (List.getElem_mem hp)
def oneI (x : Wl) (ys : List Int) : Int × Wl := (ys.getD (drawW x ys.length).1.toNat 0, (drawW x ys.length).2)
theorem R_oneN (x : Wl) (ys : List Int) (hne : ys ≠ []) (hl : ys.length ≤ 100000) : R_one (.o 0 :: [Dt.lst (ys.map .int)].map Sl.d) [wl x] (.d (.int (oneI x ys).1)) [wl (oneI x ys).2] := by
  have hp := draw_nat x ys.length (List.length_pos_iff.mpr hne)
  refine ⟨x, rfl, .inl ⟨ys.map .int, by simpa using hne, by rw [List.length_map]; exact hl, rfl, ?_, ?_⟩⟩
  · rw [List.length_map, getD_map _ ys 0 _ hp] <;> rfl
  · rw [List.length_map] <;> rfl
theorem oneI_all {p : Int → Prop} (x : Wl) (ys : List Int) (hne : ys ≠ []) (h : ∀ y ∈ ys, p y) : p (oneI x ys).1 := by
  have hp := draw_nat x ys.length (List.length_pos_iff.mpr hne)
  show p (ys.getD _ 0)
  rw [List.getD_eq_getElem?_getD, List.getElem?_eq_getElem hp]
  exact h _ (List.getElem_mem hp)
theorem R_drawI (x : Wl) (n : Int) (h : 0 < n) (h2 : n < 1073741824) : R_draw (.o 0 :: [Dt.int n].map Sl.d) [wl x] (.d (.int (drawW x n).1)) [wl (drawW x n).2] := ⟨x, n, ⟨h, log_short h h2⟩, rfl, rfl, rfl, rfl⟩
theorem R_drawL (x : Wl) (n : Int) (h : 0 < n) (h2 : n.natAbs.log2 < 9000) : R_draw (.o 0 :: [Dt.int n].map Sl.d) [wl x] (.d (.int (drawW x n).1)) [wl (drawW x n).2] := ⟨x, n, ⟨h, h2⟩, rfl, rfl, rfl, rfl⟩
/-- figures, no nought first, none last -/
structure GF (n : Nat) (F : List Nat) : Prop where
  fig : ∀ c ∈ F, c ∈ FIG
  len : F.length ≤ n
  first : ∃ c r, F = c :: r ∧ c ≠ 48
  last : ∃ r c, F = r ++ [c] ∧ c ≠ 48
def rowT (x : Wl) (k : Nat) : List (List Nat) × Wl := mapA (fun y (_ : Nat) => (([(oneC' y TEN).1] : List Nat), (oneC' y TEN).2)) (List.range k) x
theorem ten_fig : ∀ c ∈ TEN, c ∈ FIG := by decide
theorem nine_fig : ∀ c ∈ NINE, c ∈ FIG ∧ c ≠ 48 := by decide
theorem nine_of (x : Wl) : (oneC' x NINE).1 ∈ FIG ∧ (oneC' x NINE).1 ≠ 48 := nine_fig _ (oneC_mem x (by decide))
theorem row_ok (x : Wl) (k : Nat) : (rowT x k).1.flatten.length = k ∧ ∀ c ∈ (rowT x k).1.flatten, c ∈ FIG := by
  have hl : (rowT x k).1.length = k := by unfold rowT; rw [mapA_len, List.length_range]
  have ha : ∀ y ∈ (rowT x k).1, ∃ c, y = [c] ∧ c ∈ FIG := mapA_all (p := fun y => ∃ c, y = [c] ∧ c ∈ FIG) (fun m _ => ⟨_, rfl, ten_fig _ (oneC_mem m (by decide))⟩) _ _
  generalize (rowT x k).1 = ys at *
  subst hl
  induction ys with
  | nil => exact ⟨rfl, fun _ h => nomatch h⟩
  | cons y ys ih =>
    obtain ⟨c, e, hc⟩ := ha y List.mem_cons_self
    obtain ⟨h1, h2⟩ := ih fun z hz => ha z (List.mem_cons_of_mem _ hz)
    rw [e, List.flatten_cons]
    refine ⟨by rw [List.length_append, h1]; show 1 + ys.length = ys.length + 1; omega, fun d hd => ?_⟩
    rcases List.mem_append.mp hd with hd | hd
    · rw [List.mem_singleton.mp hd]; exact hc
    · exact h2 d hd
theorem rep_one (c n : Nat) : (List.replicate n [c]).flatten = List.replicate n c := by
  induction n with
  | zero => rfl
  | succ n ih => rw [List.replicate_succ, List.flatten_cons, ih] <;> rfl
theorem no1 {l : List Nat} (h : l[1]? ≠ some 111) (h2 : l[1]? ≠ some 120) : isOct l = false ∧ isHex l = false := by
  unfold isOct isHex
  rw [pre2 h, pre2 h2]
  exact ⟨rfl, rfl⟩
theorem no_all {l : List Nat} (h : ∀ c ∈ l, c ∈ ALLS) : isOct l = false ∧ isHex l = false := no1 (fun e => absurd (h 111 (List.mem_of_getElem? e)) (by decide)) (fun e => absurd (h 120 (List.mem_of_getElem? e)) (by decide))
theorem strip_first {c : Nat} {r : List Nat} (h : c ≠ 48) : lstripL [48] (c :: r) = c :: r := by
  show List.dropWhile (inL [48]) (c :: r) = _
  rw [List.dropWhile_cons_of_neg]
  intro z
  exact h (List.mem_singleton.mp (of_decide_eq_true z))
theorem rstrip_zs {r : List Nat} {c : Nat} (h : c ≠ 48) (k : Nat) : rstripL [48] ((r ++ [c]) ++ List.replicate k 48) = r ++ [c] := by
  unfold rstripL
  rw [List.reverse_append, List.reverse_replicate, List.reverse_append, List.reverse_singleton]
  have := strip_zeros ([c] ++ r.reverse) k
  have h2 := strip_first (r := r.reverse) h
  show (lstripL [48] (List.replicate k 48 ++ ([c] ++ r.reverse))).reverse = _
  rw [this, show [c] ++ r.reverse = c :: r.reverse from rfl, h2]
  simp
theorem num_of {l : List Nat} (h : ∀ c ∈ l, c ∈ FIG) (hf : ∃ c r, l = c :: r ∧ c ≠ 48) : TL.numL (NumText.digitsVal l) = l := by
  obtain ⟨c, r, e, hc⟩ := hf
  have hd : NumText.AllDigits l := fun d hd => by
    have := h d hd
    simp only [List.mem_cons, List.not_mem_nil, or_false] at this
    omega
  have h1 : c ∈ FIG := h c (by rw [e]; exact List.mem_cons_self)
  have h49 : 49 ≤ c := by
    simp only [List.mem_cons, List.not_mem_nil, or_false] at h1
    omega
  have := NumText.toDigits_digitsVal r.length l (by rw [e]; rfl) hd (.inr ⟨c, r, e, h49⟩)
  show (Nat.toDigits 10 (NumText.digitsVal l)).map Char.toNat = l
  rw [this, List.map_map]
  have : ∀ d ∈ l, (Char.toNat ∘ Char.ofNat) d = d := fun d hd' => by
    have := hd d hd'
    show (Char.ofNat d).toNat = d
    have : d < 58 := by omega
    have h3 : ∀ d : Nat, d < 58 → (Char.ofNat d).toNat = d := by decide
    exact h3 d this
  rw [List.map_congr_left this, List.map_id']
theorem dig_of {l : List Nat} (h : ∀ c ∈ l, c ∈ FIG) : NumText.AllDigits l := fun d hd => by
  have := h d hd
  simp only [List.mem_cons, List.not_mem_nil, or_false] at this
  omega
/-! ### a row's number: below 0 or not, figures, power -/
abbrev Rn := Bool × List Nat × Int
abbrev sgT (b : Bool) : List Nat := if b = true then [45] else []
theorem sgT_t : sgT true = [45] := rfl
theorem sgT_f : sgT false = [] := rfl
structure RnOk (t : Rn) : Prop where
  g : GF 400 t.2.1
  p : t.2.2.natAbs < 10 ^ 801
def txR (t : Rn) : List Nat := (sgT t.1 ++ t.2.1) ++ (101 :: intL t.2.2)
theorem sg_pre {b : Bool} {l : List Nat} (h : ∀ c ∈ l, c ∈ FIG) : sgI (sgT b ++ l) = if b = true then -((NumText.digitsVal l : Nat) : Int) else ((NumText.digitsVal l : Nat) : Int) := by
  unfold sgI
  cases b with
  | true => rw [if_pos (by rw [pre_one]; rfl)] <;> rfl
  | false =>
    rw [sgT_f, List.nil_append, if_neg, if_neg Bool.false_ne_true]
    rw [pre_one]
    intro z
    exact absurd (h 45 (List.mem_of_getElem? (of_decide_eq_true z))) (by decide)
theorem sg_ok {b : Bool} {l : List Nat} (h : ∀ c ∈ l, c ∈ FIG) (hl : l.length ≤ 99999) : SgT (sgT b ++ l) := by
  unfold SgT
  cases b with
  | true =>
    rw [sgT_t]
    refine ⟨by show l.length + 1 ≤ _; omega, ?_⟩
    rw [if_pos (by rw [pre_one]; rfl)]
    exact dig_of h
  | false =>
    rw [sgT_f, List.nil_append]
    refine ⟨by omega, ?_⟩
    rw [if_neg]
    · exact dig_of h
    · rw [pre_one]
      intro z
      exact absurd (h 45 (List.mem_of_getElem? (of_decide_eq_true z))) (by decide)
theorem intL_sg (p : Int) : intL p = sgT (decide (p < 0)) ++ TL.numL p.natAbs := by
  rw [intL_two]
  by_cases h : p < 0
  · rw [if_pos h, decide_eq_true h] <;> rfl
  · rw [if_neg h, decide_eq_false h] <;> rfl
theorem num_fig (n : Nat) : ∀ c ∈ TL.numL n, c ∈ FIG := fig_of (TL.numL_digits n)
theorem sgI_int (p : Int) : sgI (intL p) = p := by
  rw [intL_sg, sg_pre (num_fig _), TL.numL_val]
  by_cases h : p < 0
  · rw [decide_eq_true h, if_pos rfl]; omega
  · rw [decide_eq_false h, if_neg (by decide)]; omega
theorem pow_len {p : Int} (hp : p.natAbs < 10 ^ 801) : (TL.numL p.natAbs).length ≤ 801 := TL.numL_len (by decide) hp
theorem intL_ok {p : Int} (hp : p.natAbs < 10 ^ 801) : SgT (intL p) ∧ (intL p).length ≤ 802 := by
  have h1 := pow_len hp
  rw [intL_sg]
  refine ⟨sg_ok (num_fig _) (by omega), ?_⟩
  rw [List.length_append]
  have : (sgT (decide (p < 0))).length ≤ 1 := by cases decide (p < 0) <;> decide
  omega
theorem sgT_sgn (b : Bool) : SGN (sgT b) := by cases b with
  | true => exact .inr (.inr rfl)
  | false => exact .inl rfl
theorem gf_strip {n : Nat} {F : List Nat} (g : GF n F) (k : Nat) : lstripL [48] F = F ∧ rstripL [48] (F ++ List.replicate k 48) = F := by
  obtain ⟨_, _, ⟨c1, r1, e1, hc1⟩, r2, c2, e2, hc2⟩ := g
  refine ⟨by rw [e1]; exact strip_first hc1, by rw [e2]; exact rstrip_zs hc2 k⟩
theorem gf_ne {n : Nat} {F : List Nat} (g : GF n F) : F ≠ [] := by
  obtain ⟨_, _, ⟨c1, r1, e1, hc1⟩, _⟩ := g
  rw [e1]; exact List.cons_ne_nil _ _
theorem gf_pw {n : Nat} {F : List Nat} (g : GF n F) : rstripL [48] (lstripL [48] F) = F := by
  have h := gf_strip g 0
  rw [h.1]
  have := h.2
  rw [List.replicate_zero, List.append_nil] at this
  exact this
/-- both words of a number -/
theorem expo_of (p : Int) (c : Nat) (hc : c = 101 ∨ c = 69) : Expo p (c :: intL p) := by
  refine .inr ⟨c, sgT (decide (p < 0)), 0, p.natAbs, hc, sgT_sgn _, by rw [intL_sg] <;> rfl, ?_⟩
  by_cases h : p < 0
  · rw [decide_eq_true h, sgT_t, if_pos rfl]; omega
  · rw [decide_eq_false h, sgT_f, if_neg (by decide)]; omega
theorem fl_tx {t : Rn} (h : RnOk t) : floatL (txR t) = some (txR t) := by
  obtain ⟨b, F, p⟩ := t
  have g : GF 400 F := h.g
  have m : Mant F [] F := ⟨g.fig, fun _ h => (nomatch h), by rw [List.append_nil]; exact gf_ne g, .inl ⟨rfl, rfl⟩⟩
  have := float_is m (sgT_sgn b) (expo_of p 101 (.inl rfl))
  show floatL ((sgT b ++ F) ++ (101 :: intL p)) = some ((sgT b ++ F) ++ (101 :: intL p))
  rw [List.append_assoc, this, List.append_nil, if_neg (by rw [(gf_strip g 0).1]; exact gf_ne g), gf_pw g]
  have e : PW F [] p = p := by
    unfold PW
    rw [List.append_nil, gf_pw g, (gf_strip g 0).1]
    show p - (0 : Int) + _ - _ = p
    omega
  rw [e]
  have e2 : (if sgT b = [45] then [45] else []) = sgT b := by cases b <;> rfl
  rw [e2]
  simp
theorem fl_pt {t : Rn} (h : RnOk t) : floatL (sgT t.1 ++ (([46] ++ t.2.1) ++ (69 :: intL (t.2.2 + (t.2.1.length : Nat))))) = some (txR t) := by
  obtain ⟨b, F, p⟩ := t
  have g : GF 400 F := h.g
  have m : Mant [] F ([46] ++ F) := ⟨fun _ h => (nomatch h), g.fig, gf_ne g, .inr rfl⟩
  have := float_is m (sgT_sgn b) (expo_of (p + (F.length : Nat)) 69 (.inr rfl))
  show floatL (sgT b ++ (([46] ++ F) ++ (69 :: intL (p + (F.length : Nat))))) = _
  rw [this, List.nil_append, if_neg (by rw [(gf_strip g 0).1]; exact gf_ne g), gf_pw g]
  have e : PW [] F (p + (F.length : Nat)) = p := by
    unfold PW
    rw [List.nil_append, gf_pw g, (gf_strip g 0).1]
    omega
  rw [e]
  have e2 : (if sgT b = [45] then [45] else []) = sgT b := by cases b <;> rfl
  rw [e2]
  show _ = some ((sgT b ++ F) ++ (101 :: intL p))
  simp
end T
namespace T
open PySem PySem.Spec PyProof.Rows L2 DJ LJ LamX
/-! ### texts, other tags and other objects -/
abbrev s__law_others_right : Stmt := topS 45
abbrev N__law_others_right : List Str := ["_law_well_here", "_law_text", "_law_looks", "_law_lead", "_law_wrong", "_law_odd"]
theorem sc__law_others_right : FnScope N__law_others_right ["_law_well_here"] (defScope s__law_others_right) := ⟨rfl, rfl, rfl, by decide +kernel, rfl, by decide +kernel, by decide +kernel⟩
abbrev TXS : List (List Nat) := [[97], [49, 50, 32], [48, 98, 49], [45], [46, 46], [120, 58, 32, 121], [10], [121, 101, 115], [49, 95, 48], [32], [110, 85, 108, 108], [101, 53], [48, 120], [43, 46, 110, 97, 110]]
abbrev LKS : List (List Nat) := [[], [126], [49, 50], [48, 120, 49, 70], [49, 101, 51], [46, 53], [116, 114, 117, 101], [78, 85, 76, 76], [46, 105, 110, 102], [45, 46, 73, 78, 70], [46, 110, 97, 110], [48, 111, 55], [43, 49]]
abbrev LDT : List (List Nat) := [[33, 120], [33, 33, 120], [33, 115, 116, 114], [33, 33, 115, 101, 116], [33, 105, 110, 116]]
def chkS (t v : List Nat) : Bool := fitsS t v sCore && (decide (t.length ≤ 640) && (decide (v.length ≤ 640) && ((v.all fun x => decide (x < 128)) && (!decide (t ∈ [tNull, tBool, tInt, tFloat])))))
theorem co_S {t v : List Nat} (h : chkS t v = true) : CoOk t v := by
  unfold chkS at h
  simp only [Bool.and_eq_true, decide_eq_true_eq, Bool.not_eq_true'] at h
  obtain ⟨h1, h2, h3, h4, h5⟩ := h
  have h5 := of_decide_eq_false h5
  simp only [List.mem_cons, List.not_mem_nil, or_false, not_or] at h5
  exact ⟨h1, h2, by omega, fun _ => by omega, fun x hx => of_decide_eq_true (List.all_eq_true.mp h4 x hx), fun z => z.elim (fun z => absurd z h5.1) (fun z => absurd z h5.2.1), fun z => absurd z h5.2.2.1, fun z => absurd z h5.2.2.2⟩
theorem tx_all : ∀ v ∈ TXS, chkS tStr v = true ∧ lwL tStr v = some v := by decide +kernel
theorem lk_all : ∀ v ∈ LKS, chkS tStr v = true ∧ lwL tStr v = none := by decide +kernel
theorem ld_all : ∀ t ∈ LDT, ∀ v ∈ TXS ++ LKS, chkS t v = true ∧ lwL t v = none := by decide +kernel
abbrev pD (p : Dt × Dt) : Dt := .tup [p.1, p.2]
abbrev W5 : List (Dt × Dt) := [(.str tInt, .str [48, 49, 50]), (.str tInt, .str [120]), (.str tFloat, .str [49]), (.str tFloat, .str [49, 48, 101, 48]), (.str tNull, .str [])]
abbrev W1p : Dt × Dt := (.str tBool, .str [84, 114, 117, 101])
abbrev W7 : List (Dt × Dt) := [(.str tSeq, .str []), (.str tMap, .str [120]), (.str tInt, .int 12), (.str tStr, .non), (.str [33], .str [120]), (.str [], .str [120]), (.non, .str [120])]
theorem wr_all : ∀ p ∈ (W5 ++ [W1p]) ++ W7, WrS p.1 p.2 := by
  have f : fitsS tInt [48, 49, 50] sCore = false ∧ fitsS tInt [120] sCore = false ∧ fitsS tFloat [49] sCore = false ∧ fitsS tFloat [49, 48, 101, 48] sCore = false ∧ fitsS tNull [] sCore = false ∧ fitsS tBool [84, 114, 117, 101] sCore = false ∧ fitsS tSeq [] sCore = false ∧ fitsS tMap [120] sCore = false ∧ fitsS [33] [120] sCore = false ∧ fitsS [] [120] sCore = false := by decide +kernel
  have m : (isTagL tInt = true ∧ mayO tScalar (some tInt) sCore = true) ∧ isTagL tStr = true ∧ mayO tScalar (some tStr) sCore = true := by decide +kernel
  obtain ⟨f1, f2, f3, f4, f5, f6, f7, f8, f9, f10⟩ := f
  intro p hp
  simp only [List.mem_append, List.mem_cons, List.not_mem_nil, or_false] at hp
  rcases hp with ((e | e | e | e | e) | e) | e | e | e | e | e | e | e <;> rw [e]
  · exact .fit _ _ (by decide) (by decide) f1
  · exact .fit _ _ (by decide) (by decide) f2
  · exact .fit _ _ (by decide) (by decide) f3
  · exact .fit _ _ (by decide) (by decide) f4
  · exact .fit _ _ (by decide) (by decide) f5
  · exact .fit _ _ (by decide) (by decide) f6
  · exact .fit _ _ (by decide) (by decide) f7
  · exact .fit _ _ (by decide) (by decide) f8
  · exact .nos _ _ (by decide) m.1.1 m.1.2 (.int 12)
  · exact .nos _ _ (by decide) m.2.1 m.2.2 .non
  · exact .fit _ _ (by decide) (by decide) f9
  · exact .fit _ _ (by decide) (by decide) f10
  · exact .tag _
def onP (x : Wl) : (Dt × Dt) × Wl := (((W5 ++ [W1p]) ++ W7).getD (drawW x 13).1.toNat (.non, .non), (drawW x 13).2)
theorem onP_ok (x : Wl) : WrS (onP x).1.1 (onP x).1.2 := by
  have hd := draw_lt x (n := 13) (by decide)
  have hl : (drawW x 13).1.toNat < ((W5 ++ [W1p]) ++ W7).length := by show _ < 13; omega
  unfold onP
  show WrS (((W5 ++ [W1p]) ++ W7).getD _ _).1 (((W5 ++ [W1p]) ++ W7).getD _ _).2
  rw [List.getD_eq_getElem?_getD, List.getElem?_eq_getElem hl]
  exact wr_all _ (List.getElem_mem hl)
theorem R_onP (x : Wl) : R_one (.o 0 :: [Dt.lst (((W5 ++ [W1p]) ++ W7).map pD)].map Sl.d) [wl x] (.d (pD (onP x).1)) [wl (onP x).2] := by
  have hd := draw_lt x (n := 13) (by decide)
  refine ⟨x, rfl, .inl ⟨((W5 ++ [W1p]) ++ W7).map pD, by simp, by show 13 ≤ 100000; decide, rfl, ?_, rfl⟩⟩
  show _ = Sl.d ((((W5 ++ [W1p]) ++ W7).map pD).getD (drawW x 13).1.toNat .non)
  rw [getD_map pD ((W5 ++ [W1p]) ++ W7) (.non, .non) _ (by show _ < 13; omega)] <;> rfl
def oTx (x : Wl) : List Nat × Wl := oneT x TXS
def oLk (x : Wl) : List Nat × Wl := oneT (oTx x).2 LKS
def oIt (x : Wl) : Nat → Wl
  | 0 => (oLk x).2
  | k + 1 => (oneT (oIt x k) [(oTx x).1, (oLk x).1]).2
def oEnd (x : Wl) : Wl := (onP (oIt x 5)).2
section
variable {P : Program} {w : World} {K : PySem.W.Frag} {mg : Str → Option Value} {base : Heap}
def R_oth : List Sl → List MO → Sl → List MO → Prop := fun ss M r M' => ∃ x : Wl, ss = [.o 0] ∧ M = [wl x] ∧ r = .d (.bl true) ∧ M' = [wl (oEnd x)]
theorem cal_oth (D : Df K mg "_law_others_right" s__law_others_right ["_law_well_here"]) (f_least_word : Cal P w K mg base 5 "least_word" (SpR K 2 R_lw) []) (f__law_one : Cal P w K mg base 2 "_law_one" (SpR K 2 R_one) []) (f__law_is_refused : Cal P w K mg base 6 "_law_is_refused" (SpR K 2 R_ref) []) : Cal P w K mg base 7 "_law_others_right" (SpR K 1 R_oth) [] := by
  refine cal_mk (k := 6) D sc__law_others_right rfl fun f cdv A outer s H E hr ss M r M' h => ?_
  obtain ⟨x, rfl, rfl, rfl, rfl⟩ := h
  refine ⟨_, [.gone], (pss_cons (ps_asg (pe_c f__law_one hr (by omega) (by rfl) (pa_cons (pv 0) (pa_cons (pe_lst (pa_cons pe_str (pa_cons pe_str (pa_cons pe_str (pa_cons pe_str (pa_cons pe_str (pa_cons pe_str (pa_cons pe_str (pa_cons pe_str (pa_cons pe_str (pa_cons pe_str (pa_cons pe_str (pa_cons pe_str (pa_cons pe_str (pa_cons pe_str pa_nil))))))))))))))) pa_nil))) (pg_name (i := 1) sc__law_others_right.nd rfl (by first | exact .inl rfl | exact .inr rfl))) (pss_cons (ps_asg (pe_c f__law_one hr (by omega) (by rfl) (pa_cons (pv 0) (pa_cons (pe_lst (pa_cons pe_str (pa_cons pe_str (pa_cons pe_str (pa_cons pe_str (pa_cons pe_str (pa_cons pe_str (pa_cons pe_str (pa_cons pe_str (pa_cons pe_str (pa_cons pe_str (pa_cons pe_str (pa_cons pe_str (pa_cons pe_str pa_nil)))))))))))))) pa_nil))) (pg_name (i := 2) sc__law_others_right.nd rfl (by first | exact .inl rfl | exact .inr rfl))) (pss_cons (ps_if (PW.pt (pw_or (pt_cmpR op_ne (pe_c f_least_word hr (by omega) (by rfl) (pa_cons pe_str (pa_cons (pv 1) pa_nil))) (pv 1) (nomark _)) (pw_or1 (pt_cmpR op_notN (pe_c f_least_word hr (by omega) (by rfl) (pa_cons pe_str (pa_cons (pv 2) pa_nil))) pe_non (nomark _))))) (pss_one (ps_ret pe_bl)) pss_nil) (pss_cons (ps_for PassesOwn.never rfl (pi_tup (pe_tup (pa_cons pe_str (pa_cons pe_str (pa_cons pe_str (pa_cons pe_str (pa_cons pe_str pa_nil))))))) (pg_name (i := 3) sc__law_others_right.nd rfl (by first | exact .inl rfl | exact .inr rfl)) (pss_one (ps_if (pt_cmpR op_notN (pe_c f_least_word hr (by omega) (by rfl) (pa_cons (pv 3) (pa_cons (pe_c f__law_one hr (by omega) (by rfl) (pa_cons (pv 0) (pa_cons (pe_lst (pa_cons (pv 1) (pa_cons (pv 2) pa_nil))) pa_nil))) pa_nil))) pe_non (nomark _)) (pss_one (ps_ret pe_bl)) pss_nil))) (pss_cons (ps_asg (pe_lst (pa_cons (pe_tup (pa_cons pe_str (pa_cons pe_str pa_nil))) (pa_cons (pe_tup (pa_cons pe_str (pa_cons pe_str pa_nil))) (pa_cons (pe_tup (pa_cons pe_str (pa_cons pe_str pa_nil))) (pa_cons (pe_tup (pa_cons pe_str (pa_cons pe_str pa_nil))) (pa_cons (pe_tup (pa_cons pe_str (pa_cons pe_str pa_nil))) pa_nil)))))) (pg_name (i := 4) sc__law_others_right.nd rfl (by first | exact .inl rfl | exact .inr rfl))) (pss_cons (ps_expr (pe_bm PySem.F.plainAttrs_list PySem.F.slot_list_append PySem.F.type_list_append mt_append (pv 4) (pa_cons (pe_tup (pa_cons pe_str (pa_cons pe_str pa_nil))) pa_nil))) (pss_cons (ps_asg (pe_op op_cat (pv 4) (pe_lst (pa_cons (pe_tup (pa_cons pe_str (pa_cons pe_str pa_nil))) (pa_cons (pe_tup (pa_cons pe_str (pa_cons pe_str pa_nil))) (pa_cons (pe_tup (pa_cons pe_str (pa_cons pe_int pa_nil))) (pa_cons (pe_tup (pa_cons pe_str (pa_cons pe_non pa_nil))) (pa_cons (pe_tup (pa_cons pe_str (pa_cons pe_str pa_nil))) (pa_cons (pe_tup (pa_cons pe_str (pa_cons pe_str pa_nil))) (pa_cons (pe_tup (pa_cons pe_non (pa_cons pe_str pa_nil))) pa_nil))))))))) (pg_name (i := 4) sc__law_others_right.nd rfl (by first | exact .inl rfl | exact .inr rfl))) (pss_cons (ps_asg (pe_c f__law_one hr (by omega) (by rfl) (pa_cons (pv 0) (pa_cons (pv 4) pa_nil))) (pg_tup rfl (pgs_cons (pg_name (i := 3) sc__law_others_right.nd rfl (by first | exact .inl rfl | exact .inr rfl)) (pgs_cons (pg_name (i := 5) sc__law_others_right.nd rfl (by first | exact .inl rfl | exact .inr rfl)) pgs_nil)))) (pss_one (ps_ret (pe_c f__law_is_refused hr (by omega) (by rfl) (pa_cons (pv 3) (pa_cons (pv 5) pa_nil))))))))))))), ?_, Nat.le_refl _, fun _ h => nomatch h⟩
  have hT := tx_all (oTx x).1 (oneT_all (p := fun l => l ∈ TXS) x TXS (List.cons_ne_nil _ _) fun _ h => h)
  have hTm : (oTx x).1 ∈ TXS := oneT_all (p := fun l => l ∈ TXS) x TXS (List.cons_ne_nil _ _) fun _ h => h
  have hLm : (oLk x).1 ∈ LKS := oneT_all (p := fun l => l ∈ LKS) (oTx x).2 LKS (List.cons_ne_nil _ _) fun _ h => h
  have hL := lk_all _ hLm
  refine es_seq (es_asg (s := .d (.str (oTx x).1)) (M1 := [wl (oTx x).2]) (ev_w (ds := [.lst (TXS.map Dt.str)]) (ea_cons (ev_var rfl) (ea_cons (ev_lst (xs := TXS.map Dt.str) (ea_cons (ev_str _) (ea_cons (ev_str _) (ea_cons (ev_str _) (ea_cons (ev_str _) (ea_cons (ev_str _) (ea_cons (ev_str _) (ea_cons (ev_str _) (ea_cons (ev_str _) (ea_cons (ev_str _) (ea_cons (ev_str _) (ea_cons (ev_str _) (ea_cons (ev_str _) (ea_cons (ev_str _) (ea_cons (ev_str _) ea_nil)))))))))))))) (show 14 ≤ 1000 by decide)) ea_nil)) (wg x) (R_oneI x TXS (List.cons_ne_nil _ _) (by decide)) (wg _) rfl)) ?_
  refine es_nG (G' := [_, _, _, _, _, _]) rfl ?_
  refine es_seq (es_asg (s := .d (.str (oLk x).1)) (M1 := [wl (oLk x).2]) (ev_w (ds := [.lst (LKS.map Dt.str)]) (ea_cons (ev_var rfl) (ea_cons (ev_lst (xs := LKS.map Dt.str) (ea_cons (ev_str _) (ea_cons (ev_str _) (ea_cons (ev_str _) (ea_cons (ev_str _) (ea_cons (ev_str _) (ea_cons (ev_str _) (ea_cons (ev_str _) (ea_cons (ev_str _) (ea_cons (ev_str _) (ea_cons (ev_str _) (ea_cons (ev_str _) (ea_cons (ev_str _) (ea_cons (ev_str _) ea_nil))))))))))))) (show 13 ≤ 1000 by decide)) ea_nil)) (wg _) (R_oneI (oTx x).2 LKS (List.cons_ne_nil _ _) (by decide)) (wg _) rfl)) ?_
  refine es_nG (G' := [_, _, _, _, _, _]) rfl ?_
  have eI : ∀ k, oIt x (k + 1) = (oneT (oIt x k) [(oTx x).1, (oLk x).1]).2 := fun _ => rfl
  have e0 : oIt x 0 = (oLk x).2 := rfl
  rw [← e0]
  generalize hI : oIt x = it at *
  show EvS K _ _ _ (.rt (.d (.bl true)) ([wl (oEnd x)] ++ [.gone]))
  have eE : oEnd x = (onP (it 5)).2 := by rw [← hI] <;> rfl
  rw [eE]
  generalize (oTx x).1 = tt at *
  generalize (oLk x).1 = lk at *
  refine es_pass (et_or (b := false) (c := false) (et_is (et_test (ev_op (ev_isD (ev_call0 (ds := [.str tStr, .str tt]) (es := []) (z := oS (lwL tStr tt)) (ea_cons (ev_str tStr) (ea_cons (ev_var rfl) ea_nil)) ⟨_, _, co_S hT.1, rfl, rfl, rfl, rfl⟩ rfl (fun _ => rfl)) (show _ = Dt.str tt by rw [hT.2] <;> rfl)) (ev_var rfl) ro_neS)) (by simp)) (fun _ => et_is (et_test (ev_op (ev_call0 (ds := [.str tStr, .str lk]) (es := []) (z := oS (lwL tStr lk)) (ea_cons (ev_str tStr) (ea_cons (ev_var rfl) ea_nil)) ⟨_, _, co_S hL.1, rfl, rfl, rfl, rfl⟩ rfl (fun _ => rfl)) ev_non ro_notN)) (by rw [hL.2] <;> rfl)) (fun _ => rfl)) ?_
  refine es_seq (G1 := [some (.o 0), some (.d (.str tt)), some (.d (.str lk)), none, none, none]) (M1 := [wl (it 5)]) ?_ ?_
  · refine es_forNn LDT 5 rfl Dt.str (fun _ => [some (.o 0), some (.d (.str tt)), some (.d (.str lk)), none, none, none]) (fun k => [wl (it k)]) (ei_tup (xs := LDT.map Dt.str) (ev_tup (ea_cons (ev_str _) (ea_cons (ev_str _) (ea_cons (ev_str _) (ea_cons (ev_str _) (ea_cons (ev_str _) ea_nil))))) (show 5 ≤ 1000 by decide))) (Lg.refl _) fun k t hk ht => ⟨_, eg_name, ?_⟩
    have htm : t ∈ LDT := List.mem_of_getElem? ht
    rw [eI]
    have hc : (oneT (it k) [tt, lk]).1 ∈ TXS ++ LKS := oneT_all (p := fun l => l ∈ TXS ++ LKS) (it k) [tt, lk] (List.cons_ne_nil _ _) fun y hy => by
      rcases List.mem_cons.mp hy with e | e
      · rw [e]; exact List.mem_append_left _ hTm
      · rw [List.mem_singleton.mp e]; exact List.mem_append_right _ hLm
    have hq := ld_all t htm _ hc
    exact es_nxw (es_no (et_is (et_test (ev_op (ev_call0 (ds := [.str t, .str (oneT (it k) [tt, lk]).1]) (es := []) (z := oS (lwL t (oneT (it k) [tt, lk]).1)) (M1 := [wl (oneT (it k) [tt, lk]).2]) (ea_cons (ev_var rfl) (ea_cons (ev_w (ds := [.lst ([tt, lk].map Dt.str)]) (ea_cons (ev_var rfl) (ea_cons (ev_lst (xs := [tt, lk].map Dt.str) (ea_cons (ev_var rfl) (ea_cons (ev_var rfl) ea_nil)) (show 2 ≤ 1000 by decide)) ea_nil)) (wg _) (R_oneI (it k) [tt, lk] (List.cons_ne_nil _ _) (show 2 ≤ 100000 by decide)) (wg _) rfl) ea_nil)) ⟨_, _, co_S hq.1, rfl, rfl, rfl, rfl⟩ rfl (fun _ => rfl)) ev_non ro_notN)) (by rw [hq.2] <;> rfl)) rfl es_next) (lg_cons (lg_cons (lg_cons (lg_cons (lg_cons (lg_cons lg_nil (.inl rfl)) (.inl rfl)) (.inr rfl)) (.inl rfl)) (.inl rfl)) (.inl rfl))
  generalize it 5 = y at *
  refine es_seq (es_asg (s := .o 1) (M1 := [wl y, .lst (W5.map pD)]) (ev_lstO (xs := W5.map pD) (ea_cons (ev_tup (xs := [_, _]) (ea_cons (ev_str _) (ea_cons (ev_str _) ea_nil)) (show 2 ≤ 1000 by decide)) (ea_cons (ev_tup (xs := [_, _]) (ea_cons (ev_str _) (ea_cons (ev_str _) ea_nil)) (show 2 ≤ 1000 by decide)) (ea_cons (ev_tup (xs := [_, _]) (ea_cons (ev_str _) (ea_cons (ev_str _) ea_nil)) (show 2 ≤ 1000 by decide)) (ea_cons (ev_tup (xs := [_, _]) (ea_cons (ev_str _) (ea_cons (ev_str _) ea_nil)) (show 2 ≤ 1000 by decide)) (ea_cons (ev_tup (xs := [_, _]) (ea_cons (ev_str _) (ea_cons (ev_str _) ea_nil)) (show 2 ≤ 1000 by decide)) ea_nil))))) (show 5 ≤ 1000 by decide))) ?_
  refine es_nG (G' := [_, _, _, _, _, _]) rfl ?_
  refine es_seq (es_appO (k := 1) (xs := W5.map pD) (x := pD W1p) (M2 := [wl y, .lst (W5.map pD)]) (ev_var rfl) (ev_tup (xs := [_, _]) (ea_cons (ev_str _) (ea_cons (ev_str _) ea_nil)) (show 2 ≤ 1000 by decide)) ⟨_, rfl⟩ rfl (show 5 < 1000000 by decide)) ?_
  refine es_nM (M' := [wl y, .lst ((W5 ++ [W1p]).map pD)]) rfl ?_
  refine es_seq (es_asg (s := .d (lstX K (((W5 ++ [W1p]) ++ W7).map pD))) (M1 := [wl y, .gone]) (ev_isD (ev_op (ev_freezeX (k := 1) (xs := (W5 ++ [W1p]).map pD) (ev_var rfl) rfl) (ev_lstX (xs := W7.map pD) (ea_cons (ev_tup (xs := [_, _]) (ea_cons (ev_str _) (ea_cons (ev_str _) ea_nil)) (show 2 ≤ 1000 by decide)) (ea_cons (ev_tup (xs := [_, _]) (ea_cons (ev_str _) (ea_cons (ev_str _) ea_nil)) (show 2 ≤ 1000 by decide)) (ea_cons (ev_tup (xs := [_, _]) (ea_cons (ev_str _) (ea_cons ev_int ea_nil)) (show 2 ≤ 1000 by decide)) (ea_cons (ev_tup (xs := [_, _]) (ea_cons (ev_str _) (ea_cons ev_non ea_nil)) (show 2 ≤ 1000 by decide)) (ea_cons (ev_tup (xs := [_, _]) (ea_cons (ev_str _) (ea_cons (ev_str _) ea_nil)) (show 2 ≤ 1000 by decide)) (ea_cons (ev_tup (xs := [_, _]) (ea_cons (ev_str _) (ea_cons (ev_str _) ea_nil)) (show 2 ≤ 1000 by decide)) (ea_cons (ev_tup (xs := [_, _]) (ea_cons ev_non (ea_cons (ev_str _) ea_nil)) (show 2 ≤ 1000 by decide)) ea_nil))))))) (show 7 ≤ 1000 by decide)) (ro_cat (show 6 + 7 ≤ 100000 by decide))) (by rw [← List.map_append]))) ?_
  refine es_nG (G' := [_, _, _, _, _, _]) rfl ?_
  refine es_seq (es_asgG (s := .d (pD (onP y).1)) (M1 := [wl (onP y).2, .gone]) (ev_wG (k := 0) (m := wl y) (m' := wl (onP y).2) (ds := [.lst (((W5 ++ [W1p]) ++ W7).map pD)]) (M1 := [wl y, .gone]) (ea_cons (ev_var rfl) (ea_cons (ev_wk (ev_var rfl) lstX_lst) ea_nil)) rfl (wg y) (R_onP y) (wg _) rfl) (eg_tup (egs_cons eg_name (egs_cons eg_name egs_nil)) rfl)) ?_
  refine es_nG (G' := [_, _, _, _, _, _]) rfl ?_
  have ok := onP_ok y
  generalize (onP y).1 = p at *
  exact es_ret (ev_call0 (ds := [p.1, p.2]) (es := []) (z := .bl true) (ea_cons (ev_var rfl) (ea_cons (ev_var rfl) ea_nil)) ⟨p.1, p.2, ok, rfl, rfl, rfl, rfl⟩ rfl (fun _ => rfl))
end
end T
namespace T
open PySem PySem.Spec PyProof.Rows L2 DJ LJ LamX
/-! ### the law: the table -/
abbrev s__law_table : Stmt := topS 43
abbrev N__law_table : List Str := ["_law_turn", "_law_signs", "_law_found", "_law_row", "_law_longer", "_law_word", "_law_key", "_law_known", "_law_sign"]
theorem sc__law_table : FnScope N__law_table [] (defScope s__law_table) := ⟨rfl, rfl, rfl, by decide +kernel, rfl, by decide +kernel, by decide +kernel⟩
def NAA : List Nat := [110, 111, 110, 101, 32, 97, 116, 32, 97, 108, 108]
abbrev fT : Tb → List Nat → Tb := tabS cW ltWb NAA
def tabK : Nat → Tb
  | 0 => []
  | k + 1 => (wordsK (k + 1)).foldl fT (tabK k)
def TabA (T : Tb) : Prop := ∀ kv ∈ T, kv.2.length ≤ 3 ∧ ∃ w e, chkL w = true ∧ cW w = some e ∧ kv.1 = [e.1, e.2]
theorem chk_e {w : List Nat} {e : List Nat × List Nat} (h : chkL w = true) (hw : cW w = some e) : ∃ u, lwL e.1 e.2 = some u ∧ chkC e.1 e.2 = true ∧ cW u = some e ∧ u ≠ [] ∧ u.length ≤ 3 ∧ (∀ c ∈ u, c ∈ SGNS) ∧ ltWb w u = false := by
  unfold chkL at h
  rw [hw] at h
  cases hu : lwL e.1 e.2 with
  | none =>
    simp only [hu] at h
    cases h
  | some u =>
    simp only [hu, Bool.and_eq_true, decide_eq_true_eq, Bool.not_eq_true', List.all_eq_true, decide_eq_false_iff_not] at h
    obtain ⟨h1, h2, h3, h4, h5, h6⟩ := h
    exact ⟨u, rfl, h1, h2, h3, h4, h5, h6⟩
theorem asc_tab {T : Tb} (h : TabA T) : AscTb T := fun kv hk l hl => by
  obtain ⟨_, w, e, h1, h2, h3⟩ := h kv hk
  obtain ⟨u, _, h4, _⟩ := chk_e h1 h2
  rw [h3] at hl
  refine strOk_asc ?_
  unfold chkC at h4
  simp only [Bool.and_eq_true, Bool.or_eq_true, decide_eq_true_eq, Bool.not_eq_true'] at h4
  obtain ⟨_, _, _, h5, _, h6⟩ := h4
  rcases List.mem_cons.mp hl with z | z
  · rw [z]
    rcases h6 with ⟨z, _⟩ | ⟨z, _⟩ <;> rw [z] <;> decide
  · rw [List.mem_singleton.mp z]
    exact h5
theorem tabA_step {T : Tb} {w : List Nat} (h : TabA T) (hw : chkL w = true) (hl : w.length ≤ 3) : TabA (fT T w) := by
  show TabA (tabS cW ltWb NAA T w)
  unfold tabS
  cases hc : cW w with
  | none => exact h
  | some e =>
    show TabA (if ltWb w ((getTb T [e.1, e.2]).getD NAA) = true then putTb T [e.1, e.2] w else T)
    split
    · intro kv hk
      unfold putTb at hk
      split at hk
      · obtain ⟨x, hx, rfl⟩ := List.mem_map.mp hk
        obtain ⟨h0, a, b, h1, h2, h3⟩ := h x hx
        refine ⟨?_, a, b, h1, h2, ?_⟩
        · split
          · exact hl
          · exact h0
        · rw [← h3]
          split <;> rfl
      · rcases List.mem_append.mp hk with z | z
        · exact h kv z
        · rw [List.mem_singleton.mp z]
          exact ⟨hl, w, e, hw, hc, rfl⟩
    · exact h
theorem tabA_fold : ∀ (ws : List (List Nat)) {T : Tb}, TabA T → (∀ w ∈ ws, chkL w = true ∧ w.length ≤ 3) → TabA (ws.foldl fT T)
  | [], _, h, _ => h
  | w :: ws, T, h, hw => tabA_fold ws (tabA_step h (hw w List.mem_cons_self).1 (hw w List.mem_cons_self).2) fun x hx => hw x (List.mem_cons_of_mem w hx)
theorem fT_len (T : Tb) (w : List Nat) : (fT T w).length ≤ T.length + 1 := by
  show (tabS cW ltWb NAA T w).length ≤ _
  unfold tabS
  cases cW w with
  | none => exact Nat.le_succ _
  | some e =>
    show (if ltWb w ((getTb T [e.1, e.2]).getD NAA) = true then putTb T [e.1, e.2] w else T).length ≤ _
    split
    · unfold putTb
      split
      · rw [List.length_map]; exact Nat.le_succ _
      · rw [List.length_append]; exact Nat.le_refl _
    · exact Nat.le_succ _
theorem fold_len : ∀ (ws : List (List Nat)) (T : Tb), (ws.foldl fT T).length ≤ T.length + ws.length
  | [], _ => Nat.le_refl _
  | w :: ws, T => by
    have h1 := fold_len ws (fT T w)
    have h2 := fT_len T w
    rw [List.foldl_cons, List.length_cons]
    omega
theorem chl_all {n : Nat} (h1 : 1 ≤ n) (h3 : n ≤ 3) : ∀ w ∈ wordsK n, chkL w = true := by
  have : n = 1 ∨ n = 2 ∨ n = 3 := by omega
  rcases this with rfl | rfl | rfl
  · exact List.all_eq_true.mp chl1
  · exact List.all_eq_true.mp chl2
  · exact List.all_eq_true.mp chl3
theorem chk_all {n : Nat} (h1 : 1 ≤ n) (h3 : n ≤ 3) : ∀ w ∈ wordsK n, CwOk w := by
  have : n = 1 ∨ n = 2 ∨ n = 3 := by omega
  rcases this with rfl | rfl | rfl
  · exact fun w h => chk_ok (List.all_eq_true.mp chk1 w h)
  · exact fun w h => chk_ok (List.all_eq_true.mp chk2 w h)
  · exact fun w h => chk_ok (List.all_eq_true.mp chk3 w h)
theorem tabA_K : ∀ {n : Nat}, n ≤ 3 → TabA (tabK n)
  | 0, _ => fun _ h => nomatch h
  | n + 1, h => tabA_fold _ (tabA_K (n := n) (by omega)) fun w hw => ⟨chl_all (by omega) h w hw, (chk_all (by omega) h w hw).len⟩
theorem longer_len : ∀ r : List (List Nat), (longer r).length = 15 * r.length
  | [] => rfl
  | w :: r => by
    have e : longer (w :: r) = (SGNS.map fun c => w ++ [c]) ++ longer r := rfl
    rw [e, List.length_append, List.length_map, longer_len r]
    show 15 + 15 * r.length = 15 * (r.length + 1)
    omega
theorem words_n : (wordsK 0).length = 1 ∧ (wordsK 1).length = 15 ∧ (wordsK 2).length = 225 ∧ (wordsK 3).length = 3375 := by
  have e : ∀ k, (wordsK (k + 1)).length = 15 * (wordsK k).length := fun k => longer_len _
  have e0 : (wordsK 0).length = 1 := rfl
  have e1 : (wordsK 1).length = 15 * (wordsK 0).length := e 0
  have e2 : (wordsK 2).length = 15 * (wordsK 1).length := e 1
  have e3 : (wordsK 3).length = 15 * (wordsK 2).length := e 2
  omega
theorem words_le {n : Nat} (h : n ≤ 3) : (wordsK n).length ≤ 3375 := by
  obtain ⟨a, b, c, d⟩ := words_n
  have : n = 0 ∨ n = 1 ∨ n = 2 ∨ n = 3 := by omega
  rcases this with rfl | rfl | rfl | rfl <;> omega
theorem tab_len : ∀ {n : Nat}, n ≤ 3 → (tabK n).length ≤ n * 3375
  | 0, _ => Nat.zero_le _
  | n + 1, h => by
    have h1 := tab_len (n := n) (by omega)
    have h2 := fold_len (wordsK (n + 1)) (tabK n)
    have h3 := words_le h
    show ((wordsK (n + 1)).foldl fT (tabK n)).length ≤ _
    rw [Nat.succ_mul]
    omega
theorem take_s {α : Type} {xs : List α} {i : Nat} {x : α} (h : xs[i]? = some x) : xs.take (i + 1) = xs.take i ++ [x] := by
  rw [List.take_add_one, h] <;> rfl
section
variable {K : PySem.W.Frag} {G : List (Option Sl)} {M : List MO} {te : TE}
theorem ev_lcMX {β : Type} {wi : TI} {g : TG} {vs : List Nat} (xs : List β) (en f : β → Dt) (hI : EvI K wi G M (xs.map en) M) (hx : xs.length ≤ 100000)
    (hw : ∀ v σ H Q, g v (wipe σ vs) H (fun σ2 H2 => wipe σ2 vs = wipe σ vs → Q σ2 H2) → g v (wipe σ vs) H Q) (turn : ∀ x, x ∈ xs → ∃ G1, EvG K g (wipeG G vs) (.d (en x)) G1 ∧ EvE K te G1 M (.d (f x)) M) :
    EvE K (tLc wi g tYes te vs) G M (.d (lstX K (xs.map f))) M := by
  rw [← mapS_map f xs ()]
  exact ev_lcX xs en (fun _ => M) (fun (_ : Unit) x => some (f x, ())) (fun m _ => m) () hI hx hw fun m x hm => by
    obtain ⟨G1, h1, h2⟩ := turn x hm
    exact ⟨G1, h1, M, et_yes, h2⟩
theorem ro_notK {ks : List (List Nat)} : RO K (fun x y H Q => y = .non ∧ Q (.bl (!decide (x = .non))) H) (keyD ks) .non (.bl true) := fun F B as M H v u Q ow r1 r2 k => by
  obtain ⟨a, rfl, _⟩ := r1 B (Same.refl B)
  exact ⟨r2, k _ B H (Gr.refl F B) ow (by simp [Rp])⟩
theorem ro_notNn : RO K (fun x y H Q => y = .non ∧ Q (.bl (!decide (x = .non))) H) .non .non (.bl false) := fun F B as M H v u Q ow r1 r2 k => by
  have r1 : v = .non := r1
  subst r1
  exact ⟨r2, k _ B H (Gr.refl F B) ow (by simp [Rp])⟩
end
section
variable {P : Program} {w : World} {K : PySem.W.Frag} {mg : Str → Option Value} {base : Heap}
def R_tabG (T : Tb) : List Sl → List MO → Sl → List MO → Prop := fun ss M r M' => ss = [] ∧ M = [] ∧ r = .d (dicD T) ∧ M' = []
theorem cal_tab {k : Nat} (D : Df K mg "_law_table" s__law_table []) (f__law_content : Cal P w K mg base (k + 1) "_law_content" (SpR K 1 R_cw) []) (m_range : mg "range" = none) (m_len : mg "len" = none) : Cal P w K mg base (k + 2) "_law_table" (SpR K 0 (R_tabG (tabK 3))) [] := by
  refine cal_mk (k := k + 1) D sc__law_table rfl fun f cdv A outer s H E hr ss M r M' h => ?_
  obtain ⟨rfl, rfl, rfl, rfl⟩ := h
  refine ⟨_, [.gone], (pss_cons (ps_par3 (i := 1) (j := 2) (l := 3) (by rfl) sc__law_table.nd rfl rfl rfl (by decide) (by decide) (by decide) rfl rfl rfl (pa_cons pe_str (pa_cons pe_dnewT (pa_cons (pe_lst (pa_cons pe_str pa_nil)) pa_nil))) (by rfl)) (pss_cons (ps_for PassesOwn.never rfl (pi_range1 (by rfl) m_range (pa_cons pe_int pa_nil)) (pg_name (i := 0) sc__law_table.nd rfl (by first | exact .inl rfl | exact .inr rfl)) (pss_cons (ps_asg (pe_lst pa_nil) (pg_name (i := 4) sc__law_table.nd rfl (by first | exact .inl rfl | exact .inr rfl))) (pss_cons (ps_for PassesOwn.never rfl (pi_list (pv 3)) (pg_name (i := 5) sc__law_table.nd rfl (by first | exact .inl rfl | exact .inr rfl)) (pss_one (ps_expr (pe_bm PySem.F.plainAttrs_list PySem.F.slot_list_extend PySem.F.type_list_extend mt_extend (pv 4) (pa_cons (pe_lc (own := [("_law_sign", 8)]) (g := (gName 8)) (by rfl) sc__law_table.nd (pi_str (pv 1)) (blkOk_by (own := [("_law_sign", 8)]) (N := N__law_table) (sc := defScope s__law_table) (by decide +kernel)) (fun _ _ _ _ _ => pg_name (i := 8) sc__law_table.nd rfl (by first | exact .inl rfl | exact .inr rfl)) (fun _ _ _ _ _ => pts_nil) (fun _ _ _ _ _ => (pe_op op_add_str (pv 5) (pv 8)))) pa_nil))))) (pss_cons (ps_asg (pv 4) (pg_name (i := 3) sc__law_table.nd rfl (by first | exact .inl rfl | exact .inr rfl))) (pss_one (ps_for PassesOwn.never rfl (pi_list (pv 3)) (pg_name (i := 5) sc__law_table.nd rfl (by first | exact .inl rfl | exact .inr rfl)) (pss_cons (ps_asg (pe_c f__law_content hr (by omega) (by rfl) (pa_cons (pv 5) pa_nil)) (pg_name (i := 6) sc__law_table.nd rfl (by first | exact .inl rfl | exact .inr rfl))) (pss_cons (ps_asg (pe_getN (room1 hr) (pv 2) (pv 6) pe_str ⟨by rfl, by rfl, by rfl, by rfl⟩) (pg_name (i := 7) sc__law_table.nd rfl (by first | exact .inl rfl | exact .inr rfl))) (pss_one (ps_if (PW.pt (pw_and (pt_cmpR op_notN (pv 6) pe_non (nomark _)) (pw_and1 (pt_cmpR (op_ltT (hr.mono (Nat.zero_le _))) (pe_tup (pa_cons (pe_callB call_len_str (by rfl) m_len PySem.boot_len (pa_cons (pv 5) pa_nil)) (pa_cons (pv 5) pa_nil))) (pe_tup (pa_cons (pe_callB call_len_str (by rfl) m_len PySem.boot_len (pa_cons (pv 7) pa_nil)) (pa_cons (pv 7) pa_nil))) (nomark _))))) (pss_one (ps_dput (room1 hr) (pv 2) (pv 6) (pv 5) (by rfl))) pss_nil)))))))))) (pss_one (ps_ret (pv 2))))), ?_, Nat.le_refl _, fun _ h => nomatch h⟩
  refine es_seq (es_par3 (x := .d (.str SGNS)) (y := .o 0) (z := .d (.lst [.str []])) (M1 := [dcO []]) (ea_cons (ev_str SGNS) (ea_cons ev_dnewT (ea_cons (ev_lst (xs := [.str []]) (ea_cons (ev_str []) ea_nil) (by decide)) ea_nil)))) ?_
  refine es_nG (G' := [_, _, _, _, _, _, _, _, _]) rfl ?_
  refine es_seq (G1 := [none, some (.d (.str SGNS)), some (.o 0), some (.d (.lst ((wordsK 3).map .str))), none, none, none, none, none]) (M1 := [dcO (tabK 3)]) ?_ ?_
  · refine es_rngl 3 (m := 3) (Gn := fun k => [none, some (.d (.str SGNS)), some (.o 0), some (.d (.lst ((wordsK k).map .str))), none, none, none, none, none]) (Mn := fun k => [dcO (tabK k)]) (ea_cons ev_int ea_nil) rfl (by decide) (Lg.refl _) fun k hk => ⟨_, eg_name, ?_⟩
    refine es_nxU (M' := [dcO (tabK (k + 1))]) (X := [.gone]) ?_ rfl (by simp)
    have hlk := words_le (n := k) (by omega)
    have hl1 := words_le (n := k + 1) (by omega)
    have htl := tab_len (n := k) (by omega)
    have htA := tabA_K (n := k) (by omega)
    have hcl := chl_all (n := k + 1) (by omega) (by omega)
    have hcw := chk_all (n := k + 1) (by omega) (by omega)
    have hwl : (wordsK (k + 1)).length = 15 * (wordsK k).length := longer_len _
    have ew : wordsK (k + 1) = longer (wordsK k) := rfl
    have et : tabK (k + 1) = (wordsK (k + 1)).foldl fT (tabK k) := rfl
    rw [et]
    refine es_seq (es_asg (s := .o 1) (M1 := [dcO (tabK k), .lst []]) (ev_lstO (xs := []) ea_nil (by decide))) ?_
    refine es_nG (G' := [_, _, _, _, _, _, _, _, _]) rfl ?_
    refine es_seq (G1 := [some (.d (.int (k : Nat))), some (.d (.str SGNS)), some (.o 0), some (.d (.lst ((wordsK k).map .str))), some (.o 1), none, none, none, none]) (M1 := [dcO (tabK k), .lst ((wordsK (k + 1)).map .str)]) ?_ ?_
    · rw [ew]
      refine es_nxM (es_forN (K := K) (wordsK k) Dt.str (fun _ => [some (.d (.int (k : Nat))), some (.d (.str SGNS)), some (.o 0), some (.d (.lst ((wordsK k).map .str))), some (.o 1), none, none, none, none]) (fun i => [dcO (tabK k), .lst ((longer ((wordsK k).take i)).map .str)]) (ei_list (ev_var (i := 3) (M := [dcO (tabK k), .lst ((longer ((wordsK k).take 0)).map .str)]) rfl)) (Lg.refl [some (.d (.int (k : Nat))), some (.d (.str SGNS)), some (.o 0), some (.d (.lst ((wordsK k).map .str))), some (.o 1), none, none, none, none]) fun i x hx => ⟨_, eg_name (i := 5), .inl (es_nxw (es_nxM (es_extO (k := 1) (xs := (longer ((wordsK k).take i)).map .str) (ys := SGNS.map fun c => .str (x ++ [c])) (M2 := [dcO (tabK k), .lst ((longer ((wordsK k).take i)).map .str)]) (ev_var (i := 4) rfl) (ev_lcMX SGNS (fun c => .str [c]) (fun c => .str (x ++ [c])) (ei_str (ev_var rfl)) (by decide) (hw_name (by decide)) fun c hc => ⟨_, eg_name, ev_op (ev_var rfl) (ev_var rfl) (ro_addS ?_)⟩) ⟨_, rfl⟩ rfl ?_) ?_) ?_)⟩) (by show [dcO (tabK k), MO.lst _] = [dcO (tabK k), MO.lst _]; rw [List.take_length])
      · have := (hcw (x ++ [c]) (List.mem_flatMap.mpr ⟨x, List.mem_of_getElem? hx, List.mem_map.mpr ⟨c, hc, rfl⟩⟩)).len
        rw [List.length_append] at this
        show _ + 1 ≤ _
        have h2 : ([c] : List Nat).length = 1 := rfl
        omega
      · rw [List.length_map, List.length_map, longer_len, List.length_take]
        show _ + 15 < _
        omega
      · show [dcO (tabK k), MO.lst _] = [dcO (tabK k), MO.lst _]
        rw [take_s hx]
        congr 2
        unfold longer
        rw [List.flatMap_append, List.map_append, List.flatMap_cons, List.flatMap_nil, List.append_nil, List.map_map] <;> rfl
      · exact lg_cons (lg_cons (lg_cons (lg_cons (lg_cons (lg_cons (lg_cons (lg_cons (lg_cons lg_nil (.inl rfl)) (.inl rfl)) (.inl rfl)) (.inr rfl)) (.inl rfl)) (.inl rfl)) (.inl rfl)) (.inl rfl)) (.inl rfl)
    refine es_seq (es_asg (s := .d (.lst ((wordsK (k + 1)).map .str))) (M1 := [dcO (tabK k), .gone]) (ev_wk (ev_freezeX (k := 1) (xs := (wordsK (k + 1)).map .str) (ev_var rfl) rfl) lstX_lst)) ?_
    refine es_nG (G' := [_, _, _, _, _, _, _, _, _]) rfl ?_
    refine es_nxw (es_nxM (es_forN (K := K) (wordsK (k + 1)) Dt.str (fun _ => [some (.d (.int (k : Nat))), some (.d (.str SGNS)), some (.o 0), some (.d (.lst ((wordsK (k + 1)).map .str))), none, none, none, none, none]) (fun i => [dcO (((wordsK (k + 1)).take i).foldl fT (tabK k)), .gone]) (ei_list (ev_var (i := 3) (M := [dcO (tabK k), .gone]) rfl)) (G := [some (.d (.int (k : Nat))), some (.d (.str SGNS)), some (.o 0), some (.d (.lst ((wordsK (k + 1)).map .str))), some (.o 1), none, none, none, none]) (lg_cons (lg_cons (lg_cons (lg_cons (lg_cons (lg_cons (lg_cons (lg_cons (lg_cons lg_nil (.inl rfl)) (.inl rfl)) (.inl rfl)) (.inl rfl)) (.inr rfl)) (.inl rfl)) (.inl rfl)) (.inl rfl)) (.inl rfl)) fun i x hx => ⟨_, eg_name (i := 5), .inl ?_⟩) (by show [dcO _, MO.gone] = [dcO _, MO.gone]; rw [List.take_length])) (lg_cons (lg_cons (lg_cons (lg_cons (lg_cons (lg_cons (lg_cons (lg_cons (lg_cons lg_nil (.inl rfl)) (.inl rfl)) (.inl rfl)) (.inl rfl)) (.inl rfl)) (.inl rfl)) (.inl rfl)) (.inl rfl)) (.inr rfl))
    have hm := List.mem_of_getElem? hx
    have hA : TabA (((wordsK (k + 1)).take i).foldl fT (tabK k)) := tabA_fold _ htA fun y hy => ⟨hcl y (List.mem_of_mem_take hy), (hcw y (List.mem_of_mem_take hy)).len⟩
    have hL := fold_len ((wordsK (k + 1)).take i) (tabK k)
    rw [List.length_take] at hL
    have hO := hcw x hm
    have hxl := hO.len
    rw [take_s hx, List.foldl_append]
    show EvS K _ _ _ (.nx _ [dcO (fT (((wordsK (k + 1)).take i).foldl fT (tabK k)) x), .gone])
    generalize ((wordsK (k + 1)).take i).foldl fT (tabK k) = T0 at *
    refine es_seq (es_asg (s := .d (oP (cW x))) (M1 := [dcO T0, .gone]) (ev_call0 (ds := [.str x]) (es := []) (z := oP (cW x)) (ea_cons (ev_var rfl) ea_nil) ⟨x, hO, rfl, rfl, rfl, rfl⟩ rfl (fun _ => rfl))) ?_
    refine es_nG (G' := [_, _, _, _, _, _, _, _, _]) rfl ?_
    have eo : fT T0 x = (match cW x with | none => T0 | some k => if ltWb x ((getTb T0 [k.1, k.2]).getD NAA) = true then putTb T0 [k.1, k.2] x else T0) := rfl
    rw [eo]
    cases hc : cW x with
    | none =>
      refine es_seq (es_asg (s := .d (.str NAA)) (M1 := [dcO T0, .gone]) (ev_getN (k := 0) (ks := none) (kvs := T0) (kv0 := T0) (ev_var rfl) (ev_var rfl) (ev_str NAA) rfl rfl (asc_tab hA))) ?_
      refine es_nG (G' := [_, _, _, _, _, _, _, _, _]) rfl ?_
      exact es_nxw (es_no (et_and (b := false) (c := false) (et_test (ev_op (ev_var rfl) ev_non ro_notNn)) (fun z => nomatch z) (fun _ => rfl)) rfl es_next) (lg_cons (lg_cons (lg_cons (lg_cons (lg_cons (lg_cons (lg_cons (lg_cons (lg_cons lg_nil (.inl rfl)) (.inr rfl)) (.inr rfl)) (.inr rfl)) (.inl rfl)) (.inl rfl)) (.inl rfl)) (.inl rfl)) (.inl rfl))
    | some e =>
      have hkn : ((getTb T0 [e.1, e.2]).getD NAA).length ≤ 100 := by
        unfold getTb
        cases hf : T0.find? (fun kv => decide (kv.1 = [e.1, e.2])) with
        | none => show NAA.length ≤ 100; decide
        | some kv =>
          have := (hA kv (List.mem_of_find?_eq_some hf)).1
          show kv.2.length ≤ 100
          omega
      refine es_seq (es_asg (s := .d (.str ((getTb T0 [e.1, e.2]).getD NAA))) (M1 := [dcO T0, .gone]) (ev_getN (k := 0) (ks := some [e.1, e.2]) (kvs := T0) (kv0 := T0) (ev_var rfl) (ev_var rfl) (ev_str NAA) rfl rfl (asc_tab hA))) ?_
      refine es_nG (G' := [_, _, _, _, _, _, _, _, _]) rfl ?_
      show EvS K _ _ _ (.nx _ [dcO (if ltWb x ((getTb T0 [e.1, e.2]).getD NAA) = true then putTb T0 [e.1, e.2] x else T0), .gone])
      generalize (getTb T0 [e.1, e.2]).getD NAA = kn at *
      have TT : EvT K _ _ [dcO T0, .gone] (true && ltWb x kn) [dcO T0, .gone] := et_and (et_test (ev_op (ev_var (G := [some (.d (.int (k : Nat))), some (.d (.str SGNS)), some (.o 0), some (.d (.lst ((wordsK (k + 1)).map .str))), none, some (.d (.str x)), some (.d (keyD [e.1, e.2])), some (.d (.str kn)), none]) (i := 6) rfl) ev_non ro_notK)) (fun _ => et_is (et_test (ev_op (ev_tup (xs := [.int (x.length : Nat), .str x]) (ea_cons (ev_cb (xs := [.str x]) (ea_cons (ev_var (i := 5) rfl) ea_nil) (rc_lenS (by omega))) (ea_cons (ev_var (i := 5) rfl) ea_nil)) (show 2 ≤ 1000 by decide)) (ev_tup (xs := [.int (kn.length : Nat), .str kn]) (ea_cons (ev_cb (xs := [.str kn]) (ea_cons (ev_var (i := 7) rfl) ea_nil) (rc_lenS (by omega))) (ea_cons (ev_var (i := 7) rfl) ea_nil)) (show 2 ≤ 1000 by decide)) ro_ltT)) (lt_b x kn).symm) (fun z => nomatch z)
      by_cases hb : ltWb x kn = true
      · rw [if_pos hb]
        exact es_nxw (es_yes TT hb (es_put (k := 0) (kvs := T0) (ks := [e.1, e.2]) (ev_var rfl) (ev_var rfl) (ev_var rfl) rfl (by omega))) (lg_cons (lg_cons (lg_cons (lg_cons (lg_cons (lg_cons (lg_cons (lg_cons (lg_cons lg_nil (.inl rfl)) (.inr rfl)) (.inr rfl)) (.inr rfl)) (.inl rfl)) (.inl rfl)) (.inl rfl)) (.inl rfl)) (.inl rfl))
      · rw [if_neg hb]
        exact es_nxw (es_no TT (Bool.eq_false_iff.mpr hb) es_next) (lg_cons (lg_cons (lg_cons (lg_cons (lg_cons (lg_cons (lg_cons (lg_cons (lg_cons lg_nil (.inl rfl)) (.inr rfl)) (.inr rfl)) (.inr rfl)) (.inl rfl)) (.inl rfl)) (.inl rfl)) (.inl rfl)) (.inl rfl))
  exact es_ret (ev_freezeT (k := 0) (ev_var rfl) rfl)
end
end T
namespace T
open PySem PySem.Spec PyProof.Rows L2 DJ LJ LamX
/-! ### the law: the table's words are the program's -/
theorem lt_f {u v : List Nat} : ltWb u v = false ↔ v.length < u.length ∨ (v.length = u.length ∧ v ≤ u) := by
  unfold ltWb
  by_cases h : u.length = v.length
  · rw [if_pos h, decide_eq_false_iff_not, List.not_lt]
    exact ⟨fun z => .inr ⟨h.symm, z⟩, fun z => z.elim (fun z => absurd h (by omega)) fun z => z.2⟩
  · rw [if_neg h, decide_eq_false_iff_not]
    exact ⟨fun z => .inl (by omega), fun z => z.elim (fun z => by omega) fun z => absurd z.1 (by omega)⟩
theorem lt_refl (u : List Nat) : ltWb u u = false := lt_f.mpr (.inr ⟨rfl, List.le_refl u⟩)
theorem lt_trans {a b c : List Nat} (h1 : ltWb b a = false) (h2 : ltWb c b = false) : ltWb c a = false := by
  rw [lt_f] at *
  rcases h1 with h1 | ⟨h1, g1⟩ <;> rcases h2 with h2 | ⟨h2, g2⟩
  · exact .inl (by omega)
  · exact .inl (by omega)
  · exact .inl (by omega)
  · exact .inr ⟨by omega, List.le_trans g1 g2⟩
theorem lt_anti {a b : List Nat} (h1 : ltWb a b = false) (h2 : ltWb b a = false) : a = b := by
  rw [lt_f] at *
  rcases h1 with h1 | ⟨h1, g1⟩ <;> rcases h2 with h2 | ⟨h2, g2⟩
  · omega
  · omega
  · omega
  · exact List.le_antisymm g2 g1
theorem lt_asym {a b : List Nat} (h : ltWb a b = true) : ltWb b a = false := by
  cases e : ltWb b a with
  | false => rfl
  | true =>
    exfalso
    unfold ltWb at h e
    by_cases z : a.length = b.length
    · rw [if_pos z] at h
      rw [if_pos z.symm] at e
      exact List.lt_irrefl a (List.lt_trans (of_decide_eq_true h) (of_decide_eq_true e))
    · rw [if_neg z] at h
      rw [if_neg (Ne.symm z)] at e
      have h1 := of_decide_eq_true h
      have h2 := of_decide_eq_true e
      omega
theorem mem_words : ∀ {n : Nat} {w : List Nat}, w.length = n → (∀ c ∈ w, c ∈ SGNS) → w ∈ wordsK n
  | 0, w, h, _ => by rw [List.length_eq_zero_iff.mp h]; exact List.mem_singleton.mpr rfl
  | n + 1, w, h, hc => by
    have hne : w ≠ [] := fun z => by rw [z] at h; cases h
    have e := List.dropLast_concat_getLast hne
    have h1 : w.dropLast ∈ wordsK n := mem_words (by rw [List.length_dropLast]; omega) fun c h => hc c (List.dropLast_subset w h)
    have h2 : w.getLast hne ∈ SGNS := hc _ (List.getLast_mem hne)
    rw [← e]
    exact List.mem_flatMap.mpr ⟨w.dropLast, h1, List.mem_map.mpr ⟨_, h2, rfl⟩⟩
def SoFar (n : Nat) (w : List Nat) : Prop := ∃ j, 1 ≤ j ∧ j ≤ n ∧ w ∈ wordsK j
theorem tab_so : ∀ {n : Nat}, n ≤ 3 → TabOk cW ltWb (tabK n) (SoFar n)
  | 0, _ => ⟨fun _ _ _ h => by obtain ⟨j, a, b, _⟩ := h; omega, fun k v h => nomatch h⟩
  | n + 1, hn => by
    have h := tab_all cW ltWb NAA lt_refl (fun _ _ => lt_asym) (fun _ _ _ => lt_trans) (wordsK (n + 1)) (tab_so (n := n) (by omega)) fun w hw => by
      have := (chk_all (by omega) hn w hw).len
      unfold ltWb
      have e : NAA.length = 11 := rfl
      rw [if_neg (by omega)]
      exact decide_eq_true (by omega)
    refine ⟨fun e w hw hs => h.all e w hw ?_, fun k v hv => ?_⟩
    · obtain ⟨j, a, b, c⟩ := hs
      by_cases z : j = n + 1
      · exact .inr (z ▸ c)
      · exact .inl ⟨j, a, by omega, c⟩
    · obtain ⟨e, a, b, c⟩ := h.key k v hv
      refine ⟨e, a, b, ?_⟩
      rcases c with ⟨j, c1, c2, c3⟩ | c
      · exact ⟨j, c1, by omega, c3⟩
      · exact ⟨n + 1, by omega, Nat.le_refl _, c⟩
def kP (k : List (List Nat)) : P2 := (k.getD 0 [], k.getD 1 [])
def keysT : List P2 := (tabK 3).map fun kv => kP kv.1
theorem keys_is : (tabK 3).map (·.1) = keysT.map fun e => [e.1, e.2] := by
  unfold keysT
  rw [List.map_map]
  refine List.map_congr_left fun kv hk => ?_
  obtain ⟨_, w, e, _, _, h3⟩ := tabA_K (n := 3) (Nat.le_refl _) kv hk
  show kv.1 = [(kP kv.1).1, (kP kv.1).2]
  rw [h3] <;> rfl
theorem keys_len : keysT.length ≤ 100000 := by
  have := tab_len (n := 3) (Nat.le_refl _)
  unfold keysT
  rw [List.length_map]
  omega
theorem lex_f {e f : P2} : lexL f e = false ↔ e.1 < f.1 ∨ (e.1 = f.1 ∧ e.2 ≤ f.2) := by
  unfold lexL
  by_cases h : f.1 = e.1
  · rw [if_pos h, decide_eq_false_iff_not, List.not_lt]
    exact ⟨fun z => .inr ⟨h.symm, z⟩, fun z => z.elim (fun z => by rw [h] at z; exact absurd z (List.lt_irrefl _)) fun z => z.2⟩
  · rw [if_neg h, decide_eq_false_iff_not, List.not_lt]
    refine ⟨fun z => .inl ?_, fun z => z.elim (fun z => List.not_lt.mp fun y => List.lt_irrefl _ (List.lt_trans z y)) fun z => absurd z.1.symm h⟩
    by_cases y : e.1 < f.1
    · exact y
    · exact absurd (List.le_antisymm (List.not_lt.mp y) z) h
theorem lex_total (a b : P2) : lexL a b = false ∨ lexL b a = false := by
  rw [lex_f, lex_f]
  by_cases h : a.1 = b.1
  · rcases List.le_total a.2 b.2 with z | z
    · exact .inr (.inr ⟨h, z⟩)
    · exact .inl (.inr ⟨h.symm, z⟩)
  · by_cases y : a.1 < b.1
    · exact .inr (.inl y)
    · refine .inl (.inl ?_)
      by_cases x : b.1 < a.1
      · exact x
      · exact absurd (List.le_antisymm (List.not_lt.mp x) (List.not_lt.mp y)) h
theorem lex_trans {a b c : P2} (h1 : lexL b a = false) (h2 : lexL c b = false) : lexL c a = false := by
  rw [lex_f] at *
  rcases h1 with h1 | ⟨h1, g1⟩ <;> rcases h2 with h2 | ⟨h2, g2⟩
  · exact .inl (List.lt_trans h1 h2)
  · exact .inl (h2 ▸ h1)
  · exact .inl (h1 ▸ h2)
  · exact .inr ⟨h1.trans h2, List.le_trans g1 g2⟩
def sortT : List P2 := keysT.mergeSort fun e f => !lexL f e
theorem sort_perm : sortT.Perm keysT := List.mergeSort_perm _ _
theorem sort_so : sortT.Pairwise fun e f => lexL f e = false := by
  have h := List.pairwise_mergeSort (le := fun e f => !lexL f e) (fun a b c h1 h2 => by
    rw [Bool.not_eq_true'] at *
    exact lex_trans h1 h2) (fun a b => by
    rcases lex_total b a with z | z
    · simp [z]
    · simp [z]) keysT
  exact h.imp fun z => by simpa using z
/-- each key's word in the table is the program's -/
theorem key_ok {e : P2} (h : e ∈ sortT) : ∃ v, getTb (tabK 3) [e.1, e.2] = some v ∧ lwL e.1 e.2 = some v ∧ CoOk e.1 e.2 := by
  have hk := sort_perm.mem_iff.mp h
  have hT := tab_so (n := 3) (Nat.le_refl _)
  have hm : [e.1, e.2] ∈ (tabK 3).map (·.1) := by rw [keys_is]; exact List.mem_map.mpr ⟨e, hk, rfl⟩
  obtain ⟨kv, hkv, ek⟩ := List.mem_map.mp hm
  have hg : ∃ v, getTb (tabK 3) [e.1, e.2] = some v := by
    unfold getTb
    cases hf : (tabK 3).find? (fun kv => decide (kv.1 = [e.1, e.2])) with
    | none => exact absurd (List.find?_eq_none.mp hf kv hkv) (by simpa using ek)
    | some y => exact ⟨y.2, rfl⟩
  obtain ⟨v, hv⟩ := hg
  obtain ⟨e', h1, h2, j, j1, j3, hj⟩ := hT.key _ _ hv
  have he : e = e' := two_inj h1
  subst he
  obtain ⟨u, u1, u2, u3, u4, u5, u6, u7⟩ := chk_e (chl_all j1 j3 v hj) h2
  have hul : 1 ≤ u.length := List.length_pos_iff.mpr u4
  obtain ⟨v', h3, h4⟩ := hT.all e u u3 ⟨u.length, hul, u5, mem_words rfl u6⟩
  rw [hv] at h3
  cases h3
  have := lt_anti h4 u7
  exact ⟨v, hv, by rw [u1, this], co_of u2⟩
theorem sort_ne : sortT ≠ [] := fun h => by
  have hT := tab_so (n := 3) (Nat.le_refl _)
  have h0 : cW [48] = some (tInt, [48]) := by decide +kernel
  obtain ⟨v, hv, _⟩ := hT.all _ _ h0 ⟨1, Nat.le_refl _, by decide, by decide⟩
  have hp : keysT = [] := by
    have := sort_perm
    rw [h] at this
    exact List.nil_perm.mp this
  have ht : tabK 3 = [] := by
    unfold keysT at hp
    exact List.map_eq_nil_iff.mp hp
  rw [ht] at hv
  cases hv
end T
namespace T
open PySem PySem.Spec PyProof.Rows L2 DJ LJ LamX
/-! ### the law -/
abbrev s_law : Stmt := topS 46
abbrev N_law : List Str := ["_law_script", "_law_table_here", "_law_keys", "_law_k", "_law_some", "_law_found", "_law_well_here", "_law_turn", "_law_lead", "_law_text"]
theorem sc_law : FnScope N_law ["_law_script"] (defScope s_law) := ⟨rfl, rfl, rfl, by decide +kernel, rfl, by decide +kernel, by decide +kernel⟩
abbrev pT (p : P2) : Dt := .tup [.str p.1, .str p.2]
abbrev S5 : List P2 := [(tNull, [110, 117, 108, 108]), (tBool, [116, 114, 117, 101]), (tBool, [102, 97, 108, 115, 101]), (tFloat, [46, 105, 110, 102]), (tFloat, [45, 46, 105, 110, 102])]
abbrev S2 : List P2 := [(tFloat, [46, 110, 97, 110]), (tFloat, [48, 101, 48])]
abbrev W77 : List (List Nat) := [[], [84, 82, 85, 69], [70, 65, 76, 83, 69], [46, 73, 78, 70], [45, 46, 73, 78, 70], [46, 78, 65, 78], [46, 48]]
def chkF (t c : List Nat) : Bool := fitsS t c sCore && (decide (t.length ≤ 640) && (decide (c.length ≤ 100) && ((c.all fun x => decide (x < 128)) && (!(isOct c || isHex c) && (!decide (t = tInt) && (getK FIXK c).isSome)))))
theorem co_F {t c : List Nat} (h : chkF t c = true) : CoOk t c := by
  unfold chkF at h
  simp only [Bool.and_eq_true, decide_eq_true_eq, Bool.not_eq_true', decide_eq_false_iff_not] at h
  obtain ⟨h1, h2, h3, h4, h5, h6, h7⟩ := h
  exact ⟨h1, h2, by omega, fun z => (by rw [h5] at z; cases z), fun x hx => of_decide_eq_true (List.all_eq_true.mp h4 x hx), fun _ => h7, fun z => absurd z h6, fun _ z => by rw [z] at h7; cases h7⟩
theorem s7_co : ∀ p ∈ S5 ++ S2, CoOk p.1 p.2 := by
  have hf : (S5 ++ S2.take 1).all (fun p => chkF p.1 p.2) = true := by decide +kernel
  have h0 : chkC tFloat [48, 101, 48] = true := by decide +kernel
  intro p hp
  have e : S5 ++ S2 = (S5 ++ S2.take 1) ++ [(tFloat, [48, 101, 48])] := rfl
  rw [e] at hp
  rcases List.mem_append.mp hp with z | z
  · exact co_F (List.all_eq_true.mp hf p z)
  · rw [List.mem_singleton.mp z]
    exact co_of h0
theorem s7_lw : (S5 ++ S2).map (fun p => lwL p.1 p.2) = W77.map some := by decide +kernel
theorem hw_pair {K : PySem.W.Frag} {i j : Nat} {vs : List Nat} (hi : i ∈ vs) (hj : j ∈ vs) {n : Nat} : ∀ v σ H Q, gTup K n (gCons (gName i) (gCons (gName j) gNil)) v (wipe σ vs) H (fun σ2 H2 => wipe σ2 vs = wipe σ vs → Q σ2 H2) → gTup K n (gCons (gName i) (gCons (gName j) gNil)) v (wipe σ vs) H Q := hw_tup2 hi hj
def oG (so : List P2) (x : Wl) : P2 × Wl := (so.getD (drawW x so.length).1.toNat ([], []), (drawW x so.length).2)
section
variable {so : List P2} (hne : so ≠ [])
theorem oG_mem (hne : so ≠ []) (x : Wl) : (oG so x).1 ∈ so := by
  have hp := draw_nat x so.length (List.length_pos_iff.mpr hne)
  show so.getD _ _ ∈ _
  rw [List.getD_eq_getElem?_getD, List.getElem?_eq_getElem hp]
  exact List.getElem_mem hp
theorem R_oG (hne : so ≠ []) (hl : so.length ≤ 100000) (x : Wl) : R_one (.o 0 :: [Dt.lst (so.map pT)].map Sl.d) [wl x] (.d (pT (oG so x).1)) [wl (oG so x).2] := by
  have hp := draw_nat x so.length (List.length_pos_iff.mpr hne)
  refine ⟨x, rfl, .inl ⟨so.map pT, by simpa using hne, by rw [List.length_map]; exact hl, rfl, ?_, ?_⟩⟩
  · rw [List.length_map, getD_map _ so ([], []) _ hp] <;> rfl
  · rw [List.length_map] <;> rfl
end
def kI (so : List P2) (x : Wl) : Nat → Wl
  | 0 => x
  | j + 1 => (oG so (kI so x j)).2
def eI (so : List P2) (x : Wl) : Nat → Wl
  | 0 => kI so x 40
  | j + 1 => oEnd (eI so x j)
section
variable {P : Program} {w : World} {K : PySem.W.Frag} {mg : Str → Option Value} {base : Heap}
def R_law : List Sl → List MO → Sl → List MO → Prop := fun ss M r M' => ∃ ns : List Int, ns.length ≤ 63 ∧ ss = [.d (.lst (ns.map .int))] ∧ M = [] ∧ r = .d (.bl true) ∧ M' = []
theorem cal_lawG {T : Tb} {so ks : List P2} (keys_is : T.map (·.1) = ks.map fun e => [e.1, e.2]) (keys_len : ks.length ≤ 100000) (sort_perm : so.Perm ks) (sort_so : so.Pairwise fun e f => lexL f e = false) (sort_ne : so ≠ []) (key_ok : ∀ e ∈ so, ∃ v, getTb T [e.1, e.2] = some v ∧ lwL e.1 e.2 = some v ∧ CoOk e.1 e.2) (D : Df K mg "law" s_law ["_law_script"]) (f_least_word : Cal P w K mg base 5 "least_word" (SpR K 2 R_lw) []) (k_least_word : CalR2 P w K mg base 5 "least_word" ["content", "tag"] (SpR K 2 R_lw)) (f__law_table : Cal P w K mg base 2 "_law_table" (SpR K 0 (R_tabG T)) []) (f__law_one : Cal P w K mg base 2 "_law_one" (SpR K 2 R_one) []) (f__law_well : Cal P w K mg base 1 "_law_well" (SpR K 2 R_well) []) (f__law_others_right : Cal P w K mg base 7 "_law_others_right" (SpR K 1 R_oth) [])
    (m_sorted : mg "sorted" = none) (m_range : mg "range" = none) (m_len : mg "len" = none) (m_max : mg "max" = none) (m_min : mg "min" = none) : CalF P w K mg base 8 "law" s_law ["_law_script"] (SpR K 1 R_law) := by
  refine cal_mkF (k := 7) D sc_law rfl fun f cdv A outer s H E hr ss M r M' h => ?_
  obtain ⟨ns, hn, rfl, rfl, rfl, rfl⟩ := h
  refine ⟨_, [], (pss_cons (ps_asg (pe_c0 f__law_table hr (by omega) (by rfl)) (pg_name (i := 1) sc_law.nd rfl (by first | exact .inl rfl | exact .inr rfl))) (pss_cons (ps_asg (pe_callB (cr_sortN rfl) (by rfl) m_sorted (by decide +kernel) (pa_cons (pv 1) pa_nil)) (pg_name (i := 2) sc_law.nd rfl (by first | exact .inl rfl | exact .inr rfl))) (pss_cons (ps_for PassesOwn.never rfl (pi_range1 (by rfl) m_range (pa_cons (pe_callB (call_max2 rfl) (by rfl) m_max (by decide +kernel) (pa_cons pe_int (pa_cons (pe_callB (call_min2 rfl) (by rfl) m_min (by decide +kernel) (pa_cons pe_int (pa_cons (pe_callB call_len_seq (by rfl) m_len PySem.boot_len (pa_cons (pv 0) pa_nil)) pa_nil))) pa_nil))) pa_nil)) (pg_name (i := 3) sc_law.nd rfl (by first | exact .inl rfl | exact .inr rfl)) (pss_cons (ps_asg (pe_c f__law_well hr (by omega) (by rfl) (pa_cons (pv 0) (pa_cons (pv 3) pa_nil))) (pg_name (i := 6) sc_law.nd rfl (by first | exact .inl rfl | exact .inr rfl))) (pss_cons (ps_for PassesOwn.never rfl (pi_range1 (by rfl) m_range (pa_cons pe_int pa_nil)) (pg_name (i := 7) sc_law.nd rfl (by first | exact .inl rfl | exact .inr rfl)) (pss_cons (ps_asg (pe_c f__law_one hr (by omega) (by rfl) (pa_cons (pv 6) (pa_cons (pv 2) pa_nil))) (pg_tup rfl (pgs_cons (pg_name (i := 8) sc_law.nd rfl (by first | exact .inl rfl | exact .inr rfl)) (pgs_cons (pg_name (i := 9) sc_law.nd rfl (by first | exact .inl rfl | exact .inr rfl)) pgs_nil)))) (pss_one (ps_if (pt_cmpR op_ne (pe_c f_least_word hr (by omega) (by rfl) (pa_cons (pv 8) (pa_cons (pv 9) pa_nil))) (pe_dget (room1 hr) (pv 1) (pe_tup (pa_cons (pv 8) (pa_cons (pv 9) pa_nil))) (fun _ _ => rfl)) (nomark _)) (pss_one (ps_ret pe_bl)) pss_nil)))) (pss_one (ps_for PassesOwn.never rfl (pi_range1 (by rfl) m_range (pa_cons pe_int pa_nil)) (pg_name (i := 7) sc_law.nd rfl (by first | exact .inl rfl | exact .inr rfl)) (pss_one (ps_if (pt_not (pt_val (pe_c f__law_others_right hr (by omega) (by rfl) (pa_cons (pv 6) pa_nil)))) (pss_one (ps_ret pe_bl)) pss_nil))))))) (pss_cons (ps_asg (pe_lst (pa_cons (pe_tup (pa_cons pe_str (pa_cons pe_str pa_nil))) (pa_cons (pe_tup (pa_cons pe_str (pa_cons pe_str pa_nil))) (pa_cons (pe_tup (pa_cons pe_str (pa_cons pe_str pa_nil))) (pa_cons (pe_tup (pa_cons pe_str (pa_cons pe_str pa_nil))) (pa_cons (pe_tup (pa_cons pe_str (pa_cons pe_str pa_nil))) pa_nil)))))) (pg_name (i := 4) sc_law.nd rfl (by first | exact .inl rfl | exact .inr rfl))) (pss_cons (ps_setLc (i := 5) (own := [("_law_lead", 8), ("_law_text", 9)]) (g := (gTup _ 2 (gCons (gName 8) (gCons (gName 9) gNil)))) (by rfl) sc_law.nd rfl rfl (sw_true rfl rfl rfl (by decide +kernel)) (pi_list (pe_op op_cat (pv 4) (pe_lst (pa_cons (pe_tup (pa_cons pe_str (pa_cons pe_str pa_nil))) (pa_cons (pe_tup (pa_cons pe_str (pa_cons pe_str pa_nil))) pa_nil))))) (blkOk_by (own := [("_law_lead", 8), ("_law_text", 9)]) (N := N_law) (sc := defScope s_law) (by decide +kernel)) (fun _ _ _ _ _ => (pg_tup rfl (pgs_cons (pg_name (i := 8) sc_law.nd rfl (by first | exact .inl rfl | exact .inr rfl)) (pgs_cons (pg_name (i := 9) sc_law.nd rfl (by first | exact .inl rfl | exact .inr rfl)) pgs_nil)))) (fun _ _ _ _ _ => pts_nil) (fun _ _ _ _ _ => (pe_cKr k_least_word hr (by omega) (by rfl) (pk_cons (pv 9) (pk_cons (pv 8) pk_nil))))) (pss_one (ps_ret (pe_cmpR (op_eqD (room64 hr)) (pv 5) (pe_lst (pa_cons pe_str (pa_cons pe_str (pa_cons pe_str (pa_cons pe_str (pa_cons pe_str (pa_cons pe_str (pa_cons pe_str pa_nil)))))))) (nomark _))))))))), ?_, Nat.le_refl _, fun _ h => nomatch h⟩
  have hso : so.length ≤ 100000 := by rw [sort_perm.length_eq]; exact keys_len
  have hm : max 1 (min 5 ((ns.map Dt.int).length : Int)) ≤ 5 ∧ 1 ≤ max 1 (min 5 ((ns.map Dt.int).length : Int)) := by omega
  refine es_seq (es_asg (s := .d (dicD (T))) (M1 := []) (ev_call0 (ds := []) (es := []) (z := dicD (T)) ea_nil ⟨rfl, rfl, rfl, rfl⟩ rfl (fun _ => rfl))) ?_
  refine es_nG (G' := [_, _, _, _, _, _, _, _, _, _]) rfl ?_
  refine es_seq (es_asg (s := .d (.lst (so.map pT))) (M1 := []) (ev_sortN (ks := ks) (so := so) (ev_var rfl) keys_is keys_len sort_perm sort_so)) ?_
  refine es_nG (G' := [_, _, _, _, _, _, _, _, _, _]) rfl ?_
  refine es_seq (M1 := []) (G1 := [some (.d (.lst (ns.map .int))), some (.d (dicD (T))), some (.d (.lst (so.map pT))), none, none, none, none, none, none, none]) ?_ ?_
  · refine es_rngl (m := max 1 (min 5 ((ns.map Dt.int).length : Int))) (max 1 (min 5 ((ns.map Dt.int).length : Int))).toNat (Gn := fun _ => [some (.d (.lst (ns.map .int))), some (.d (dicD (T))), some (.d (.lst (so.map pT))), none, none, none, none, none, none, none]) (Mn := fun _ => []) (ea_cons (ev_isD (ev_cb (xs := [.int 1, .int (min 5 ((ns.map Dt.int).length : Int))]) (ea_cons ev_int (ea_cons (ev_isD (ev_cb (xs := [.int 5, .int ((ns.map Dt.int).length : Nat)]) (ea_cons ev_int (ea_cons (ev_cb (xs := [.lst (ns.map .int)]) (ea_cons (ev_var rfl) ea_nil) rc_lenL) ea_nil)) rc_min2) (show _ = Dt.int (min 5 ((ns.map Dt.int).length : Int)) by congr 1; split <;> omega)) ea_nil)) rc_max2) (show _ = Dt.int (max 1 (min 5 ((ns.map Dt.int).length : Int))) by congr 1; split <;> omega)) ea_nil) (by omega) (by omega) (Lg.refl _) fun k hk => ⟨_, eg_name, ?_⟩
    refine es_nxT (X := [wl (eI so (wellW ns k) 10)]) ?_ (by simp)
    refine es_seq (es_asg (ev_call0n (ds := [.lst (ns.map .int), .int (k : Nat)]) (es := []) (m := wl (wellW ns k)) (ea_cons (ev_var rfl) (ea_cons (ev_var rfl) ea_nil)) ⟨ns, k, rfl, rfl, rfl, rfl⟩ (fun z => nomatch z) rfl (fun _ => rfl))) ?_
    refine es_nG (G' := [_, _, _, _, _, _, _, _, _, _]) rfl ?_
    generalize wellW ns k = x
    have e0 : x = kI so x 0 := rfl
    refine es_seq (G1 := [some (.d (.lst (ns.map .int))), some (.d (dicD (T))), some (.d (.lst (so.map pT))), none, none, none, some (.o 0), none, none, none]) (M1 := [wl (eI so x 0)]) ?_ ?_
    · refine es_rngl (m := 40) 40 (Gn := fun _ => [some (.d (.lst (ns.map .int))), some (.d (dicD (T))), some (.d (.lst (so.map pT))), none, none, none, some (.o 0), none, none, none]) (Mn := fun j => [wl (kI so x j)]) (ea_cons ev_int ea_nil) rfl (by decide) (lg_cons (lg_cons (lg_cons (lg_cons (lg_cons (lg_cons (lg_cons (lg_cons (lg_cons (lg_cons lg_nil (.inl rfl)) (.inl rfl)) (.inl rfl)) (.inl rfl)) (.inl rfl)) (.inl rfl)) (.inr rfl)) (.inl rfl)) (.inl rfl)) (.inl rfl)) fun j hj => ⟨_, eg_name, ?_⟩
      have es : kI so x (j + 1) = (oG so (kI so x j)).2 := rfl
      rw [es]
      generalize kI so x j = y
      refine es_seq (es_asgG (s := .d (pT (oG so y).1)) (M1 := [wl (oG so y).2]) (ev_w (ds := [.lst (so.map pT)]) (ea_cons (ev_var rfl) (ea_cons (ev_var rfl) ea_nil)) (wg y) (R_oG sort_ne hso y) (wg _) rfl) (eg_tup (egs_cons eg_name (egs_cons eg_name egs_nil)) rfl)) ?_
      refine es_nG (G' := [_, _, _, _, _, _, _, _, _, _]) rfl ?_
      obtain ⟨v, hv, hw, hc⟩ := key_ok _ (oG_mem sort_ne y)
      generalize (oG so y).1 = p at *
      exact es_nxw (es_no (et_is (et_test (ev_op (ev_isD (ev_call0 (ds := [.str p.1, .str p.2]) (es := []) (z := oS (lwL p.1 p.2)) (ea_cons (ev_var rfl) (ea_cons (ev_var rfl) ea_nil)) ⟨_, _, hc, rfl, rfl, rfl, rfl⟩ rfl (fun _ => rfl)) (show _ = Dt.str v by rw [hw] <;> rfl)) (ev_atT (ks := [p.1, p.2]) (ev_var rfl) (ev_tupK (ks := [p.1, p.2]) (ea_cons (ev_var rfl) (ea_cons (ev_var rfl) ea_nil)) (show 2 ≤ 1000 by decide)) hv) ro_neS)) (by simp)) rfl es_next) (lg_cons (lg_cons (lg_cons (lg_cons (lg_cons (lg_cons (lg_cons (lg_cons (lg_cons (lg_cons lg_nil (.inr rfl)) (.inr rfl)) (.inr rfl)) (.inl rfl)) (.inl rfl)) (.inl rfl)) (.inl rfl)) (.inl rfl)) (.inl rfl)) (.inl rfl))
    refine es_nxw (es_rngl (m := 10) 10 (Gn := fun _ => [some (.d (.lst (ns.map .int))), some (.d (dicD (T))), some (.d (.lst (so.map pT))), none, none, none, some (.o 0), none, none, none]) (Mn := fun j => [wl (eI so x j)]) (ea_cons ev_int ea_nil) rfl (by decide) (Lg.refl _) fun j hj => ⟨_, eg_name, ?_⟩) (lg_cons (lg_cons (lg_cons (lg_cons (lg_cons (lg_cons (lg_cons (lg_cons (lg_cons (lg_cons lg_nil (.inl rfl)) (.inl rfl)) (.inl rfl)) (.inr rfl)) (.inl rfl)) (.inl rfl)) (.inl rfl)) (.inl rfl)) (.inl rfl)) (.inl rfl))
    have es : eI so x (j + 1) = oEnd (eI so x j) := rfl
    rw [es]
    generalize eI so x j = y
    exact es_nxw (es_no (et_is (et_not (et_B (ev_w (ds := []) (ea_cons (ev_var rfl) ea_nil) (wg y) ⟨y, rfl, rfl, rfl, rfl⟩ (wg _) rfl))) rfl) rfl es_next) (lg_cons (lg_cons (lg_cons (lg_cons (lg_cons (lg_cons (lg_cons (lg_cons (lg_cons (lg_cons lg_nil (.inl rfl)) (.inl rfl)) (.inr rfl)) (.inl rfl)) (.inl rfl)) (.inl rfl)) (.inl rfl)) (.inl rfl)) (.inl rfl)) (.inl rfl))
  refine es_seq (es_asg (s := .d (lstX K (S5.map pT))) (ev_lstX (xs := S5.map pT) (ea_cons (ev_tup (xs := [_, _]) (ea_cons (ev_str _) (ea_cons (ev_str _) ea_nil)) (show 2 ≤ 1000 by decide)) (ea_cons (ev_tup (xs := [_, _]) (ea_cons (ev_str _) (ea_cons (ev_str _) ea_nil)) (show 2 ≤ 1000 by decide)) (ea_cons (ev_tup (xs := [_, _]) (ea_cons (ev_str _) (ea_cons (ev_str _) ea_nil)) (show 2 ≤ 1000 by decide)) (ea_cons (ev_tup (xs := [_, _]) (ea_cons (ev_str _) (ea_cons (ev_str _) ea_nil)) (show 2 ≤ 1000 by decide)) (ea_cons (ev_tup (xs := [_, _]) (ea_cons (ev_str _) (ea_cons (ev_str _) ea_nil)) (show 2 ≤ 1000 by decide)) ea_nil))))) (show 5 ≤ 1000 by decide))) ?_
  refine es_nG (G' := [_, _, _, _, _, _, _, _, _, _]) rfl ?_
  have hw := s7_lw
  have hres : (S5 ++ S2).map (fun p => oS (lwL p.1 p.2)) = W77.map Dt.str := by
    have e1 : (S5 ++ S2).map (fun p => oS (lwL p.1 p.2)) = ((S5 ++ S2).map (fun p => lwL p.1 p.2)).map oS := by rw [List.map_map] <;> rfl
    rw [e1, hw, List.map_map] <;> rfl
  refine es_seq (es_asg (s := .d (.lst (W77.map Dt.str))) (M1 := []) (ev_isD (ev_lcM (S5 ++ S2) pT (fun p => oS (lwL p.1 p.2)) (ei_list (ev_isD (ev_wk (ev_op (ev_var rfl) (ev_lstX (xs := S2.map pT) (ea_cons (ev_tup (xs := [_, _]) (ea_cons (ev_str _) (ea_cons (ev_str _) ea_nil)) (show 2 ≤ 1000 by decide)) (ea_cons (ev_tup (xs := [_, _]) (ea_cons (ev_str _) (ea_cons (ev_str _) ea_nil)) (show 2 ≤ 1000 by decide)) ea_nil)) (show 2 ≤ 1000 by decide)) (ro_cat (show 5 + 2 ≤ 100000 by decide))) lstX_lst) (by rw [List.map_append]))) (by decide) (hw_pair (by decide) (by decide)) fun p hp => ⟨_, eg_tup (egs_cons eg_name (egs_cons eg_name egs_nil)) rfl, ev_kwr (b := .str p.2) (a := .str p.1) (z := oS (lwL p.1 p.2)) (ea_cons (ev_var rfl) (ea_cons (ev_var rfl) ea_nil)) ⟨p.1, p.2, s7_co p hp, rfl, rfl, rfl, rfl⟩⟩) (by rw [hres]))) ?_
  refine es_nG (G' := [_, _, _, _, _, _, _, _, _, _]) rfl ?_
  exact es_ret (ev_op (ev_var rfl) (ev_lst (xs := W77.map Dt.str) (ea_cons (ev_str _) (ea_cons (ev_str _) (ea_cons (ev_str _) (ea_cons (ev_str _) (ea_cons (ev_str _) (ea_cons (ev_str _) (ea_cons (ev_str _) ea_nil))))))) (show 7 ≤ 1000 by decide)) (ro_eqSelf (by decide +kernel) (by decide +kernel)))
theorem cal_law (D : Df K mg "law" s_law ["_law_script"]) (f_least_word : Cal P w K mg base 5 "least_word" (SpR K 2 R_lw) []) (k_least_word : CalR2 P w K mg base 5 "least_word" ["content", "tag"] (SpR K 2 R_lw)) (f__law_table : Cal P w K mg base 2 "_law_table" (SpR K 0 (R_tabG (tabK 3))) []) (f__law_one : Cal P w K mg base 2 "_law_one" (SpR K 2 R_one) []) (f__law_well : Cal P w K mg base 1 "_law_well" (SpR K 2 R_well) []) (f__law_others_right : Cal P w K mg base 7 "_law_others_right" (SpR K 1 R_oth) [])
    (m_sorted : mg "sorted" = none) (m_range : mg "range" = none) (m_len : mg "len" = none) (m_max : mg "max" = none) (m_min : mg "min" = none) : CalF P w K mg base 8 "law" s_law ["_law_script"] (SpR K 1 R_law) :=
  cal_lawG keys_is keys_len sort_perm sort_so sort_ne (fun _ h => key_ok h) D f_least_word k_least_word f__law_table f__law_one f__law_well f__law_others_right m_sorted m_range m_len m_max m_min
end
end T
namespace T
open PySem PySem.Spec PyProof.Rows L2 DJ LJ LamX
/-! ### the end: what the top has left -/
theorem all_mk {l : PySem.W.OpenLaw} {w : World} {K : PySem.W.Frag} {h : Heap} {mg : Str → Option Value} {fa : Addr} (X : K.In h) (G : h.Ns mainGlobals mg) (hfa : mg "law" = some (.ref fa))
    {dF : Addr} {esF : Array DictEntry} {nF : Nat}
    {ClX0 NX0 IX0 HX0 : Addr} {nX0 qX0 : Str} {bsX0 bmX0 suX0 : List Value} {snX0 : List Str} {abX0 : Bool} {coX0 : Option Bool} {ddX0 ioX0 iaX0 dqX0 : Option Addr} {m0X0 m1X0 m2X0 m3X0 m5X0 : Option Value}
    {icX0 ikX0 idX0 ipX0 ieX0 itX0 dcX0 : Value} {isX0 dsX0 : Array (Option Value)} {diX0 : Array Value} {dnX0 : Nat}
    {f0 f1 f2 f3 f4 f5 f6 f7 f8 f9 f10 f11 f12 f13 f14 f15 f16 f17 f18 f19 f20 f21 f22 f23 f24 f25 f26 f27 f28 g0 g1 g2 g3 g4 g5 g6 : Addr}
    {od0 od1 od2 od3 od4 od5 od6 od7 od8 od9 od10 od11 od12 od13 od14 od15 od16 od17 od18 od19 od20 od21 od22 od23 od24 od25 od26 od27 od28 od29 od30 od31 od32 od33 od34 od35 an0 an1 an2 an3 an4 an5 an6 an7 an8 an9 an10 an11 an12 an13 an14 an15 an16 an17 an18 an19 an20 an21 an22 an23 an24 an25 an26 an27 an28 : Option Addr}
    {sl0 sl1 sl2 sl3 sl4 sl5 sl6 sl7 sl8 sl9 sl10 sl11 sl12 sl13 sl14 sl15 sl16 sl17 sl18 sl19 sl20 sl21 sl22 sl23 sl24 sl25 sl26 sl27 sl28 sl29 sl30 sl31 sl32 sl33 sl34 sl35 : Array (Option Value)}
    {oc0 oc1 oc2 oc3 oc4 oc5 oc6 oc7 oc8 oc9 oc10 oc11 oc12 oc13 oc14 oc15 oc16 oc17 oc18 oc19 oc20 oc21 oc22 oc23 oc24 oc25 oc26 oc27 oc28 kV0 kV1 kV2 kV3 kV4 kV5 kV6 kV7 kV8 kV9 kV10 kV11 kV12 kV13 kV14 kV15 kV16 kV17 kV18 kV19 kV20 kV21 kV22 kV23 kV24 kV25 kV26 kV27 kV28 dc0 dc1 dc2 dc3 dc4 dc5 dc6 dc7 dc8 dc9 dc10 dc11 dc12 dc13 dc14 dc15 dc16 dc17 dc18 dc19 dc20 dc21 dc22 dc23 dc24 dc25 dc26 dc27 dc28 pm0 pm1 pm2 pm3 pm4 pm5 pm6 pm7 pm8 pm9 pm10 pm11 pm12 pm13 pm14 pm15 pm16 pm17 pm18 pm19 pm20 pm21 pm22 pm23 pm24 pm25 pm26 pm27 pm28 cd0 cd1 cd2 cd3 cd4 cd5 cd6 cd7 cd8 cd9 cd10 cd11 cd12 cd13 cd14 cd15 cd16 cd17 cd18 cd19 cd20 cd21 cd22 cd23 cd24 cd25 cd26 cd27 cd28 ct0 ct1 ct2 ct3 ct4 ct5 ct6 ct7 ct8 ct9 ct10 ct11 ct12 ct13 ct14 ct15 ct16 ct17 ct18 ct19 ct20 ct21 ct22 ct23 ct24 ct25 ct26 ct27 ct28 : Value}
    {tc0 tc1 tc2 tc3 tc4 tc5 tc6 : Value}
    {ti0 ti1 ti2 ti3 ti4 ti5 ti6 : Array Value}
    {tn0 tn1 tn2 tn3 tn4 tn5 tn6 : Nat}
    {tS0 tS1 : Tok}
    {tI0 : Tok}
    (a0 : PySem.W.nsIn K mainGlobals "is_all" = some (some (.ref f0)))
    (l0 : K.lookup f0 = some ⟨oc0, od0, .func (PySem.W.fnOf "is_all" "is_all" (defArgs s_is_all) (defBody s_is_all) (defScope s_is_all) .none kV0 dc0 pm0 an0 cd0 ct0), sl0⟩)
    (c0 : PySem.W.codeIn K cd0 "is_all" = true)
    (k0 : PySem.W.keepIn K (.ref f0) = true)
    (a1 : PySem.W.nsIn K mainGlobals "unsigned" = some (some (.ref f1)))
    (l1 : K.lookup f1 = some ⟨oc1, od1, .func (PySem.W.fnOf "unsigned" "unsigned" (defArgs s_unsigned) (defBody s_unsigned) (defScope s_unsigned) .none kV1 dc1 pm1 an1 cd1 ct1), sl1⟩)
    (c1 : PySem.W.codeIn K cd1 "unsigned" = true)
    (k1 : PySem.W.keepIn K (.ref f1) = true)
    (a2 : PySem.W.nsIn K mainGlobals "figures_of" = some (some (.ref f2)))
    (l2 : K.lookup f2 = some ⟨oc2, od2, .func (PySem.W.fnOf "figures_of" "figures_of" (defArgs s_figures_of) (defBody s_figures_of) (defScope s_figures_of) .none kV2 dc2 pm2 an2 cd2 ct2), sl2⟩)
    (c2 : PySem.W.codeIn K cd2 "figures_of" = true)
    (k2 : PySem.W.keepIn K (.ref f2) = true)
    (a3 : PySem.W.nsIn K mainGlobals "number_of" = some (some (.ref f3)))
    (l3 : K.lookup f3 = some ⟨oc3, od3, .func (PySem.W.fnOf "number_of" "number_of" (defArgs s_number_of) (defBody s_number_of) (defScope s_number_of) .none kV3 dc3 pm3 an3 cd3 ct3), sl3⟩)
    (c3 : PySem.W.codeIn K cd3 "number_of" = true)
    (k3 : PySem.W.keepIn K (.ref f3) = true)
    (a4 : PySem.W.nsIn K mainGlobals "whole_text" = some (some (.ref f4)))
    (l4 : K.lookup f4 = some ⟨oc4, od4, .func (PySem.W.fnOf "whole_text" "whole_text" (defArgs s_whole_text) (defBody s_whole_text) (defScope s_whole_text) .none kV4 dc4 pm4 an4 cd4 ct4), sl4⟩)
    (c4 : PySem.W.codeIn K cd4 "whole_text" = true)
    (k4 : PySem.W.keepIn K (.ref f4) = true)
    (a5 : PySem.W.nsIn K mainGlobals "float_text" = some (some (.ref f5)))
    (l5 : K.lookup f5 = some ⟨oc5, od5, .func (PySem.W.fnOf "float_text" "float_text" (defArgs s_float_text) (defBody s_float_text) (defScope s_float_text) .none kV5 dc5 pm5 an5 cd5 ct5), sl5⟩)
    (c5 : PySem.W.codeIn K cd5 "float_text" = true)
    (k5 : PySem.W.keepIn K (.ref f5) = true)
    (a6 : PySem.W.nsIn K mainGlobals "canonical" = some (some (.ref f6)))
    (l6 : K.lookup f6 = some ⟨oc6, od6, .func (PySem.W.fnOf "canonical" "canonical" (defArgs s_canonical) (defBody s_canonical) (defScope s_canonical) .none kV6 dc6 pm6 an6 cd6 ct6), sl6⟩)
    (c6 : PySem.W.codeIn K cd6 "canonical" = true)
    (k6 : PySem.W.keepIn K (.ref f6) = true)
    (a7 : PySem.W.nsIn K mainGlobals "word_tag" = some (some (.ref f7)))
    (l7 : K.lookup f7 = some ⟨oc7, od7, .func (PySem.W.fnOf "word_tag" "word_tag" (defArgs s_word_tag) (defBody s_word_tag) (defScope s_word_tag) .none kV7 dc7 pm7 an7 cd7 ct7), sl7⟩)
    (c7 : PySem.W.codeIn K cd7 "word_tag" = true)
    (k7 : PySem.W.keepIn K (.ref f7) = true)
    (a8 : PySem.W.nsIn K mainGlobals "check_schema" = some (some (.ref f8)))
    (l8 : K.lookup f8 = some ⟨oc8, od8, .func (PySem.W.fnOf "check_schema" "check_schema" (defArgs s_check_schema) (defBody s_check_schema) (defScope s_check_schema) .none kV8 dc8 pm8 an8 cd8 ct8), sl8⟩)
    (c8 : PySem.W.codeIn K cd8 "check_schema" = true)
    (k8 : PySem.W.keepIn K (.ref f8) = true)
    (a9 : PySem.W.nsIn K mainGlobals "may_have" = some (some (.ref f9)))
    (l9 : K.lookup f9 = some ⟨oc9, od9, .func (PySem.W.fnOf "may_have" "may_have" (defArgs s_may_have) (defBody s_may_have) (defScope s_may_have) .none kV9 dc9 pm9 an9 cd9 ct9), sl9⟩)
    (c9 : PySem.W.codeIn K cd9 "may_have" = true)
    (k9 : PySem.W.keepIn K (.ref f9) = true)
    (a10 : PySem.W.nsIn K mainGlobals "is_tag" = some (some (.ref f10)))
    (l10 : K.lookup f10 = some ⟨oc10, od10, .func (PySem.W.fnOf "is_tag" "is_tag" (defArgs s_is_tag) (defBody s_is_tag) (defScope s_is_tag) .none kV10 dc10 pm10 an10 cd10 ct10), sl10⟩)
    (c10 : PySem.W.codeIn K cd10 "is_tag" = true)
    (k10 : PySem.W.keepIn K (.ref f10) = true)
    (a11 : PySem.W.nsIn K mainGlobals "tag_fits" = some (some (.ref f11)))
    (l11 : K.lookup f11 = some ⟨oc11, od11, .func (PySem.W.fnOf "tag_fits" "tag_fits" (defArgs s_tag_fits) (defBody s_tag_fits) (defScope s_tag_fits) .none kV11 dc11 pm11 an11 cd11 ct11), sl11⟩)
    (c11 : PySem.W.codeIn K cd11 "tag_fits" = true)
    (k11 : PySem.W.keepIn K (.ref f11) = true)
    (a12 : PySem.W.nsIn K mainGlobals "figures_and_power" = some (some (.ref f12)))
    (l12 : K.lookup f12 = some ⟨oc12, od12, .func (PySem.W.fnOf "figures_and_power" "figures_and_power" (defArgs s_figures_and_power) (defBody s_figures_and_power) (defScope s_figures_and_power) .none kV12 dc12 pm12 an12 cd12 ct12), sl12⟩)
    (c12 : PySem.W.codeIn K cd12 "figures_and_power" = true)
    (k12 : PySem.W.keepIn K (.ref f12) = true)
    (a13 : PySem.W.nsIn K mainGlobals "signed_number" = some (some (.ref f13)))
    (l13 : K.lookup f13 = some ⟨oc13, od13, .func (PySem.W.fnOf "signed_number" "signed_number" (defArgs s_signed_number) (defBody s_signed_number) (defScope s_signed_number) .none kV13 dc13 pm13 an13 cd13 ct13), sl13⟩)
    (c13 : PySem.W.codeIn K cd13 "signed_number" = true)
    (k13 : PySem.W.keepIn K (.ref f13) = true)
    (a14 : PySem.W.nsIn K mainGlobals "signed_figures" = some (some (.ref f14)))
    (l14 : K.lookup f14 = some ⟨oc14, od14, .func (PySem.W.fnOf "signed_figures" "signed_figures" (defArgs s_signed_figures) (defBody s_signed_figures) (defScope s_signed_figures) .none kV14 dc14 pm14 an14 cd14 ct14), sl14⟩)
    (c14 : PySem.W.codeIn K cd14 "signed_figures" = true)
    (k14 : PySem.W.keepIn K (.ref f14) = true)
    (a15 : PySem.W.nsIn K mainGlobals "words_without_power" = some (some (.ref f15)))
    (l15 : K.lookup f15 = some ⟨oc15, od15, .func (PySem.W.fnOf "words_without_power" "words_without_power" (defArgs s_words_without_power) (defBody s_words_without_power) (defScope s_words_without_power) .none kV15 dc15 pm15 an15 cd15 ct15), sl15⟩)
    (c15 : PySem.W.codeIn K cd15 "words_without_power" = true)
    (k15 : PySem.W.keepIn K (.ref f15) = true)
    (a16 : PySem.W.nsIn K mainGlobals "words_with_power" = some (some (.ref f16)))
    (l16 : K.lookup f16 = some ⟨oc16, od16, .func (PySem.W.fnOf "words_with_power" "words_with_power" (defArgs s_words_with_power) (defBody s_words_with_power) (defScope s_words_with_power) .none kV16 dc16 pm16 an16 cd16 ct16), sl16⟩)
    (c16 : PySem.W.codeIn K cd16 "words_with_power" = true)
    (k16 : PySem.W.keepIn K (.ref f16) = true)
    (a17 : PySem.W.nsIn K mainGlobals "float_words" = some (some (.ref f17)))
    (l17 : K.lookup f17 = some ⟨oc17, od17, .func (PySem.W.fnOf "float_words" "float_words" (defArgs s_float_words) (defBody s_float_words) (defScope s_float_words) .none kV17 dc17 pm17 an17 cd17 ct17), sl17⟩)
    (c17 : PySem.W.codeIn K cd17 "float_words" = true)
    (k17 : PySem.W.keepIn K (.ref f17) = true)
    (a18 : PySem.W.nsIn K mainGlobals "whole_words" = some (some (.ref f18)))
    (l18 : K.lookup f18 = some ⟨oc18, od18, .func (PySem.W.fnOf "whole_words" "whole_words" (defArgs s_whole_words) (defBody s_whole_words) (defScope s_whole_words) .none kV18 dc18 pm18 an18 cd18 ct18), sl18⟩)
    (c18 : PySem.W.codeIn K cd18 "whole_words" = true)
    (k18 : PySem.W.keepIn K (.ref f18) = true)
    (a19 : PySem.W.nsIn K mainGlobals "least_of" = some (some (.ref f19)))
    (l19 : K.lookup f19 = some ⟨oc19, od19, .func (PySem.W.fnOf "least_of" "least_of" (defArgs s_least_of) (defBody s_least_of) (defScope s_least_of) .none kV19 dc19 pm19 an19 cd19 ct19), sl19⟩)
    (c19 : PySem.W.codeIn K cd19 "least_of" = true)
    (k19 : PySem.W.keepIn K (.ref f19) = true)
    (a20 : PySem.W.nsIn K mainGlobals "least_word" = some (some (.ref f20)))
    (l20 : K.lookup f20 = some ⟨oc20, od20, .func (PySem.W.fnOf "least_word" "least_word" (defArgs s_least_word) (defBody s_least_word) (defScope s_least_word) .none kV20 dc20 pm20 an20 cd20 ct20), sl20⟩)
    (c20 : PySem.W.codeIn K cd20 "least_word" = true)
    (k20 : PySem.W.keepIn K (.ref f20) = true)
    (a21 : PySem.W.nsIn K mainGlobals "_law_draw" = some (some (.ref f21)))
    (l21 : K.lookup f21 = some ⟨oc21, od21, .func (PySem.W.fnOf "_law_draw" "_law_draw" (defArgs s__law_draw) (defBody s__law_draw) (defScope s__law_draw) .none kV21 dc21 pm21 an21 cd21 ct21), sl21⟩)
    (c21 : PySem.W.codeIn K cd21 "_law_draw" = true)
    (k21 : PySem.W.keepIn K (.ref f21) = true)
    (a22 : PySem.W.nsIn K mainGlobals "_law_one" = some (some (.ref f22)))
    (l22 : K.lookup f22 = some ⟨oc22, od22, .func (PySem.W.fnOf "_law_one" "_law_one" (defArgs s__law_one) (defBody s__law_one) (defScope s__law_one) .none kV22 dc22 pm22 an22 cd22 ct22), sl22⟩)
    (c22 : PySem.W.codeIn K cd22 "_law_one" = true)
    (k22 : PySem.W.keepIn K (.ref f22) = true)
    (a23 : PySem.W.nsIn K mainGlobals "_law_well" = some (some (.ref f23)))
    (l23 : K.lookup f23 = some ⟨oc23, od23, .func (PySem.W.fnOf "_law_well" "_law_well" (defArgs s__law_well) (defBody s__law_well) (defScope s__law_well) .none kV23 dc23 pm23 an23 cd23 ct23), sl23⟩)
    (c23 : PySem.W.codeIn K cd23 "_law_well" = true)
    (k23 : PySem.W.keepIn K (.ref f23) = true)
    (a24 : PySem.W.nsIn K mainGlobals "_law_content" = some (some (.ref f24)))
    (l24 : K.lookup f24 = some ⟨oc24, od24, .func (PySem.W.fnOf "_law_content" "_law_content" (defArgs s__law_content) (defBody s__law_content) (defScope s__law_content) .none kV24 dc24 pm24 an24 cd24 ct24), sl24⟩)
    (c24 : PySem.W.codeIn K cd24 "_law_content" = true)
    (k24 : PySem.W.keepIn K (.ref f24) = true)
    (a25 : PySem.W.nsIn K mainGlobals "_law_table" = some (some (.ref f25)))
    (l25 : K.lookup f25 = some ⟨oc25, od25, .func (PySem.W.fnOf "_law_table" "_law_table" (defArgs s__law_table) (defBody s__law_table) (defScope s__law_table) .none kV25 dc25 pm25 an25 cd25 ct25), sl25⟩)
    (c25 : PySem.W.codeIn K cd25 "_law_table" = true)
    (k25 : PySem.W.keepIn K (.ref f25) = true)
    (a26 : PySem.W.nsIn K mainGlobals "_law_is_refused" = some (some (.ref f26)))
    (l26 : K.lookup f26 = some ⟨oc26, od26, .func (PySem.W.fnOf "_law_is_refused" "_law_is_refused" (defArgs s__law_is_refused) (defBody s__law_is_refused) (defScope s__law_is_refused) .none kV26 dc26 pm26 an26 cd26 ct26), sl26⟩)
    (c26 : PySem.W.codeIn K cd26 "_law_is_refused" = true)
    (k26 : PySem.W.keepIn K (.ref f26) = true)
    (a27 : PySem.W.nsIn K mainGlobals "_law_others_right" = some (some (.ref f27)))
    (l27 : K.lookup f27 = some ⟨oc27, od27, .func (PySem.W.fnOf "_law_others_right" "_law_others_right" (defArgs s__law_others_right) (defBody s__law_others_right) (defScope s__law_others_right) .none kV27 dc27 pm27 an27 cd27 ct27), sl27⟩)
    (c27 : PySem.W.codeIn K cd27 "_law_others_right" = true)
    (k27 : PySem.W.keepIn K (.ref f27) = true)
    (a28 : PySem.W.nsIn K mainGlobals "law" = some (some (.ref f28)))
    (l28 : K.lookup f28 = some ⟨oc28, od28, .func (PySem.W.fnOf "law" "law" (defArgs s_law) (defBody s_law) (defScope s_law) .none kV28 dc28 pm28 an28 cd28 ct28), sl28⟩)
    (c28 : PySem.W.codeIn K cd28 "law" = true)
    (k28 : PySem.W.keepIn K (.ref f28) = true)
    (b0 : PySem.W.nsIn K mainGlobals "FIGURES" = some (some (.str (tx FIG) tS0)))
    (b1 : PySem.W.nsIn K mainGlobals "TAG_SIGNS" = some (some (.str (tx TAGSG) tS1)))
    (p0 : PySem.W.nsIn K mainGlobals "PIECE" = some (some (.int (E60 : Nat) tI0)))
    (u0 : PySem.W.nsIn K mainGlobals "NULLS" = some (some (.ref g0)))
    (v0 : K.lookup g0 = some ⟨tc0, od29, .seq ti0 tn0, sl29⟩)
    (w0 : tc0 = .type "tuple")
    (x0 : ti0.size ≤ 1000)
    (y0 : strsOf NULLL ti0.toList = true)
    (u1 : PySem.W.nsIn K mainGlobals "TRUES" = some (some (.ref g1)))
    (v1 : K.lookup g1 = some ⟨tc1, od30, .seq ti1 tn1, sl30⟩)
    (w1 : tc1 = .type "tuple")
    (x1 : ti1.size ≤ 1000)
    (y1 : strsOf TRUEL ti1.toList = true)
    (u2 : PySem.W.nsIn K mainGlobals "FALSES" = some (some (.ref g2)))
    (v2 : K.lookup g2 = some ⟨tc2, od31, .seq ti2 tn2, sl31⟩)
    (w2 : tc2 = .type "tuple")
    (x2 : ti2.size ≤ 1000)
    (y2 : strsOf FALSEL ti2.toList = true)
    (u3 : PySem.W.nsIn K mainGlobals "INFINITIES" = some (some (.ref g3)))
    (v3 : K.lookup g3 = some ⟨tc3, od32, .seq ti3 tn3, sl32⟩)
    (w3 : tc3 = .type "tuple")
    (x3 : ti3.size ≤ 1000)
    (y3 : strsOf INFL ti3.toList = true)
    (u4 : PySem.W.nsIn K mainGlobals "NANS" = some (some (.ref g4)))
    (v4 : K.lookup g4 = some ⟨tc4, od33, .seq ti4 tn4, sl33⟩)
    (w4 : tc4 = .type "tuple")
    (x4 : ti4.size ≤ 1000)
    (y4 : strsOf NANL ti4.toList = true)
    (u5 : PySem.W.nsIn K mainGlobals "COLLECTION_TAGS" = some (some (.ref g5)))
    (v5 : K.lookup g5 = some ⟨tc5, od34, .seq ti5 tn5, sl34⟩)
    (w5 : tc5 = .type "tuple")
    (x5 : ti5.size ≤ 1000)
    (y5 : strsOf CT ti5.toList = true)
    (u6 : PySem.W.nsIn K mainGlobals "WORD_TAGS" = some (some (.ref g6)))
    (v6 : K.lookup g6 = some ⟨tc6, od35, .seq ti6 tn6, sl35⟩)
    (w6 : tc6 = .type "tuple")
    (x6 : ti6.size ≤ 1000)
    (y6 : strsOf WT ti6.toList = true)
    (z0 : PySem.W.nsIn K mainGlobals "all" = some none)
    (z1 : PySem.W.nsIn K mainGlobals "divmod" = some none)
    (z2 : PySem.W.nsIn K mainGlobals "str" = some none)
    (z3 : PySem.W.nsIn K mainGlobals "len" = some none)
    (z4 : PySem.W.nsIn K mainGlobals "int" = some none)
    (z5 : PySem.W.nsIn K mainGlobals "range" = some none)
    (z6 : PySem.W.nsIn K mainGlobals "abs" = some none)
    (z7 : PySem.W.nsIn K mainGlobals "max" = some none)
    (z8 : PySem.W.nsIn K mainGlobals "min" = some none)
    (z9 : PySem.W.nsIn K mainGlobals "isinstance" = some none)
    (z10 : PySem.W.nsIn K mainGlobals "sorted" = some none)
    (dgk : PySem.W.nsIn K cStatics "sys.int_max_str_digits" = some none)
    (kf1 : PySem.W.nsIn K mainGlobals "FIXED_WORDS" = some (some (.ref dF)))
    (kf2 : K.lookup dF = some ⟨.type "dict", none, .dict esF nF, #[]⟩)
    (kf3 : PySem.W.KeysLit w.params esF.toList)
    (kf4 : (dF == sysModules) = false)
    (kf5 : entsOf FIXK esF.toList = true)
    (xa0 : PySem.W.nsIn K mainGlobals "BadTag" = some (some (.ref ClX0)))
    (xl0 : K.lookup ClX0 = some (excClassObj nX0 qX0 ClX0 NX0 bsX0 bmX0 true snX0 suX0 abX0 coX0 ddX0 m0X0 m1X0 m2X0 m3X0 m5X0 "ValueError.__new__"))
    (xv0 : PySem.HandSPX.refsVE bmX0 = true)
    (xs0 : PySem.W.findIn K (.ref ClX0) "__setattr__" = some (some (.builtin "object.__setattr__")))
    (xb0 : PySem.W.subIn K (.ref ClX0) (.type "BaseException") = some true)
    (xt0 : PySem.W.typeIn K (.ref ClX0) = some (.type "type"))
    (xk0 : PySem.W.keepIn K (.ref ClX0) = true)
    (xn0 : PySem.W.findIn K (.ref ClX0) "place" = some none)
    (xi0 : PySem.W.isClsIn K ClX0 = true)
    (xu0 : PySem.W.subIn K (.ref ClX0) (.ref ClX0) = some true)
    (xg0 : PySem.W.findIn K (.ref ClX0) "__getattribute__" = some (some (.builtin "BaseException.__getattribute__")))
    (xh0 : PySem.W.findIn K (.ref ClX0) "__getattr__" = some none)
    (xd0 : PySem.W.hasDictIn K ClX0 = true)
    (xj0 : PySem.W.findIn K (.ref ClX0) "__init__" = some (some (.ref IX0)))
    (xy0 : PySem.W.typeIn K (.ref IX0) = some (.type "function"))
    (xf0 : K.lookup IX0 = some ⟨icX0, ioX0, .func (PySem.W.fnOf "__init__" "BadTag.__init__" (defArgs (initS (topS 3))) (defBody (initS (topS 3))) (defScope (initS (topS 3))) (.ref HX0) ikX0 idX0 ipX0 iaX0 ieX0 itX0), isX0⟩)
    (xc0 : PySem.W.codeIn K ieX0 "BadTag.__init__" = true)
    (xo0 : PySem.W.keepIn K (.ref IX0) = true)
    (xr0 : K.lookup HX0 = some ⟨dcX0, dqX0, .seq diX0 dnX0, dsX0⟩)
    (xe0 : diX0 = #[.none]) :
    ∃ fd : FuncData, (∀ (s : Shared) (v : Value), BindsTo s fd ⟨[v], []⟩ [("_law_script", v)]) ∧ ∀ base : Heap, K.In base → base.Ns mainGlobals mg → FnOk l.prog w K mg base CX0 8 fa fd ["_law_script"] (SpR K 1 R_law) := by
  have e := hfa.symm.trans (PySem.W.mg_of X G a28)
  cases e
  have D_is_all := df_mk (st := s_is_all) (ps := ["word", "signs"]) X G a0 l0 c0 k0 fun _ _ _ _ _ _ us hl => match us, hl with | [_, _], _ => rfl
  have D_unsigned := df_mk (st := s_unsigned) (ps := ["word"]) X G a1 l1 c1 k1 fun _ _ _ _ _ _ us hl => match us, hl with | [_], _ => rfl
  have D_figures_of := df_mk (st := s_figures_of) (ps := ["number"]) X G a2 l2 c2 k2 fun _ _ _ _ _ _ us hl => match us, hl with | [_], _ => rfl
  have D_number_of := df_mk (st := s_number_of) (ps := ["figures"]) X G a3 l3 c3 k3 fun _ _ _ _ _ _ us hl => match us, hl with | [_], _ => rfl
  have D_whole_text := df_mk (st := s_whole_text) (ps := ["word"]) X G a4 l4 c4 k4 fun _ _ _ _ _ _ us hl => match us, hl with | [_], _ => rfl
  have D_float_text := df_mk (st := s_float_text) (ps := ["word"]) X G a5 l5 c5 k5 fun _ _ _ _ _ _ us hl => match us, hl with | [_], _ => rfl
  have D_canonical := df_mk (st := s_canonical) (ps := ["tag", "word"]) X G a6 l6 c6 k6 fun _ _ _ _ _ _ us hl => match us, hl with | [_, _], _ => rfl
  have D_word_tag := df_mk (st := s_word_tag) (ps := ["word"]) X G a7 l7 c7 k7 fun _ _ _ _ _ _ us hl => match us, hl with | [_], _ => rfl
  have D_check_schema := df_mk (st := s_check_schema) (ps := ["schema"]) X G a8 l8 c8 k8 fun _ _ _ _ _ _ us hl => match us, hl with | [_], _ => rfl
  have D_may_have := df_mk (st := s_may_have) (ps := ["kind", "tag", "schema"]) X G a9 l9 c9 k9 fun _ _ _ _ _ _ us hl => match us, hl with | [_, _, _], _ => rfl
  have D_is_tag := df_mk (st := s_is_tag) (ps := ["thing"]) X G a10 l10 c10 k10 fun _ _ _ _ _ _ us hl => match us, hl with | [_], _ => rfl
  have D_tag_fits := df_mk (st := s_tag_fits) (ps := ["kind", "tag", "content", "schema"]) X G a11 l11 c11 k11 fun _ _ _ _ _ _ us hl => match us, hl with | [_, _, _, _], _ => rfl
  have D_figures_and_power := df_mk (st := s_figures_and_power) (ps := ["content"]) X G a12 l12 c12 k12 fun _ _ _ _ _ _ us hl => match us, hl with | [_], _ => rfl
  have D_signed_number := df_mk (st := s_signed_number) (ps := ["text"]) X G a13 l13 c13 k13 fun _ _ _ _ _ _ us hl => match us, hl with | [_], _ => rfl
  have D_signed_figures := df_mk (st := s_signed_figures) (ps := ["number"]) X G a14 l14 c14 k14 fun _ _ _ _ _ _ us hl => match us, hl with | [_], _ => rfl
  have D_words_without_power := df_mk (st := s_words_without_power) (ps := ["figures", "power"]) X G a15 l15 c15 k15 fun _ _ _ _ _ _ us hl => match us, hl with | [_, _], _ => rfl
  have D_words_with_power := df_mk (st := s_words_with_power) (ps := ["figures", "power"]) X G a16 l16 c16 k16 fun _ _ _ _ _ _ us hl => match us, hl with | [_, _], _ => rfl
  have D_float_words := df_mk (st := s_float_words) (ps := ["content"]) X G a17 l17 c17 k17 fun _ _ _ _ _ _ us hl => match us, hl with | [_], _ => rfl
  have D_whole_words := df_mk (st := s_whole_words) (ps := ["content"]) X G a18 l18 c18 k18 fun _ _ _ _ _ _ us hl => match us, hl with | [_], _ => rfl
  have D_least_of := df_mk (st := s_least_of) (ps := ["words"]) X G a19 l19 c19 k19 fun _ _ _ _ _ _ us hl => match us, hl with | [_], _ => rfl
  have D_least_word := df_mk (st := s_least_word) (ps := ["tag", "content"]) X G a20 l20 c20 k20 fun _ _ _ _ _ _ us hl => match us, hl with | [_, _], _ => rfl
  have D__law_draw := df_mk (st := s__law_draw) (ps := ["_law_well_here", "_law_many"]) X G a21 l21 c21 k21 fun _ _ _ _ _ _ us hl => match us, hl with | [_, _], _ => rfl
  have D__law_one := df_mk (st := s__law_one) (ps := ["_law_well_here", "_law_some"]) X G a22 l22 c22 k22 fun _ _ _ _ _ _ us hl => match us, hl with | [_, _], _ => rfl
  have D__law_well := df_mk (st := s__law_well) (ps := ["_law_script", "_law_k"]) X G a23 l23 c23 k23 fun _ _ _ _ _ _ us hl => match us, hl with | [_, _], _ => rfl
  have D__law_content := df_mk (st := s__law_content) (ps := ["_law_word"]) X G a24 l24 c24 k24 fun _ _ _ _ _ _ us hl => match us, hl with | [_], _ => rfl
  have D__law_table := df_mk (st := s__law_table) (ps := []) X G a25 l25 c25 k25 fun _ _ _ _ _ _ us hl => match us, hl with | [], _ => rfl
  have D__law_is_refused := df_mk (st := s__law_is_refused) (ps := ["_law_lead", "_law_text"]) X G a26 l26 c26 k26 fun _ _ _ _ _ _ us hl => match us, hl with | [_, _], _ => rfl
  have D__law_others_right := df_mk (st := s__law_others_right) (ps := ["_law_well_here"]) X G a27 l27 c27 k27 fun _ _ _ _ _ _ us hl => match us, hl with | [_], _ => rfl
  have D_law := df_mk (st := s_law) (ps := ["_law_script"]) X G a28 l28 c28 k28 fun _ _ _ _ _ _ us hl => match us, hl with | [_], _ => rfl
  have U_FIGURES := gc_str X G b0
  have U_TAG_SIGNS := gc_str X G b1
  have U_PIECE := gc_int X G p0
  have U_NULLS := gc_tup X G u0 v0 w0 x0 y0
  have U_TRUES := gc_tup X G u1 v1 w1 x1 y1
  have U_FALSES := gc_tup X G u2 v2 w2 x2 y2
  have U_INFINITIES := gc_tup X G u3 v3 w3 x3 y3
  have U_NANS := gc_tup X G u4 v4 w4 x4 y4
  have U_COLLECTION_TAGS := gc_tup X G u5 v5 w5 x5 y5
  have U_WORD_TAGS := gc_tup X G u6 v6 w6 x6 y6
  have m_all := PySem.W.mg_none_of X G z0
  have m_divmod := PySem.W.mg_none_of X G z1
  have m_str := PySem.W.mg_none_of X G z2
  have m_len := PySem.W.mg_none_of X G z3
  have m_int := PySem.W.mg_none_of X G z4
  have m_range := PySem.W.mg_none_of X G z5
  have m_abs := PySem.W.mg_none_of X G z6
  have m_max := PySem.W.mg_none_of X G z7
  have m_min := PySem.W.mg_none_of X G z8
  have m_isinstance := PySem.W.mg_none_of X G z9
  have m_sorted := PySem.W.mg_none_of X G z10
  refine ⟨PySem.W.fnOf "law" "law" (defArgs s_law) (defBody s_law) (defScope s_law) .none kV28 dc28 pm28 an28 cd28 ct28, fun s v => .of_eq rfl, fun base KI GI => ?_⟩
  have X_BadTag : Xi l.prog w K mg base "BadTag" "place" ClX0 := xi_mk (st := initS (topS 3)) (qn := "BadTag.__init__") X G xa0 xl0 xv0 xs0 xb0 xt0 xk0 xn0 xi0 xu0 xg0 xh0 xd0 xj0 xy0 (init_none xf0 xc0 xo0 xr0 xe0) ⟨rfl, rfl, rfl, by decide +kernel, rfl, by decide +kernel, by decide +kernel⟩ (fun cdv A outer s H E => pss_one (ps_ost (pv 0) (pv 1))) (fun T kV doc pm an cdv ct us its h1 h2 => match us, h1 with | [_, _], _ => match its, h2 with | [_], _ => ⟨_, rfl, rfl⟩)
  have U_FIXED_WORDS := gc_ref X G kf1
  have tF : TDict K w dF FIXK esF nF := ⟨⟨kf2, kf3, kf4⟩, kf5⟩
  have F0 := cal_is_all (P := l.prog) (w := w) (base := base) (k := 0) D_is_all m_all
  have F1 := cal_unsigned (P := l.prog) (w := w) (base := base) (k := 0) D_unsigned
  have F2 := cal_figures_of (P := l.prog) (w := w) (base := base) (k := 0) D_figures_of U_PIECE m_divmod m_str
  have F3 := cal_number_of (P := l.prog) (w := w) (base := base) (k := 0) D_number_of U_PIECE m_len m_int m_range
  have F4 := cal_whole D_whole_text U_FIGURES F0 F1 F2 m_int dgk
  have F5 := cal_float_text D_float_text U_FIGURES U_NANS U_INFINITIES F0 F1 F3 F2 m_len m_abs
  have F6 := cal_canonical D_canonical U_COLLECTION_TAGS U_NULLS U_TRUES U_FALSES F4 F5
  have W1 := cal_word_tag D_word_tag U_WORD_TAGS F6.cal
  have C1 := cal_check (P := l.prog) (w := w) (base := base) (k := 0) D_check_schema m_isinstance m_str
  have C2 := cal_may (P := l.prog) (w := w) (base := base) (j := 0) D_may_have U_COLLECTION_TAGS U_WORD_TAGS
  have T1 := cal_is_tag D_is_tag U_TAG_SIGNS F0 m_isinstance m_str
  have T2 := cal_fits D_tag_fits C1 T1 C2 F6.cal m_isinstance m_str
  have FP := cal_figpow D_figures_and_power F2 m_len
  have SN := cal_signed D_signed_number F3
  have SF := cal_sfig D_signed_figures F2 m_abs
  have WO := cal_wwo (P := l.prog) (w := w) (base := base) D_words_without_power m_len
  have WP := cal_wwp D_words_with_power SF m_len
  have FW := cal_fw D_float_words FP SN WO WP m_len
  have WW := cal_ww D_whole_words F3
  have LO := cal_lof (P := l.prog) (w := w) (base := base) D_least_of m_len m_min
  have LW := cal_lw D_least_word U_FIXED_WORDS tF T2 W1.cal LO WW FW
  have KW := LW.kw2 (fun _ _ _ _ _ _ _ _ => rfl) (fun _ _ _ _ _ _ _ _ => rfl)
  have T3 := cal_isN (k := 0) D_is_tag U_TAG_SIGNS F0 m_isinstance m_str
  have T4 := cal_fitsN D_tag_fits C1 T1 T3 C2 F6.cal m_isinstance m_str
  have LX := cal_lwX D_least_word U_FIXED_WORDS tF X_BadTag T2 T4 W1.cal LO WW FW
  have F7 := cal_draw (P := l.prog) (w := w) (base := base) (k := 0) D__law_draw m_int
  have F8 := cal_one (k := 0) D__law_one F7 m_len
  have F9 := cal_well (P := l.prog) (w := w) (base := base) (k := 0) D__law_well m_int m_len
  have CW := cal_cw (P := l.prog) (w := w) (base := base) (k := 0) D__law_content m_max m_len m_str m_int m_range dgk
  have TB := cal_tab (k := 0) D__law_table CW m_range m_len
  have RF := cal_ref D__law_is_refused X_BadTag LX
  have OT := cal_oth D__law_others_right LW.cal F8 RF
  obtain ⟨f, fd, F, U, hm, b⟩ := (cal_law D_law LW.cal KW TB F8 F9 OT m_sorted m_range m_len m_max m_min).ex
  cases hfa.symm.trans hm
  obtain ⟨oc, od, kV, doc, pm, an, cdv, ct, osl, rfl, lk, hcd⟩ := U.ex
  have e2 := lk.symm.trans l28
  cases e2
  exact F
end T
open PySem PySem.W PyProof.Rows
set_option maxHeartbeats 0 in
theorem PySem.Challenge.cw_anchorpages_k59_whole_least_short_words_holds : PySem.Challenge.rw_anchorpages_k59_whole_least_short_words.Holds := by
  w_on; o_law; k_head; (case hw => w_witness2)
  k_fill
  refine L2.walk_of (l := PySem.Challenge.rw_anchorpages_k59_whole_least_short_words) (n := 63) (k := 8) (x := "_law_script") (CX := fun _ => L2.CX0) (sp := fun w => DJ.SpR _ 1 T.R_law) rfl (by decide) rfl ⟨rfl, by decide, by decide⟩ (fun w h Y => PySem.W.kIn_of Y) ?F (fun _ _ a ns hl _ hS => DJ.sp_of hS ⟨ns, hl, rfl, rfl, rfl, rfl⟩) (fun _ _ _ _ _ h => h)
  case F =>
    intro w mg fa h KX G hmg
    refine' T.all_mk KX G hmg ?a0 ?l0 ?c0 ?k0 ?a1 ?l1 ?c1 ?k1 ?a2 ?l2 ?c2 ?k2 ?a3 ?l3 ?c3 ?k3 ?a4 ?l4 ?c4 ?k4 ?a5 ?l5 ?c5 ?k5 ?a6 ?l6 ?c6 ?k6 ?a7 ?l7 ?c7 ?k7 ?a8 ?l8 ?c8 ?k8 ?a9 ?l9 ?c9 ?k9 ?a10 ?l10 ?c10 ?k10 ?a11 ?l11 ?c11 ?k11 ?a12 ?l12 ?c12 ?k12 ?a13 ?l13 ?c13 ?k13 ?a14 ?l14 ?c14 ?k14 ?a15 ?l15 ?c15 ?k15 ?a16 ?l16 ?c16 ?k16 ?a17 ?l17 ?c17 ?k17 ?a18 ?l18 ?c18 ?k18 ?a19 ?l19 ?c19 ?k19 ?a20 ?l20 ?c20 ?k20 ?a21 ?l21 ?c21 ?k21 ?a22 ?l22 ?c22 ?k22 ?a23 ?l23 ?c23 ?k23 ?a24 ?l24 ?c24 ?k24 ?a25 ?l25 ?c25 ?k25 ?a26 ?l26 ?c26 ?k26 ?a27 ?l27 ?c27 ?k27 ?a28 ?l28 ?c28 ?k28 ?b0 ?b1 ?p0 ?u0 ?v0 ?w0 ?x0 ?y0 ?u1 ?v1 ?w1 ?x1 ?y1 ?u2 ?v2 ?w2 ?x2 ?y2 ?u3 ?v3 ?w3 ?x3 ?y3 ?u4 ?v4 ?w4 ?x4 ?y4 ?u5 ?v5 ?w5 ?x5 ?y5 ?u6 ?v6 ?w6 ?x6 ?y6 ?z0 ?z1 ?z2 ?z3 ?z4 ?z5 ?z6 ?z7 ?z8 ?z9 ?z10 ?dgk ?kf1 ?kf2 ?kf3 ?kf4 ?kf5 ?xa0 ?xl0 ?xv0 ?xs0 ?xb0 ?xt0 ?xk0 ?xn0 ?xi0 ?xu0 ?xg0 ?xh0 ?xd0 ?xj0 ?xy0 ?xf0 ?xc0 ?xo0 ?xr0 ?xe0
    (case a0 => k_is); (case l0 => k_is); (case c0 => k_is); (case k0 => k_is); (case a1 => k_is); (case l1 => k_is); (case c1 => k_is); (case k1 => k_is); (case a2 => k_is); (case l2 => k_is); (case c2 => k_is); (case k2 => k_is); (case a3 => k_is); (case l3 => k_is); (case c3 => k_is); (case k3 => k_is); (case a4 => k_is); (case l4 => k_is); (case c4 => k_is); (case k4 => k_is); (case a5 => k_is); (case l5 => k_is); (case c5 => k_is); (case k5 => k_is); (case a6 => k_is); (case l6 => k_is); (case c6 => k_is); (case k6 => k_is); (case a7 => k_is); (case l7 => k_is); (case c7 => k_is); (case k7 => k_is); (case a8 => k_is); (case l8 => k_is); (case c8 => k_is); (case k8 => k_is); (case a9 => k_is); (case l9 => k_is); (case c9 => k_is); (case k9 => k_is); (case a10 => k_is); (case l10 => k_is); (case c10 => k_is); (case k10 => k_is); (case a11 => k_is); (case l11 => k_is); (case c11 => k_is); (case k11 => k_is); (case a12 => k_is); (case l12 => k_is); (case c12 => k_is); (case k12 => k_is); (case a13 => k_is); (case l13 => k_is); (case c13 => k_is); (case k13 => k_is); (case a14 => k_is); (case l14 => k_is); (case c14 => k_is); (case k14 => k_is); (case a15 => k_is); (case l15 => k_is); (case c15 => k_is); (case k15 => k_is); (case a16 => k_is); (case l16 => k_is); (case c16 => k_is); (case k16 => k_is); (case a17 => k_is); (case l17 => k_is); (case c17 => k_is); (case k17 => k_is); (case a18 => k_is); (case l18 => k_is); (case c18 => k_is); (case k18 => k_is); (case a19 => k_is); (case l19 => k_is); (case c19 => k_is); (case k19 => k_is); (case a20 => k_is); (case l20 => k_is); (case c20 => k_is); (case k20 => k_is); (case a21 => k_is); (case l21 => k_is); (case c21 => k_is); (case k21 => k_is); (case a22 => k_is); (case l22 => k_is); (case c22 => k_is); (case k22 => k_is); (case a23 => k_is); (case l23 => k_is); (case c23 => k_is); (case k23 => k_is); (case a24 => k_is); (case l24 => k_is); (case c24 => k_is); (case k24 => k_is); (case a25 => k_is); (case l25 => k_is); (case c25 => k_is); (case k25 => k_is); (case a26 => k_is); (case l26 => k_is); (case c26 => k_is); (case k26 => k_is); (case a27 => k_is); (case l27 => k_is); (case c27 => k_is); (case k27 => k_is); (case a28 => k_is); (case l28 => k_is); (case c28 => k_is); (case k28 => k_is); (case b0 => k_is); (case b1 => k_is); (case p0 => k_is); (case u0 => k_is); (case v0 => k_is); (case w0 => exact rfl); (case x0 => decide +kernel); (case y0 => decide +kernel); (case u1 => k_is); (case v1 => k_is); (case w1 => exact rfl); (case x1 => decide +kernel); (case y1 => decide +kernel); (case u2 => k_is); (case v2 => k_is); (case w2 => exact rfl); (case x2 => decide +kernel); (case y2 => decide +kernel); (case u3 => k_is); (case v3 => k_is); (case w3 => exact rfl); (case x3 => decide +kernel); (case y3 => decide +kernel); (case u4 => k_is); (case v4 => k_is); (case w4 => exact rfl); (case x4 => decide +kernel); (case y4 => decide +kernel); (case u5 => k_is); (case v5 => k_is); (case w5 => exact rfl); (case x5 => decide +kernel); (case y5 => decide +kernel); (case u6 => k_is); (case v6 => k_is); (case w6 => exact rfl); (case x6 => decide +kernel); (case y6 => decide +kernel); (case z0 => k_is); (case z1 => k_is); (case z2 => k_is); (case z3 => k_is); (case z4 => k_is); (case z5 => k_is); (case z6 => k_is); (case z7 => k_is); (case z8 => k_is); (case z9 => k_is); (case z10 => k_is); (case dgk => k_is); (case kf1 => k_is); (case kf2 => k_is); (case kf3 => exact ⟨⟨_, _, rfl, rfl⟩, ⟨_, _, rfl, rfl⟩, ⟨_, _, rfl, rfl⟩, ⟨_, _, rfl, rfl⟩, ⟨_, _, rfl, rfl⟩, ⟨_, _, rfl, rfl⟩, trivial⟩); (case kf4 => decide +kernel); (case kf5 => exact rfl); (case xa0 => k_is); (case xl0 => k_is); (case xv0 => exact rfl); (case xs0 => k_is); (case xb0 => k_is); (case xt0 => k_is); (case xk0 => k_is); (case xn0 => k_is); (case xi0 => k_is); (case xu0 => k_is); (case xg0 => k_is); (case xh0 => k_is); (case xd0 => k_is); (case xj0 => k_is); (case xy0 => k_is); (case xf0 => k_is); (case xc0 => k_is); (case xo0 => k_is); (case xr0 => k_is); (case xe0 => exact rfl)
