import PyProof.Rows.All
import HandS.ForMost
import HandS.StrMore
import HandS.Style
import HandS.Codes
import HandS.ReplaceList
import HandS.ReplaceLit
import HandS.WideBits
import HandS.ReplaceDef
import HandS.IntHex
import HandS.Dict
import KE.KDictDisplayH
import HandS.DictTup
import HandS.Conv
import HandS.IsInst
import PyProof.StrOps2
import KE.GoesMore
import PyProof.ReprRoads
import HandS.Defaults
import PyProof.Rows.StrOr
import HandS.Wide
import HandS.ForExc
import HandS.ExcInit
import HandS.ExcField
import HandS.CallSlots
import HandS.Lambda
import HandS.EndTab
import KE.KDflt
import HandS.EndOwn
import KE.KNestM
import HandS.ExcIs
import HandS.TupSets
import HandS.Property
import HandS.SlotsOwn
import HandS.OwnEq
import HandS.TupLe
import HandS.Iter
import HandS.MakeKwOnly
import HandS.Flow
import HandS.More
import HandS.TryOnly
import HandS.FStr
import KE.KxField
import KE.DataMinMax
import HandS.SortOrd
import PyProof.FactsAll.NoneType_1
import PyProof.FString2
import PyProof.P3Eq
import HandS.SetFor
import HandS.SortInts
import PyProof.Rows.SetFrom
import HandS.DictComp
import HandS.Strs
import HandS.TupMul
import PyProof.InstNe
import PyProof.FactsAll.object_1
import PyProof.FactsAll.object_2
import PyProof.CallFns
import HandS.ExcValue
import PySem.Challenge.RW_anchorpages_k56_collections_and_schemas
set_option Elab.async false
set_option linter.all false
set_option maxRecDepth 100000
set_option maxHeartbeats 4000000
namespace DJ
open PySem PySem.Spec PyProof.Rows L2
/-! ### data, what stands for them -/
abbrev tx (l : List Nat) : Str := ⟨l.toArray⟩
inductive Dt where
  | non | bl (b : Bool) | int (i : Int) | str (x : List Nat) | lst (xs : List Dt) | tup (xs : List Dt) | raw (v : V) | ext (φ : Hp → V → Prop)
mutual
def Rp (K : PySem.W.Frag) (H : Hp) : Dt → V → Prop
  | .non, v => v = .non
  | .bl b, v => v = .bl b
  | .int i, v => v = .int i
  | .str x, v => v = .str (tx x)
  | .lst xs, v => ∃ a vs, v = .ref a ∧ SqL K H a vs ∧ RpL K H xs vs
  | .tup xs, v => ∃ a vs, v = .ref a ∧ SqT K H a vs ∧ RpL K H xs vs
  | .raw u, v => v = u
  | .ext φ, v => ∀ H', Same H H' → φ H' v
def RpL (K : PySem.W.Frag) (H : Hp) : List Dt → List V → Prop
  | [], vs => vs = []
  | d :: ds, vs => ∃ v r, vs = v :: r ∧ Rp K H d v ∧ RpL K H ds r
end
theorem same_t {K : PySem.W.Frag} {H H' : Hp} {a : Addr} {xs : List V} (e : Same H H') (h : SqT K H a xs) : SqT K H' a xs := by
  rcases h with (h | ⟨o, h⟩) | h
  · exact .inl (.inl (e _ _ h))
  · exact .inl (.inr ⟨o, e _ _ h⟩)
  · exact .inr h
mutual
theorem Rp.mono {K : PySem.W.Frag} {H H' : Hp} (e : Same H H') : ∀ (d : Dt) (v : V), Rp K H d v → Rp K H' d v
  | .non, _, h => h
  | .bl _, _, h => h
  | .int _, _, h => h
  | .str _, _, h => h
  | .raw _, _, h => h
  | .ext _, _, h => fun H' e' => h H' (e.trans e')
  | .lst xs, v, h => by
    obtain ⟨a, vs, e1, h1, h2⟩ := h
    exact ⟨a, vs, e1, e.seq h1, RpL.mono e xs vs h2⟩
  | .tup xs, v, h => by
    obtain ⟨a, vs, e1, h1, h2⟩ := h
    exact ⟨a, vs, e1, same_t e h1, RpL.mono e xs vs h2⟩
theorem RpL.mono {K : PySem.W.Frag} {H H' : Hp} (e : Same H H') : ∀ (ds : List Dt) (vs : List V), RpL K H ds vs → RpL K H' ds vs
  | [], _, h => h
  | d :: ds, vs, h => by
    obtain ⟨v, r, e1, h1, h2⟩ := h
    exact ⟨v, r, e1, Rp.mono e d v h1, RpL.mono e ds r h2⟩
end
theorem RpL.len {K : PySem.W.Frag} {H : Hp} : ∀ {ds : List Dt} {vs : List V}, RpL K H ds vs → vs.length = ds.length
  | [], _, h => by rw [show _ = [] from h]; rfl
  | d :: ds, _, ⟨v, r, e, _, h⟩ => by rw [e, List.length_cons, List.length_cons, RpL.len h]
theorem RpL.get {K : PySem.W.Frag} {H : Hp} : ∀ {ds : List Dt} {vs : List V} {i : Nat} {d : Dt}, RpL K H ds vs → ds[i]? = some d → ∃ v, vs[i]? = some v ∧ Rp K H d v
  | [], _, _, _, _, h => by simp at h
  | d :: ds, _, 0, x, ⟨v, r, e, h1, _⟩, h => by
    subst e
    simp at h
    subst h
    exact ⟨v, rfl, h1⟩
  | d :: ds, _, i + 1, x, ⟨v, r, e, _, h2⟩, h => by
    subst e
    obtain ⟨v', e', q⟩ := RpL.get (i := i) h2 (by simpa using h)
    exact ⟨v', by simpa using e', q⟩
theorem RpL.append {K : PySem.W.Frag} {H : Hp} : ∀ {ds es : List Dt} {vs us : List V}, RpL K H ds vs → RpL K H es us → RpL K H (ds ++ es) (vs ++ us)
  | [], _, _, _, h, q => by rw [show _ = [] from h]; exact q
  | d :: ds, _, _, _, ⟨v, r, e, h1, h2⟩, q => by
    subst e
    exact ⟨v, _, rfl, h1, RpL.append h2 q⟩
theorem RpL.one {K : PySem.W.Frag} {H : Hp} {d : Dt} {v : V} (h : Rp K H d v) : RpL K H [d] [v] := ⟨v, [], rfl, h, rfl⟩
theorem RpL.take {K : PySem.W.Frag} {H : Hp} : ∀ {ds : List Dt} {vs : List V} (n : Nat), RpL K H ds vs → RpL K H (ds.take n) (vs.take n)
  | _, _, 0, _ => rfl
  | [], _, n + 1, h => by rw [show _ = [] from h]; rfl
  | d :: ds, _, n + 1, ⟨v, r, e, h1, h2⟩ => by
    subst e
    exact ⟨v, _, rfl, h1, RpL.take n h2⟩
theorem RpL.drop {K : PySem.W.Frag} {H : Hp} : ∀ {ds : List Dt} {vs : List V} (n : Nat), RpL K H ds vs → RpL K H (ds.drop n) (vs.drop n)
  | _, _, 0, h => h
  | [], _, n + 1, h => by rw [show _ = [] from h]; rfl
  | d :: ds, _, n + 1, ⟨v, r, e, h1, h2⟩ => by
    subst e
    exact RpL.drop n h2
theorem RpL.set {K : PySem.W.Frag} {H : Hp} {x : Dt} {u : V} (hx : Rp K H x u) : ∀ {ds : List Dt} {vs : List V} (n : Nat), RpL K H ds vs → RpL K H (ds.set n x) (vs.set n u)
  | [], _, _, h => by rw [show _ = [] from h]; rfl
  | d :: ds, _, 0, ⟨v, r, e, h1, h2⟩ => by
    subst e
    exact ⟨u, _, rfl, hx, h2⟩
  | d :: ds, _, n + 1, ⟨v, r, e, h1, h2⟩ => by
    subst e
    exact ⟨v, _, rfl, h1, RpL.set hx n h2⟩
theorem RpL.reverse {K : PySem.W.Frag} {H : Hp} : ∀ {ds : List Dt} {vs : List V}, RpL K H ds vs → RpL K H ds.reverse vs.reverse
  | [], _, h => by rw [show _ = [] from h]; rfl
  | d :: ds, _, ⟨v, r, e, h1, h2⟩ => by
    subst e
    rw [List.reverse_cons, List.reverse_cons]
    exact RpL.append (RpL.reverse h2) (RpL.one h1)
theorem RpL.strs {K : PySem.W.Frag} {H : Hp} : ∀ {xs : List (List Nat)} {vs : List V}, RpL K H (xs.map Dt.str) vs → vs = (xs.map tx).map V.str
  | [], _, h => h
  | x :: xs, _, ⟨v, r, e, h1, h2⟩ => by
    subst e
    rw [show v = V.str (tx x) from h1, RpL.strs h2]
    rfl
theorem RpL.strs_of {K : PySem.W.Frag} {H : Hp} : ∀ (xs : List (List Nat)), RpL K H (xs.map Dt.str) ((xs.map tx).map V.str)
  | [] => rfl
  | x :: xs => ⟨_, _, rfl, rfl, RpL.strs_of xs⟩
theorem RpL.bls {K : PySem.W.Frag} {H : Hp} : ∀ {xs : List Bool} {vs : List V}, RpL K H (xs.map Dt.bl) vs → vs = xs.map V.bl
  | [], _, h => h
  | x :: xs, _, ⟨v, r, e, h1, h2⟩ => by
    subst e
    rw [show v = V.bl x from h1, RpL.bls h2]
    rfl
theorem RpL.ints {K : PySem.W.Frag} {H : Hp} : ∀ {xs : List Int} {vs : List V}, RpL K H (xs.map Dt.int) vs → vs = xs.map V.int
  | [], _, h => h
  | x :: xs, _, ⟨v, r, e, h1, h2⟩ => by
    subst e
    rw [show v = V.int x from h1, RpL.ints h2]
    rfl
/-! ### slots, owned objects, states -/
inductive Sl where
  | d (x : Dt) | o (k : Nat)
inductive MO where
  | gone | lst (xs : List Dt) | hob (o : HO) | box (φ : Hp → HO → Prop) | abx (φ : Hp → Addr → HO → Prop)
def MoR (K : PySem.W.Frag) (B H : Hp) (a : Addr) : MO → Prop
  | .gone => True
  | .lst xs => ∃ vs, H a = some (.lst vs) ∧ RpL K B xs vs
  | .hob o => H a = some o ∧ ∀ vs, o ≠ .tup vs
  | .box φ => ∃ o, H a = some o ∧ (∀ vs, o ≠ .tup vs) ∧ ∀ B', Same B B' → φ B' o
  | .abx φ => ∃ o, H a = some o ∧ (∀ vs, o ≠ .tup vs) ∧ ∀ B', Same B B' → φ B' a o
def SlR (K : PySem.W.Frag) (B : Hp) (as : List Addr) : Sl → V → Prop
  | .d x, v => Rp K B x v
  | .o k, v => ∃ a, as[k]? = some a ∧ v = .ref a
def SlL (K : PySem.W.Frag) (B : Hp) (as : List Addr) : List Sl → List V → Prop
  | [], vs => vs = []
  | s :: ss, vs => ∃ v r, vs = v :: r ∧ SlR K B as s v ∧ SlL K B as ss r
def Px (as as' : List Addr) : Prop := ∃ t, as' = as ++ t
theorem Px.refl (as : List Addr) : Px as as := ⟨[], (List.append_nil _).symm⟩
theorem Px.trans {a b c : List Addr} (h : Px a b) (q : Px b c) : Px a c := by
  obtain ⟨t, rfl⟩ := h
  obtain ⟨u, rfl⟩ := q
  exact ⟨t ++ u, List.append_assoc _ _ _⟩
theorem Px.get {as as' : List Addr} {k : Nat} {a : Addr} (h : Px as as') (e : as[k]? = some a) : as'[k]? = some a := by
  obtain ⟨t, rfl⟩ := h
  rw [List.getElem?_append_left (List.getElem?_eq_some_iff.mp e).1]
  exact e
/-- framed, and no tuple -/
def Kp (o : Option HO) : Prop := o ≠ none ∧ ∀ vs, o ≠ some (.tup vs)
def Gr (F B B' : Hp) : Prop := Same B B' ∧ ∀ a, Kp (F a) → B a = none → B' a = none
theorem Gr.refl (F B : Hp) : Gr F B B := ⟨Same.refl B, fun _ _ h => h⟩
theorem Gr.trans {F B C D : Hp} (h : Gr F B C) (q : Gr F C D) : Gr F B D := ⟨h.1.trans q.1, fun a e n => q.2 a e (h.2 a e n)⟩
theorem SlR.mono {K : PySem.W.Frag} {B B' : Hp} {as as' : List Addr} (e : Same B B') (p : Px as as') : ∀ {s : Sl} {v : V}, SlR K B as s v → SlR K B' as' s v
  | .d x, v, h => Rp.mono e x v h
  | .o k, v, ⟨a, h, q⟩ => ⟨a, p.get h, q⟩
theorem SlL.mono {K : PySem.W.Frag} {B B' : Hp} {as as' : List Addr} (e : Same B B') (p : Px as as') : ∀ {ss : List Sl} {vs : List V}, SlL K B as ss vs → SlL K B' as' ss vs
  | [], _, h => h
  | s :: ss, _, ⟨v, r, e1, h1, h2⟩ => ⟨v, r, e1, SlR.mono e p h1, SlL.mono e p h2⟩
theorem SlL.len {K : PySem.W.Frag} {B : Hp} {as : List Addr} : ∀ {ss : List Sl} {vs : List V}, SlL K B as ss vs → vs.length = ss.length
  | [], _, h => by rw [show _ = [] from h]; rfl
  | s :: ss, _, ⟨v, r, e, _, h⟩ => by rw [e, List.length_cons, List.length_cons, SlL.len h]
theorem SlL.data {K : PySem.W.Frag} {B : Hp} {as : List Addr} : ∀ {ds : List Dt} {vs : List V}, SlL K B as (ds.map Sl.d) vs → RpL K B ds vs
  | [], _, h => h
  | d :: ds, _, ⟨v, r, e, h1, h2⟩ => ⟨v, r, e, h1, SlL.data h2⟩
theorem SlL.of_data {K : PySem.W.Frag} {B : Hp} {as : List Addr} : ∀ {ds : List Dt} {vs : List V}, RpL K B ds vs → SlL K B as (ds.map Sl.d) vs
  | [], _, h => h
  | d :: ds, _, ⟨v, r, e, h1, h2⟩ => ⟨v, r, e, h1, SlL.of_data h2⟩
theorem MoR.mono {K : PySem.W.Frag} {B B' H H' : Hp} {a : Addr} (e : Same B B') (eh : H' a = H a) : ∀ {m : MO}, MoR K B H a m → MoR K B' H' a m
  | .gone, h => h
  | .lst xs, ⟨vs, h, q⟩ => ⟨vs, eh.trans h, RpL.mono e xs vs q⟩
  | .hob _, ⟨h, q⟩ => ⟨eh.trans h, q⟩
  | .box _, ⟨o, h, q, p⟩ => ⟨o, eh.trans h, q, fun B2 e2 => p B2 (e.trans e2)⟩
  | .abx _, ⟨o, h, q, p⟩ => ⟨o, eh.trans h, q, fun B2 e2 => p B2 (e.trans e2)⟩
theorem kp_lst {vs : List V} : Kp (some (.lst vs)) := ⟨fun z => (nomatch z), fun _ z => (nomatch z)⟩
theorem Kp.same {F H : Hp} {a : Addr} (k : Kp (F a)) (e : Same F H) : Kp (H a) := by
  cases h : F a with
  | none => exact absurd h k.1
  | some o =>
    rw [e a o h]
    exact ⟨fun z => (nomatch z), fun vs z => k.2 vs (h.trans z)⟩
theorem kp_mor {K : PySem.W.Frag} {B H : Hp} {a : Addr} : ∀ {m : MO}, m ≠ .gone → MoR K B H a m → Kp (H a)
  | .gone, n, _ => absurd rfl n
  | .lst xs, _, ⟨vs, h, _⟩ => by rw [h]; exact kp_lst
  | .hob o, _, ⟨h, q⟩ => by rw [h]; exact ⟨fun z => (nomatch z), fun vs z => q vs (Option.some.inj z)⟩
  | .box _, _, ⟨o, h, q, _⟩ => by rw [h]; exact ⟨fun z => (nomatch z), fun vs z => q vs (Option.some.inj z)⟩
  | .abx _, _, ⟨o, h, q, _⟩ => by rw [h]; exact ⟨fun z => (nomatch z), fun vs z => q vs (Option.some.inj z)⟩
theorem nodup_ix2 : ∀ {l : List Addr}, l.Nodup → ∀ {i j : Nat} (hi : i < l.length) (hj : j < l.length), l[i] = l[j] → i = j
  | [], _, i, _, hi, _, _ => absurd hi (by simp)
  | a :: l, n, 0, 0, _, _, _ => rfl
  | a :: l, n, 0, j + 1, _, hj, e => absurd (by rw [show a = l[j]'(Nat.lt_of_succ_lt_succ hj) from e]; exact List.getElem_mem _) (List.nodup_cons.mp n).1
  | a :: l, n, i + 1, 0, hi, _, e => absurd (by rw [show a = l[i]'(Nat.lt_of_succ_lt_succ hi) from e.symm]; exact List.getElem_mem _) (List.nodup_cons.mp n).1
  | a :: l, n, i + 1, j + 1, hi, hj, e => congrArg (· + 1) (nodup_ix2 (List.nodup_cons.mp n).2 (Nat.lt_of_succ_lt_succ hi) (Nat.lt_of_succ_lt_succ hj) e)
structure Ow (K : PySem.W.Frag) (F B : Hp) (as : List Addr) (M : List MO) (H : Hp) : Prop where
  fb : Same F H
  bb : Same B H
  len : as.length = M.length
  nd : as.Nodup
  al : ∀ a ∈ as, H a ≠ none
  fa : ∀ a ∈ as, F a = none
  own : ∀ (k : Nat) (a : Addr) (m : MO), as[k]? = some a → M[k]? = some m → m ≠ .gone → F a = none ∧ B a = none ∧ MoR K B H a m
def Slt (K : PySem.W.Frag) (B : Hp) (as : List Addr) (G : List (Option Sl)) (σ : L2.St) : Prop :=
  σ.length = G.length ∧ ∀ (i : Nat) (s : Sl), G[i]? = some (some s) → ∃ v, σ[i]? = some (some v) ∧ SlR K B as s v
theorem Slt.mono {K : PySem.W.Frag} {B B' : Hp} {as as' : List Addr} {G : List (Option Sl)} {σ : L2.St} (h : Slt K B as G σ) (e : Same B B') (p : Px as as') : Slt K B' as' G σ :=
  ⟨h.1, fun i s q => let ⟨v, e1, h1⟩ := h.2 i s q; ⟨v, e1, SlR.mono e p h1⟩⟩
theorem Slt.set {K : PySem.W.Frag} {B : Hp} {as : List Addr} {G : List (Option Sl)} {σ : L2.St} {s : Sl} {v : V} (h : Slt K B as G σ) (i : Nat) (r : SlR K B as s v) : Slt K B as (G.set i (some s)) (σ.set i (some v)) := by
  refine ⟨by rw [List.length_set, List.length_set]; exact h.1, fun j s' q => ?_⟩
  by_cases e : i = j
  · subst e
    have hl : i < G.length := by
      rcases Nat.lt_or_ge i G.length with z | z
      · exact z
      · rw [List.getElem?_eq_none (by rw [List.length_set]; exact z)] at q
        cases q
    rw [List.getElem?_set_self hl] at q
    cases q
    exact ⟨v, by rw [List.getElem?_set_self (by rw [h.1]; exact hl)], r⟩
  · rw [List.getElem?_set_ne e] at q
    obtain ⟨v', e1, h1⟩ := h.2 j s' q
    exact ⟨v', by rw [List.getElem?_set_ne e]; exact e1, h1⟩
section
variable {K : PySem.W.Frag} {F B H : Hp} {as : List Addr} {M : List MO} {p : Addr}
theorem Ow.fresh (h : Ow K F B as M H) (hp : H p = none) : F p = none ∧ B p = none ∧ p ∉ as := by
  refine ⟨h.fb.free hp, h.bb.free hp, fun z => h.al p z hp⟩
theorem Ow.gr (h : Ow K F B as M H) (hp : H p = none) (o : HO) : Gr F B (upd B p o) := by
  obtain ⟨h1, h2, _⟩ := h.fresh hp
  refine ⟨fun a u e => ?_, fun a f n => ?_⟩
  · rw [upd_ne (ne_of_none e h2)]; exact e
  · rw [upd_ne (fun e => f.1 (by rw [e]; exact h1))]; exact n
/-- a new thing that never changes -/
theorem Ow.new (h : Ow K F B as M H) (hp : H p = none) (o : HO) : Ow K F (upd B p o) as M (upd H p o) := by
  obtain ⟨h1, h2, h3⟩ := h.fresh hp
  have hg := h.gr hp o
  refine ⟨fun a u e => ?_, fun a u e => ?_, h.len, h.nd, fun a ha => ?_, h.fa, fun k a m e1 e2 hm => ?_⟩
  · rw [upd_ne (ne_of_none e h1)]; exact h.fb _ _ e
  · by_cases ea : a = p
    · subst ea; rw [upd_same] at e ⊢; exact e
    · rw [upd_ne ea] at e ⊢; exact h.bb _ _ e
  · rw [upd_ne (fun e : a = p => h3 (e ▸ ha))]; exact h.al a ha
  · have ha : a ∈ as := List.mem_of_getElem? e1
    have ne : a ≠ p := fun e : a = p => h3 (e ▸ ha)
    obtain ⟨q1, q2, q3⟩ := h.own k a m e1 e2 hm
    exact ⟨q1, by rw [upd_ne ne]; exact q2, MoR.mono hg.1 (upd_ne ne) q3⟩
/-- a new thing that is owned -/
theorem Ow.newO (h : Ow K F B as M H) (hp : H p = none) {o : HO} {m : MO} (hm : MoR K B (upd H p o) p m) : Ow K F B (as ++ [p]) (M ++ [m]) (upd H p o) := by
  obtain ⟨h1, h2, h3⟩ := h.fresh hp
  refine ⟨fun a u e => ?_, fun a u e => ?_, by rw [List.length_append, List.length_append, h.len]; rfl, ?_, fun a ha => ?_, fun a ha => ?_, fun k a m' e1 e2 hm' => ?_⟩
  · rw [upd_ne (ne_of_none e h1)]; exact h.fb _ _ e
  · rw [upd_ne (ne_of_none e h2)]; exact h.bb _ _ e
  · refine List.nodup_append.mpr ⟨h.nd, by simp, fun a ha b hb => ?_⟩
    obtain rfl : b = p := by simpa using hb
    exact fun e => h3 (e ▸ ha)
  · rcases List.mem_append.mp ha with ha | ha
    · rw [upd_ne (fun e : a = p => h3 (e ▸ ha))]; exact h.al a ha
    · obtain rfl : a = p := by simpa using ha
      rw [upd_same]; exact fun z => nomatch z
  · rcases List.mem_append.mp ha with ha | ha
    · exact h.fa a ha
    · obtain rfl : a = p := by simpa using ha
      exact h1
  · by_cases hk : k < as.length
    · rw [List.getElem?_append_left hk] at e1
      rw [List.getElem?_append_left (by rw [← h.len]; exact hk)] at e2
      have ne : a ≠ p := fun e : a = p => h3 (e ▸ List.mem_of_getElem? e1)
      obtain ⟨q1, q2, q3⟩ := h.own k a m' e1 e2 hm'
      exact ⟨q1, q2, MoR.mono (Same.refl B) (upd_ne ne) q3⟩
    · have hl : k = as.length := by
        have := (List.getElem?_eq_some_iff.mp e1).1
        rw [List.length_append, List.length_singleton] at this
        omega
      subst hl
      rw [List.getElem?_append_right (Nat.le_refl _), Nat.sub_self] at e1
      rw [h.len, List.getElem?_append_right (Nat.le_refl _), Nat.sub_self] at e2
      obtain rfl : p = a := Option.some.inj e1
      obtain rfl : m = m' := Option.some.inj e2
      exact ⟨h1, h2, hm⟩
/-- what is owned changes -/
theorem Ow.put (h : Ow K F B as M H) {k : Nat} {a : Addr} {m m' : MO} {o : HO} (e1 : as[k]? = some a) (e2 : M[k]? = some m) (hm : m ≠ .gone) (hm' : MoR K B (upd H a o) a m') : Ow K F B as (M.set k m') (upd H a o) := by
  obtain ⟨f, b, _⟩ := h.own k a m e1 e2 hm
  refine ⟨fun c u e => ?_, fun c u e => ?_, by rw [List.length_set]; exact h.len, h.nd, fun c hc => ?_, h.fa, fun j c n q1 q2 hn => ?_⟩
  · rw [upd_ne (ne_of_none e f)]; exact h.fb _ _ e
  · rw [upd_ne (ne_of_none e b)]; exact h.bb _ _ e
  · by_cases z : c = a
    · rw [z, upd_same]; exact fun z => nomatch z
    · rw [upd_ne z]; exact h.al c hc
  · by_cases z : k = j
    · subst z
      rw [e1] at q1
      obtain rfl : a = c := Option.some.inj q1
      rw [List.getElem?_set_self (List.getElem?_eq_some_iff.mp e2).1] at q2
      obtain rfl : m' = n := Option.some.inj q2
      exact ⟨f, b, hm'⟩
    · rw [List.getElem?_set_ne z] at q2
      have ne : c ≠ a := fun e => by
        subst e
        exact z (by
          have h1 := (List.getElem?_eq_some_iff.mp e1)
          have h2 := (List.getElem?_eq_some_iff.mp q1)
          obtain ⟨l1, g1⟩ := h1
          obtain ⟨l2, g2⟩ := h2
          exact nodup_ix2 h.nd l1 l2 (g1.trans g2.symm))
      obtain ⟨r1, r2, r3⟩ := h.own j c n q1 q2 hn
      exact ⟨r1, r2, MoR.mono (Same.refl B) (upd_ne ne) r3⟩
/-- what is owned becomes data -/
theorem Ow.freeze (h : Ow K F B as M H) {k : Nat} {a : Addr} {xs : List Dt} (e1 : as[k]? = some a) (e2 : M[k]? = some (.lst xs)) : ∃ B', Gr F B B' ∧ Ow K F B' as (M.set k .gone) H ∧ Rp K B' (.lst xs) (.ref a) := by
  obtain ⟨f, b, vs, hv, hr⟩ := h.own k a _ e1 e2 (fun z => nomatch z)
  have sm : Same B (upd B a (.lst vs)) := fun c u e => by rw [upd_ne (ne_of_none e b)]; exact e
  refine ⟨upd B a (.lst vs), ⟨sm, fun c z n => ?_⟩, ⟨h.fb, fun c u e => ?_, by rw [List.length_set]; exact h.len, h.nd, h.al, h.fa, fun j c n q1 q2 hn => ?_⟩, ⟨a, vs, rfl, .inl (.inl upd_same), RpL.mono sm xs vs hr⟩⟩
  · rw [upd_ne (fun e => z.1 (by rw [e]; exact f))]; exact n
  · by_cases z : c = a
    · subst z; rw [upd_same] at e; rw [← e]; exact hv
    · rw [upd_ne z] at e; exact h.bb _ _ e
  · by_cases z : k = j
    · subst z
      rw [List.getElem?_set_self (List.getElem?_eq_some_iff.mp e2).1] at q2
      exact absurd (Option.some.inj q2).symm hn
    · rw [List.getElem?_set_ne z] at q2
      have ne : c ≠ a := fun e => by
        subst e
        obtain ⟨l1, g1⟩ := List.getElem?_eq_some_iff.mp e1
        obtain ⟨l2, g2⟩ := List.getElem?_eq_some_iff.mp q1
        exact z (nodup_ix2 h.nd l1 l2 (g1.trans g2.symm))
      obtain ⟨r1, r2, r3⟩ := h.own j c n q1 q2 hn
      exact ⟨r1, by rw [upd_ne ne]; exact r2, MoR.mono sm rfl r3⟩
theorem Ow.freezeO (h : Ow K F B as M H) {k : Nat} {a : Addr} {o : HO} (e1 : as[k]? = some a) (e2 : M[k]? = some (.hob o)) : Gr F B (upd B a o) ∧ Ow K F (upd B a o) as (M.set k .gone) H := by
  obtain ⟨f, b, hv, _⟩ := h.own k a _ e1 e2 (fun z => nomatch z)
  have hv : H a = some o := hv
  have sm : Same B (upd B a o) := fun c u e => by rw [upd_ne (ne_of_none e b)]; exact e
  refine ⟨⟨sm, fun c z n => ?_⟩, ⟨h.fb, fun c u e => ?_, by rw [List.length_set]; exact h.len, h.nd, h.al, h.fa, fun j c n q1 q2 hn => ?_⟩⟩
  · rw [upd_ne (fun e => z.1 (by rw [e]; exact f))]; exact n
  · by_cases z : c = a
    · subst z; rw [upd_same] at e; rw [← e]; exact hv
    · rw [upd_ne z] at e; exact h.bb _ _ e
  · by_cases z : k = j
    · subst z
      rw [List.getElem?_set_self (List.getElem?_eq_some_iff.mp e2).1] at q2
      exact absurd (Option.some.inj q2).symm hn
    · rw [List.getElem?_set_ne z] at q2
      have ne : c ≠ a := fun e => by
        subst e
        obtain ⟨l1, g1⟩ := List.getElem?_eq_some_iff.mp e1
        obtain ⟨l2, g2⟩ := List.getElem?_eq_some_iff.mp q1
        exact z (nodup_ix2 h.nd l1 l2 (g1.trans g2.symm))
      obtain ⟨r1, r2, r3⟩ := h.own j c n q1 q2 hn
      exact ⟨r1, by rw [upd_ne ne]; exact r2, MoR.mono sm rfl r3⟩
/-- the last ones are let go -/
theorem Ow.drop {as : List Addr} {M X : List MO} (h : Ow K F B as (M ++ X) H) : Ow K F B (as.take M.length) M H := by
  refine ⟨h.fb, h.bb, ?_, h.nd.sublist (List.take_sublist _ _), fun a ha => h.al a (List.mem_of_mem_take ha), fun a ha => h.fa a (List.mem_of_mem_take ha), fun k a m e1 e2 hm => ?_⟩
  · have := h.len
    rw [List.length_append] at this
    rw [List.length_take]
    omega
  · have hk : k < M.length := (List.getElem?_eq_some_iff.mp e2).1
    rw [List.getElem?_take_of_lt hk] at e1
    exact h.own k a m e1 (by rw [List.getElem?_append_left hk]; exact e2) hm
end
/-! ### what evaluates to what -/
section
variable (K : PySem.W.Frag)
def EvE (te : TE) (G : List (Option Sl)) (M : List MO) (r : Sl) (M' : List MO) : Prop :=
  ∀ F B as σ H, Ow K F B as M H → Slt K B as G σ → ∀ Q : VK, (∀ v B' as' H', Gr F B B' → Px as as' → Ow K F B' as' M' H' → SlR K B' as' r v → Q v H') → te σ H Q
def EvT (tt : TT) (G : List (Option Sl)) (M : List MO) (b : Bool) (M' : List MO) : Prop :=
  ∀ F B as σ H, Ow K F B as M H → Slt K B as G σ → ∀ Q : Bool → Hp → Prop, (∀ B' as' H', Gr F B B' → Px as as' → Ow K F B' as' M' H' → Q b H') → tt σ H Q
def EvA (ta : TA) (G : List (Option Sl)) (M : List MO) (rs : List Sl) (M' : List MO) : Prop :=
  ∀ F B as σ H, Ow K F B as M H → Slt K B as G σ → ∀ Q : List V → Hp → Prop, (∀ vs B' as' H', Gr F B B' → Px as as' → Ow K F B' as' M' H' → SlL K B' as' rs vs → Q vs H') → ta σ H Q
def EvO (to : TO) (G : List (Option Sl)) (M : List MO) (o : Option Int) (M' : List MO) : Prop :=
  ∀ F B as σ H, Ow K F B as M H → Slt K B as G σ → ∀ Q : Option Int → Hp → Prop, (∀ B' as' H', Gr F B B' → Px as as' → Ow K F B' as' M' H' → Q o H') → to σ H Q
/-- an operation on data -/
def RO (r : R2) (x y z : Dt) : Prop := ∀ F B as M H v u Q, Ow K F B as M H → Rp K B x v → Rp K B y u → (∀ w B' H', Gr F B B' → Ow K F B' as M H' → Rp K B' z w → Q w H') → r v u H Q
def RU (r : V → Hp → VK → Prop) (x z : Dt) : Prop := ∀ F B as M H v Q, Ow K F B as M H → Rp K B x v → (∀ w B' H', Gr F B B' → Ow K F B' as M H' → Rp K B' z w → Q w H') → r v H Q
def RC (r : List V → Hp → VK → Prop) (xs : List Dt) (z : Dt) : Prop := ∀ F B as M H vs Q, Ow K F B as M H → RpL K B xs vs → (∀ w B' H', Gr F B B' → Ow K F B' as M H' → Rp K B' z w → Q w H') → r vs H Q
def RM (r : V → List V → Hp → VK → Prop) (x : Dt) (xs : List Dt) (z : Dt) : Prop := ∀ F B as M H v vs Q, Ow K F B as M H → Rp K B x v → RpL K B xs vs → (∀ w B' H', Gr F B B' → Ow K F B' as M H' → Rp K B' z w → Q w H') → r v vs H Q
end
section
variable {K : PySem.W.Frag} {G : List (Option Sl)} {M M1 M2 M3 : List MO} {s : Sl} {ta tb te : TE} {t u : TT} {x y z : Dt} {r : R2} {b : Bool}
theorem ev_var {i : Nat} (h : G[i]? = some (some s)) : EvE K (tVar i) G M s M := fun F B as σ H o sl Q q => by
  obtain ⟨v, e, r⟩ := sl.2 i s h
  exact ⟨v, e, q v B as H (Gr.refl F B) (Px.refl as) o r⟩
theorem ev_c {v : V} (h : ∀ B, Rp K B x v) : EvE K (tC v) G M (.d x) M := fun F B as σ H o sl Q q => q v B as H (Gr.refl F B) (Px.refl as) o (h B)
theorem ev_int {i : Int} : EvE K (tC (.int i)) G M (.d (.int i)) M := ev_c fun _ => rfl
theorem ev_bl {i : Bool} : EvE K (tC (.bl i)) G M (.d (.bl i)) M := ev_c fun _ => rfl
theorem ev_non : EvE K (tC .non) G M (.d .non) M := ev_c fun _ => rfl
theorem ev_str {c : Str} (l : List Nat) (h : c = tx l := by rfl) : EvE K (tC (.str c)) G M (.d (.str l)) M := ev_c fun _ => by rw [h]; rfl
theorem ev_is {s' : Sl} (h : EvE K te G M s M1) (e : s = s') : EvE K te G M s' M1 := e ▸ h
theorem ev_isD (h : EvE K te G M (.d x) M1) (e : x = y) : EvE K te G M (.d y) M1 := e ▸ h
theorem ev_bind {te : TE} (ha : EvE K ta G M s M1) (hk : ∀ F B as σ H v, Ow K F B as M1 H → Slt K B as G σ → SlR K B as s v → ∀ Q : VK, (∀ w B' as' H', Gr F B B' → Px as as' → Ow K F B' as' M2 H' → SlR K B' as' (.d z) w → Q w H') → te σ H Q → te σ H Q) : True := trivial
theorem ev_op (ha : EvE K ta G M (.d x) M1) (hb : EvE K tb G M1 (.d y) M2) (hr : RO K r x y z) : EvE K (tOp r ta tb) G M (.d z) M2 := fun F B as σ H o sl Q q =>
  ha F B as σ H o sl _ fun v B1 as1 H1 g1 p1 o1 r1 => hb F B1 as1 σ H1 o1 (sl.mono g1.1 p1) _ fun w B2 as2 H2 g2 p2 o2 r2 =>
    hr F B2 as2 M2 H2 v w Q o2 (Rp.mono g2.1 _ _ r1) r2 fun w' B3 H3 g3 o3 r3 => q w' B3 as2 H3 (g1.trans (g2.trans g3)) (p1.trans p2) o3 r3
theorem ev_un {r : V → Hp → VK → Prop} (ha : EvE K ta G M (.d x) M1) (hr : RU K r x z) : EvE K (tUn r ta) G M (.d z) M1 := fun F B as σ H o sl Q q =>
  ha F B as σ H o sl _ fun v B1 as1 H1 g1 p1 o1 r1 => hr F B1 as1 M1 H1 v Q o1 r1 fun w' B3 H3 g3 o3 r3 => q w' B3 as1 H3 (g1.trans g3) p1 o3 r3
theorem ea_nil : EvA K tNil G M [] M := fun F B as σ H o sl Q q => q [] B as H (Gr.refl F B) (Px.refl as) o rfl
theorem ea_cons {tr : TA} {rs : List Sl} (ha : EvE K ta G M s M1) (hr : EvA K tr G M1 rs M2) : EvA K (tCons ta tr) G M (s :: rs) M2 := fun F B as σ H o sl Q q =>
  ha F B as σ H o sl _ fun v B1 as1 H1 g1 p1 o1 r1 => hr F B1 as1 σ H1 o1 (sl.mono g1.1 p1) _ fun vs B2 as2 H2 g2 p2 o2 r2 =>
    q (v :: vs) B2 as2 H2 (g1.trans g2) (p1.trans p2) o2 ⟨v, vs, rfl, SlR.mono g2.1 p2 r1, r2⟩
theorem ev_cb {r : List V → Hp → VK → Prop} {tr : TA} {xs : List Dt} (ha : EvA K tr G M (xs.map Sl.d) M1) (hr : RC K r xs z) : EvE K (tCB r tr) G M (.d z) M1 := fun F B as σ H o sl Q q =>
  ha F B as σ H o sl _ fun vs B1 as1 H1 g1 p1 o1 r1 => hr F B1 as1 M1 H1 vs Q o1 (SlL.data r1) fun w' B3 H3 g3 o3 r3 => q w' B3 as1 H3 (g1.trans g3) p1 o3 r3
theorem et_test (h : EvE K te G M (.d (.bl b)) M1) : EvT K (tTest te) G M b M1 := fun F B as σ H o sl Q q => h F B as σ H o sl _ fun v B1 as1 H1 g1 p1 o1 r1 => ⟨b, r1, q B1 as1 H1 g1 p1 o1⟩
theorem et_B (h : EvE K te G M (.d (.bl b)) M1) : EvT K (tB te) G M b M1 := fun F B as σ H o sl Q q => h F B as σ H o sl _ fun v B1 as1 H1 g1 p1 o1 r1 => ⟨b, r1, q B1 as1 H1 g1 p1 o1⟩
theorem et_and {c : Bool} (h1 : EvT K t G M b M1) (h2 : b = true → EvT K u G M1 c M2) (h3 : b = false → M1 = M2) : EvT K (tAnd t u) G M (b && c) M2 := fun F B as σ H o sl Q q => h1 F B as σ H o sl _ fun B1 as1 H1 g1 p1 o1 => by
  cases b with
  | true => exact h2 rfl F B1 as1 σ H1 o1 (sl.mono g1.1 p1) _ fun B2 as2 H2 g2 p2 o2 => q B2 as2 H2 (g1.trans g2) (p1.trans p2) o2
  | false => exact q B1 as1 H1 g1 p1 (h3 rfl ▸ o1)
theorem et_or {c : Bool} (h1 : EvT K t G M b M1) (h2 : b = false → EvT K u G M1 c M2) (h3 : b = true → M1 = M2) : EvT K (tOr t u) G M (b || c) M2 := fun F B as σ H o sl Q q => h1 F B as σ H o sl _ fun B1 as1 H1 g1 p1 o1 => by
  cases b with
  | false => exact h2 rfl F B1 as1 σ H1 o1 (sl.mono g1.1 p1) _ fun B2 as2 H2 g2 p2 o2 => q B2 as2 H2 (g1.trans g2) (p1.trans p2) o2
  | true => exact q B1 as1 H1 g1 p1 (h3 rfl ▸ o1)
theorem et_not (h1 : EvT K t G M b M1) : EvT K (tNot t) G M (!b) M1 := fun F B as σ H o sl Q q => h1 F B as σ H o sl _ q
theorem et_is {c : Bool} (h : EvT K t G M b M1) (e : b = c) : EvT K t G M c M1 := e ▸ h
theorem ev_andV {a c : Bool} (h1 : EvE K ta G M (.d (.bl a)) M1) (h2 : a = true → EvE K tb G M1 (.d (.bl c)) M2) (h3 : a = false → M1 = M2) : EvE K (tAndV ta tb) G M (.d (.bl (a && c))) M2 := fun F B as σ H o sl Q q =>
  h1 F B as σ H o sl _ fun v B1 as1 H1 g1 p1 o1 r1 => ⟨a, r1, by
    cases a with
    | true => exact h2 rfl F B1 as1 σ H1 o1 (sl.mono g1.1 p1) _ fun w B2 as2 H2 g2 p2 o2 r2 => q w B2 as2 H2 (g1.trans g2) (p1.trans p2) o2 r2
    | false => exact q (.bl false) B1 as1 H1 g1 p1 (h3 rfl ▸ o1) rfl⟩
theorem ev_orV {a c : Bool} (h1 : EvE K ta G M (.d (.bl a)) M1) (h2 : a = false → EvE K tb G M1 (.d (.bl c)) M2) (h3 : a = true → M1 = M2) : EvE K (tOrV ta tb) G M (.d (.bl (a || c))) M2 := fun F B as σ H o sl Q q =>
  h1 F B as σ H o sl _ fun v B1 as1 H1 g1 p1 o1 r1 => ⟨a, r1, by
    cases a with
    | false => exact h2 rfl F B1 as1 σ H1 o1 (sl.mono g1.1 p1) _ fun w B2 as2 H2 g2 p2 o2 r2 => q w B2 as2 H2 (g1.trans g2) (p1.trans p2) o2 r2
    | true => exact q (.bl true) B1 as1 H1 g1 p1 (h3 rfl ▸ o1) rfl⟩
theorem ev_notV {a : Bool} (h1 : EvE K ta G M (.d (.bl a)) M1) : EvE K (tNotV ta) G M (.d (.bl (!a))) M1 := fun F B as σ H o sl Q q =>
  h1 F B as σ H o sl _ fun v B1 as1 H1 g1 p1 o1 r1 => ⟨a, r1, q _ B1 as1 H1 g1 p1 o1 rfl⟩
theorem ev_if (h : EvT K t G M b M1) (h1 : b = true → EvE K ta G M1 s M2) (h2 : b = false → EvE K tb G M1 s M2) : EvE K (tIf t ta tb) G M s M2 := fun F B as σ H o sl Q q => h F B as σ H o sl _ fun B1 as1 H1 g1 p1 o1 => by
  cases b with
  | true => exact h1 rfl F B1 as1 σ H1 o1 (sl.mono g1.1 p1) _ fun w B2 as2 H2 g2 p2 o2 r2 => q w B2 as2 H2 (g1.trans g2) (p1.trans p2) o2 r2
  | false => exact h2 rfl F B1 as1 σ H1 o1 (sl.mono g1.1 p1) _ fun w B2 as2 H2 g2 p2 o2 r2 => q w B2 as2 H2 (g1.trans g2) (p1.trans p2) o2 r2
/-- a written list, a written tuple: data -/
theorem ev_tup {tr : TA} {xs : List Dt} (ha : EvA K tr G M (xs.map Sl.d) M1) (hl : xs.length ≤ 1000) : EvE K (tTup tr) G M (.d (.tup xs)) M1 := fun F B as σ H o sl Q q =>
  ha F B as σ H o sl _ fun vs B1 as1 H1 g1 p1 o1 r1 => ⟨by rw [r1.len, List.length_map]; exact Nat.le_trans hl (by decide), fun p hp => by
    have g2 := o1.gr hp (.tup vs)
    exact q _ _ as1 _ (g1.trans g2) p1 (o1.new hp _) ⟨p, vs, rfl, .inl (.inl upd_same), RpL.mono g2.1 _ _ (SlL.data r1)⟩⟩
theorem ev_lst {tr : TA} {xs : List Dt} (ha : EvA K tr G M (xs.map Sl.d) M1) (hl : xs.length ≤ 1000) : EvE K (tLst tr) G M (.d (.lst xs)) M1 := fun F B as σ H o sl Q q =>
  ha F B as σ H o sl _ fun vs B1 as1 H1 g1 p1 o1 r1 => ⟨by rw [r1.len, List.length_map]; exact Nat.le_trans hl (by decide), fun p hp => by
    have g2 := o1.gr hp (.lst vs)
    exact q _ _ as1 _ (g1.trans g2) p1 (o1.new hp _) ⟨p, vs, rfl, .inl (.inl upd_same), RpL.mono g2.1 _ _ (SlL.data r1)⟩⟩
/-- a written list that will change -/
theorem ev_lstO {tr : TA} {xs : List Dt} (ha : EvA K tr G M (xs.map Sl.d) M1) (hl : xs.length ≤ 1000) : EvE K (tLst tr) G M (.o M1.length) (M1 ++ [.lst xs]) := fun F B as σ H o sl Q q =>
  ha F B as σ H o sl _ fun vs B1 as1 H1 g1 p1 o1 r1 => ⟨by rw [r1.len, List.length_map]; exact Nat.le_trans hl (by decide), fun p hp => by
    refine q _ B1 (as1 ++ [p]) _ g1 (p1.trans ⟨[p], rfl⟩) (o1.newO hp ⟨vs, upd_same, SlL.data r1⟩) ⟨p, ?_, rfl⟩
    rw [← o1.len, List.getElem?_append_right (Nat.le_refl _), Nat.sub_self]
    rfl⟩
end
end DJ
namespace DJ
open PySem PySem.Spec PyProof.Rows L2
/-! ### statements -/
inductive Out where
  | nx (G : List (Option Sl)) (M : List MO) | rt (r : Sl) (M : List MO) | bk (G : List (Option Sl)) (M : List MO) | ct (G : List (Option Sl)) (M : List MO)
def Gd (K : PySem.W.Frag) (F B : Hp) (as : List Addr) (D : Ends) : Out → Prop
  | .nx G M => ∀ B' as' σ' H', Gr F B B' → Px as as' → Ow K F B' as' M H' → Slt K B' as' G σ' → D.nx σ' H'
  | .rt r M => ∀ v B' as' H', Gr F B B' → Px as as' → Ow K F B' as' M H' → SlR K B' as' r v → D.rt v H'
  | .bk G M => ∀ B' as' σ' H', Gr F B B' → Px as as' → Ow K F B' as' M H' → Slt K B' as' G σ' → D.bk σ' H'
  | .ct G M => ∀ B' as' σ' H', Gr F B B' → Px as as' → Ow K F B' as' M H' → Slt K B' as' G σ' → D.ct σ' H'
def EvS (K : PySem.W.Frag) (ts : TS) (G : List (Option Sl)) (M : List MO) (o : Out) : Prop :=
  ∀ F B as σ H, Ow K F B as M H → Slt K B as G σ → ∀ D : Ends, Gd K F B as D o → ts D σ H
section
variable {K : PySem.W.Frag} {F B B1 : Hp} {as as1 : List Addr} {D : Ends} {o : Out} {G G1 G2 G' : List (Option Sl)} {M M1 M2 M' : List MO} {t u : TS} {te ta tb to ti : TE} {s : Sl} {b : Bool} {tt : TT} {x y z : Dt}
theorem Gd.later (g : Gr F B B1) (p : Px as as1) (h : Gd K F B as D o) : Gd K F B1 as1 D o := by
  cases o with
  | nx G M => exact fun B' as' σ' H' g' p' => h B' as' σ' H' (g.trans g') (p.trans p')
  | rt r M => exact fun v B' as' H' g' p' => h v B' as' H' (g.trans g') (p.trans p')
  | bk G M => exact fun B' as' σ' H' g' p' => h B' as' σ' H' (g.trans g') (p.trans p')
  | ct G M => exact fun B' as' σ' H' g' p' => h B' as' σ' H' (g.trans g') (p.trans p')
theorem es_seq (h1 : EvS K t G M (.nx G1 M1)) (h2 : EvS K u G1 M1 o) : EvS K (tSeq t u) G M o := fun F B as σ H ow sl D gd =>
  h1 F B as σ H ow sl { D with nx := u D } fun B' as' σ' H' g p o' s' => h2 F B' as' σ' H' o' s' D (gd.later g p)
theorem es_seqR {r : Sl} (h1 : EvS K t G M (.rt r M1)) : EvS K (tSeq t u) G M (.rt r M1) := fun F B as σ H ow sl D gd => h1 F B as σ H ow sl { D with nx := u D } gd
theorem es_seqB (h1 : EvS K t G M (.bk G1 M1)) : EvS K (tSeq t u) G M (.bk G1 M1) := fun F B as σ H ow sl D gd => h1 F B as σ H ow sl { D with nx := u D } gd
theorem es_seqC (h1 : EvS K t G M (.ct G1 M1)) : EvS K (tSeq t u) G M (.ct G1 M1) := fun F B as σ H ow sl D gd => h1 F B as σ H ow sl { D with nx := u D } gd
theorem es_next : EvS K tNext G M (.nx G M) := fun F B as σ H ow sl D gd => gd B as σ H (Gr.refl F B) (Px.refl as) ow sl
theorem es_brk : EvS K tBreak G M (.bk G M) := fun F B as σ H ow sl D gd => gd B as σ H (Gr.refl F B) (Px.refl as) ow sl
theorem es_cont : EvS K tCont G M (.ct G M) := fun F B as σ H ow sl D gd => gd B as σ H (Gr.refl F B) (Px.refl as) ow sl
theorem es_asg {i : Nat} (h : EvE K te G M s M1) : EvS K (tAsg te (gName i)) G M (.nx (G.set i (some s)) M1) := fun F B as σ H ow sl D gd =>
  h F B as σ H ow sl _ fun v B' as' H' g p o' r => gd B' as' _ H' g p o' ((sl.mono g.1 p).set i r)
theorem es_drop (h : EvE K te G M s M1) : EvS K (tDrop te) G M (.nx G M1) := fun F B as σ H ow sl D gd =>
  h F B as σ H ow sl _ fun v B' as' H' g p o' r => gd B' as' _ H' g p o' (sl.mono g.1 p)
theorem es_ret (h : EvE K te G M s M1) : EvS K (tRet te) G M (.rt s M1) := fun F B as σ H ow sl D gd =>
  h F B as σ H ow sl _ fun v B' as' H' g p o' r => gd v B' as' H' g p o' r
theorem es_retN : EvS K tRetN G M (.rt (.d .non) M) := fun F B as σ H ow sl D gd => gd .non B as H (Gr.refl F B) (Px.refl as) ow rfl
theorem es_if (h : EvT K tt G M b M1) (h1 : b = true → EvS K t G M1 o) (h2 : b = false → EvS K u G M1 o) : EvS K (tIfS tt t u) G M o := fun F B as σ H ow sl D gd =>
  h F B as σ H ow sl _ fun B' as' H' g p o' => by
    cases b with
    | true => exact h1 rfl F B' as' σ H' o' (sl.mono g.1 p) D (gd.later g p)
    | false => exact h2 rfl F B' as' σ H' o' (sl.mono g.1 p) D (gd.later g p)
/-- fewer slots known -/
def Lg (G G' : List (Option Sl)) : Prop := G.length = G'.length ∧ ∀ (i : Nat) (s : Sl), G'[i]? = some (some s) → G[i]? = some (some s)
theorem Lg.refl (G : List (Option Sl)) : Lg G G := ⟨rfl, fun _ _ h => h⟩
theorem Slt.weak {σ : L2.St} (h : Slt K B as G σ) (l : Lg G G') : Slt K B as G' σ := ⟨h.1.trans l.1, fun i s q => h.2 i s (l.2 i s q)⟩
theorem es_pre (l : Lg G G') (h : EvS K t G' M o) : EvS K t G M o := fun F B as σ H ow sl D gd => h F B as σ H ow (sl.weak l) D gd
theorem es_nxw (h : EvS K t G M (.nx G1 M1)) (l : Lg G1 G2) : EvS K t G M (.nx G2 M1) := fun F B as σ H ow sl D gd => h F B as σ H ow sl D fun B' as' σ' H' g p o' s' => gd B' as' σ' H' g p o' (s'.weak l)
theorem lg_cons {a c : Option Sl} (h : Lg G G') (e : c = a ∨ c = none) : Lg (a :: G) (c :: G') := by
  refine ⟨by rw [List.length_cons, List.length_cons, h.1], fun i s q => ?_⟩
  cases i with
  | zero =>
    rcases e with e | e
    · rw [e] at q; exact q
    · rw [e] at q; cases q
  | succ i => exact h.2 i s q
theorem lg_nil : Lg [] [] := Lg.refl _
/-- a changing list becomes data -/
def frz (k : Nat) (xs : List Dt) : Option Sl → Option Sl
  | some (.o j) => if j = k then some (.d (.lst xs)) else some (.o j)
  | s => s
theorem es_freeze {k : Nat} {xs : List Dt} (hm : M[k]? = some (.lst xs)) (h : EvS K t (G.map (frz k xs)) (M.set k .gone) o) : EvS K t G M o := fun F B as σ H ow sl D gd => by
  have hk : k < as.length := by rw [ow.len]; exact (List.getElem?_eq_some_iff.mp hm).1
  obtain ⟨B', g, ow', rp⟩ := ow.freeze (List.getElem?_eq_getElem hk) hm
  refine h F B' as σ H ow' ⟨by rw [List.length_map]; exact sl.1, fun i s q => ?_⟩ D (gd.later g (Px.refl as))
  rw [List.getElem?_map] at q
  cases e : G[i]? with
  | none => rw [e] at q; cases q
  | some c =>
    rw [e] at q
    have q : frz k xs c = some s := Option.some.inj q
    cases c with
    | none => cases q
    | some c =>
      obtain ⟨v, hv, hr⟩ := sl.2 i c e
      refine ⟨v, hv, ?_⟩
      cases c with
      | d x =>
        cases q
        exact Rp.mono g.1 x v hr
      | o j =>
        unfold frz at q
        by_cases hj : j = k
        · simp only [if_pos hj] at q
          cases q
          subst hj
          obtain ⟨a, ha, rfl⟩ := hr
          rw [List.getElem?_eq_getElem hk] at ha
          cases ha
          exact rp
        · simp only [if_neg hj] at q
          cases q
          exact SlR.mono g.1 (Px.refl as) (s := .o j) hr
/-- what is returned is data by then -/
theorem ev_freeze {k : Nat} {xs : List Dt} (h : EvE K te G M (.o k) M1) (hm : M1[k]? = some (.lst xs)) : EvE K te G M (.d (.lst xs)) (M1.set k .gone) := fun F B as σ H ow sl Q q =>
  h F B as σ H ow sl _ fun v B1 as1 H1 g p o1 r => by
    obtain ⟨a, ha, rfl⟩ := r
    obtain ⟨B', g', ow', rp⟩ := o1.freeze ha hm
    exact q _ B' as1 H1 (g.trans g') p ow' rp
/-! ### targets -/
def EvG (K : PySem.W.Frag) (g : TG) (G : List (Option Sl)) (x : Sl) (G' : List (Option Sl)) : Prop :=
  ∀ F B as M σ H v, Ow K F B as M H → Slt K B as G σ → SlR K B as x v → ∀ Q : L2.St → Hp → Prop, (∀ B' as' σ' H', Gr F B B' → Px as as' → Ow K F B' as' M H' → Slt K B' as' G' σ' → Q σ' H') → g v σ H Q
theorem eg_name {i : Nat} : EvG K (gName i) G s (G.set i (some s)) := fun F B as M σ H v ow sl r Q q => q B as _ H (Gr.refl F B) (Px.refl as) ow (sl.set i r)
def EvGs (K : PySem.W.Frag) (g : TGs) (G : List (Option Sl)) (xs : List Dt) (G' : List (Option Sl)) : Prop :=
  ∀ F B as M σ H vs, Ow K F B as M H → Slt K B as G σ → RpL K B xs vs → ∀ Q : L2.St → Hp → Prop, (∀ B' as' σ' H', Gr F B B' → Px as as' → Ow K F B' as' M H' → Slt K B' as' G' σ' → Q σ' H') → g vs σ H Q
theorem egs_nil : EvGs K gNil G [] G := fun F B as M σ H vs ow sl r Q q => ⟨r, q B as _ H (Gr.refl F B) (Px.refl as) ow sl⟩
theorem egs_cons {t : TG} {u : TGs} {xs : List Dt} (h1 : EvG K t G (.d x) G1) (h2 : EvGs K u G1 xs G2) : EvGs K (gCons t u) G (x :: xs) G2 := fun F B as M σ H vs ow sl r Q q => by
  obtain ⟨v, r', e, r1, r2⟩ := r
  exact ⟨v, r', e, h1 F B as M σ H v ow sl r1 _ fun B1 as1 σ1 H1 g1 p1 o1 s1 => h2 F B1 as1 M σ1 H1 r' o1 s1 (RpL.mono g1.1 _ _ r2) _ fun B2 as2 σ2 H2 g2 p2 o2 s2 => q B2 as2 σ2 H2 (g1.trans g2) (p1.trans p2) o2 s2⟩
theorem eg_tup {t : TGs} {xs : List Dt} {n : Nat} (h : EvGs K t G xs G1) (hn : xs.length = n) : EvG K (gTup K n t) G (.d (.tup xs)) G1 := fun F B as M σ H v ow sl r Q q => by
  obtain ⟨a, vs, e, h1, h2⟩ := r
  exact ⟨a, vs, e, same_t ow.bb h1, h2.len.trans hn, h F B as M σ H vs ow sl h2 Q q⟩
theorem es_asgG {g : TG} (h : EvE K te G M s M1) (hg : EvG K g G s G1) : EvS K (tAsg te g) G M (.nx G1 M1) := fun F B as σ H ow sl D gd =>
  h F B as σ H ow sl _ fun v B' as' H' g p o' r => hg F B' as' M1 σ H' v o' (sl.mono g.1 p) r _ fun B2 as2 σ2 H2 g2 p2 o2 s2 => gd B2 as2 σ2 H2 (g.trans g2) (p.trans p2) o2 s2
theorem es_par {i j : Nat} {t : TA} {x y : Sl} (h : EvA K t G M [x, y] M1) : EvS K (tPar i j t) G M (.nx ((G.set i (some x)).set j (some y)) M1) := fun F B as σ H ow sl D gd =>
  h F B as σ H ow sl _ fun vs B' as' H' g p o' r => by
    obtain ⟨v, r1, e1, h1, w, r2, e2, h2, e3⟩ := r
    have e3 : r2 = [] := e3
    subst e3; subst e2; subst e1
    exact ⟨v, w, rfl, gd B' as' _ H' g p o' (((sl.mono g.1 p).set i h1).set j h2)⟩
/-! ### what is walked -/
def Yl (K : PySem.W.Frag) (B0 : Hp) (J : It) (xs : List Dt) : Prop :=
  ∀ F B as M H (i : Nat), Same B0 B → Ow K F B as M H → (∀ x, xs[i]? = some x → J.go i H ∧ ∀ v H', J.yld i H v H' → ∃ B', Gr F B B' ∧ Ow K F B' as M H' ∧ Rp K B' x v) ∧ (xs.length ≤ i → J.stop i H)
def EvI (K : PySem.W.Frag) (wi : TI) (G : List (Option Sl)) (M : List MO) (xs : List Dt) (M' : List MO) : Prop :=
  ∀ F B as σ H, Ow K F B as M H → Slt K B as G σ → ∀ R : It → Hp → Prop, (∀ J B' as' H', Gr F B B' → Px as as' → Ow K F B' as' M' H' → Yl K B' J xs → R J H') → wi σ H R
theorem yl_list {a : Addr} {vs : List V} {xs : List Dt} (h : SqL K B a vs) (r : RpL K B xs vs) : Yl K B (Itl K a) xs := fun F B' as M H i e ow => by
  have h1 : SqL K H a vs := ow.bb.seq (e.seq h)
  refine ⟨fun x hx => ?_, fun hi => ⟨vs, h1, by rw [r.len]; exact hi⟩⟩
  obtain ⟨v, hv, hr⟩ := r.get hx
  refine ⟨⟨vs, v, h1, hv⟩, fun w H' y => ?_⟩
  obtain ⟨rfl, y⟩ := y
  have e2 : v = w := Option.some.inj (hv.symm.trans (y vs h1))
  exact ⟨B', Gr.refl F B', ow, e2 ▸ Rp.mono e _ _ hr⟩
theorem yl_tup {a : Addr} {vs : List V} {xs : List Dt} (h : SqT K B a vs) (r : RpL K B xs vs) : Yl K B (Itt K a) xs := fun F B' as M H i e ow => by
  have h1 : SqT K H a vs := same_t ow.bb (same_t e h)
  refine ⟨fun x hx => ?_, fun hi => ⟨vs, h1, by rw [r.len]; exact hi⟩⟩
  obtain ⟨v, hv, hr⟩ := r.get hx
  refine ⟨⟨vs, v, h1, hv⟩, fun w H' y => ?_⟩
  obtain ⟨rfl, y⟩ := y
  have e2 : v = w := Option.some.inj (hv.symm.trans (y vs h1))
  exact ⟨B', Gr.refl F B', ow, e2 ▸ Rp.mono e _ _ hr⟩
theorem yl_str {l : List Nat} : Yl K B (Its (tx l)) (l.map fun c => .str [c]) := fun F B' as M H i e ow => by
  refine ⟨fun x hx => ?_, fun hi => ?_⟩
  · rw [List.getElem?_map] at hx
    cases hc : l[i]? with
    | none => rw [hc] at hx; cases hx
    | some c =>
      rw [hc] at hx
      have hx : Dt.str [c] = x := Option.some.inj hx
      subst hx
      refine ⟨?_, fun v H' y => ?_⟩
      · show i < l.toArray.size
        rw [List.size_toArray]
        exact (List.getElem?_eq_some_iff.mp hc).1
      · obtain ⟨rfl, c', h1, rfl⟩ := y
        refine ⟨B', Gr.refl F B', ow, ?_⟩
        have h2 : l[i]? = some c' := by
          rw [show (tx l).cps = l.toArray from rfl, List.getElem?_toArray] at h1
          exact h1
        rw [hc] at h2
        cases h2
        rfl
  · show l.toArray.size ≤ i
    rw [List.size_toArray]
    rw [List.length_map] at hi
    exact hi
theorem yl_rng {lo : Int} {n : Nat} : Yl K B (Itr lo n) ((List.range n).map fun (i : Nat) => .int (lo + i)) := fun F B' as M H i e ow => by
  refine ⟨fun x hx => ?_, fun hi => ?_⟩
  · rw [List.getElem?_map] at hx
    by_cases hi : i < n
    · rw [List.getElem?_range hi] at hx
      have hx : Dt.int (lo + i) = x := Option.some.inj hx
      subst hx
      refine ⟨hi, fun v H' y => ?_⟩
      obtain ⟨rfl, rfl⟩ := y
      exact ⟨B', Gr.refl F B', ow, rfl⟩
    · rw [List.getElem?_eq_none (by rw [List.length_range]; omega)] at hx
      cases hx
  · rw [List.length_map, List.length_range] at hi
    exact hi
/-- the pairs of a walk with numbers -/
def enumD (n : Nat) : List Dt → List Dt
  | [] => []
  | x :: xs => .tup [.int (n : Nat), x] :: enumD (n + 1) xs
theorem enumD_get : ∀ (xs : List Dt) (n i : Nat), (enumD n xs)[i]? = (xs[i]?).map fun x => .tup [.int ((n + i : Nat) : Nat), x]
  | [], n, i => by simp [enumD]
  | x :: xs, n, 0 => by simp [enumD]
  | x :: xs, n, i + 1 => by
    rw [enumD, List.getElem?_cons_succ, List.getElem?_cons_succ, enumD_get xs (n + 1) i, Nat.add_right_comm]
    rfl
theorem enumD_len : ∀ (xs : List Dt) (n : Nat), (enumD n xs).length = xs.length
  | [], _ => rfl
  | x :: xs, n => by rw [enumD, List.length_cons, List.length_cons, enumD_len]
theorem yl_enum {a : Addr} {vs : List V} {xs : List Dt} (h : SqL K B a vs) (r : RpL K B xs vs) : Yl K B (Ite K a) (enumD 0 xs) := fun F B' as M H i e ow => by
  have h1 : SqL K H a vs := ow.bb.seq (e.seq h)
  refine ⟨fun x hx => ?_, fun hi => ⟨vs, h1, by rw [r.len]; rw [enumD_len] at hi; exact hi⟩⟩
  rw [enumD_get] at hx
  cases hy : xs[i]? with
  | none => rw [hy] at hx; cases hx
  | some y =>
    rw [hy] at hx
    have hx : Dt.tup [.int ((0 + i : Nat) : Nat), y] = x := Option.some.inj hx
    subst hx
    obtain ⟨v, hv, hr⟩ := r.get hy
    refine ⟨⟨vs, v, h1, hv⟩, fun w H' yl => ?_⟩
    obtain ⟨T, u, rfl, hT, rfl, hu⟩ := yl
    have e2 : v = u := Option.some.inj (hv.symm.trans (hu vs h1))
    subst e2
    have hg := ow.gr hT (.tup [.int (i : Nat), v])
    refine ⟨_, hg, ow.new hT _, T, _, rfl, .inl (.inl upd_same), _, _, rfl, ?_, _, _, rfl, Rp.mono (e.trans hg.1) _ _ hr, rfl⟩
    rw [Nat.zero_add]
    rfl
theorem ei_list {xs : List Dt} (h : EvE K te G M (.d (.lst xs)) M1) : EvI K (iList K te) G M xs M1 := fun F B as σ H ow sl R q =>
  h F B as σ H ow sl _ fun v B' as' H' g p o' r => by
    obtain ⟨a, vs, e, h1, h2⟩ := r
    exact ⟨a, e, ⟨vs, o'.bb.seq h1⟩, q _ B' as' H' g p o' (yl_list h1 h2)⟩
theorem ei_tup {xs : List Dt} (h : EvE K te G M (.d (.tup xs)) M1) : EvI K (iTup K te) G M xs M1 := fun F B as σ H ow sl R q =>
  h F B as σ H ow sl _ fun v B' as' H' g p o' r => by
    obtain ⟨a, vs, e, h1, h2⟩ := r
    exact ⟨a, e, ⟨vs, same_t o'.bb h1⟩, q _ B' as' H' g p o' (yl_tup h1 h2)⟩
theorem ei_str {l : List Nat} (h : EvE K te G M (.d (.str l)) M1) : EvI K (iStr te) G M (l.map fun c => .str [c]) M1 := fun F B as σ H ow sl R q =>
  h F B as σ H ow sl _ fun v B' as' H' g p o' r => ⟨tx l, r, q _ B' as' H' g p o' yl_str⟩
theorem ei_rng1 {ta : TA} {n : Int} (h : EvA K ta G M [.d (.int n)] M1) (hn : -(2 ^ 62) ≤ n ∧ n < 2 ^ 62) : EvI K (iRng1 ta) G M ((List.range n.toNat).map fun (i : Nat) => .int (0 + i)) M1 := fun F B as σ H ow sl R q =>
  h F B as σ H ow sl _ fun vs B' as' H' g p o' r => by
    obtain ⟨v, r1, e1, h1, e2⟩ := r
    have e2 : r1 = [] := e2
    subst e2; subst e1
    have h1 : v = V.int n := h1
    subst h1
    exact ⟨n, rfl, hn.1, hn.2, q _ B' as' H' g p o' yl_rng⟩
theorem ei_rng2 {ta : TA} {m n : Int} (h : EvA K ta G M [.d (.int m), .d (.int n)] M1) (hn : (-(2 ^ 62) ≤ m ∧ m < 2 ^ 62) ∧ -(2 ^ 62) ≤ n ∧ n < 2 ^ 62) : EvI K (iRng2 ta) G M ((List.range (n - m).toNat).map fun (i : Nat) => .int (m + i)) M1 := fun F B as σ H ow sl R q =>
  h F B as σ H ow sl _ fun vs B' as' H' g p o' r => by
    obtain ⟨v, r1, e1, h1, w, r2, e2, h2, e3⟩ := r
    have e3 : r2 = [] := e3
    subst e3; subst e2; subst e1
    have h1 : v = V.int m := h1
    have h2 : w = V.int n := h2
    subst h1; subst h2
    exact ⟨m, n, rfl, ⟨hn.1.1, hn.1.2, hn.2.1, hn.2.2⟩, q _ B' as' H' g p o' yl_rng⟩
theorem ei_enum {ta : TA} {xs : List Dt} (h : EvA K ta G M [.d (.lst xs)] M1) : EvI K (iEnum K ta) G M (enumD 0 xs) M1 := fun F B as σ H ow sl R q =>
  h F B as σ H ow sl _ fun vs B' as' H' g p o' r => by
    obtain ⟨v, r1, e1, h1, e2⟩ := r
    have e2 : r1 = [] := e2
    subst e2; subst e1
    obtain ⟨a, us, e, q1, q2⟩ := h1
    subst e
    exact ⟨a, us, rfl, o'.bb.seq q1, q _ B' as' H' g p o' (yl_enum q1 q2)⟩
/-! ### for -/
def loopF {α β : Type} (step : α → β → α ⊕ Out) : List β → α → α ⊕ Out
  | [], a => .inl a
  | x :: xs, a => match step a x with
    | .inl a' => loopF step xs a'
    | .inr o => .inr o
theorem loopF_take {α β : Type} (step : α → β → α ⊕ Out) : ∀ (xs : List β) (i : Nat) (a0 a : α) (x : β), xs[i]? = some x → loopF step (xs.take i) a0 = .inl a →
    loopF step (xs.take (i + 1)) a0 = step a x ∧ (∀ o, step a x = .inr o → loopF step xs a0 = .inr o)
  | [], i, a0, a, x, h, _ => by simp at h
  | y :: ys, 0, a0, a, x, h, h2 => by
    have e1 : y = x := by simpa using h
    have e2 : a0 = a := by simpa [loopF] using h2
    subst e1; subst e2
    refine ⟨?_, fun o ho => ?_⟩
    · simp only [List.take_succ_cons, List.take_zero, loopF]
      cases step a0 y <;> rfl
    · simp only [loopF, ho]
  | y :: ys, i + 1, a0, a, x, h, h2 => by
    simp only [List.take_succ_cons, loopF] at h2 ⊢
    cases e : step a0 y with
    | inr o => rw [e] at h2; cases h2
    | inl a1 =>
      rw [e] at h2
      exact loopF_take step ys i a1 a x (by simpa using h) h2
def outF {α : Type} (enc : α → List (Option Sl)) (encM : α → List MO) : α ⊕ Out → Out
  | .inl a => .nx (enc a) (encM a)
  | .inr o => o
/-- a turn's end: on, or out -/
def Turns (K : PySem.W.Frag) {α : Type} (enc : α → List (Option Sl)) (encM : α → List MO) (tb : TS) (G : List (Option Sl)) (M : List MO) : α ⊕ Out → Prop
  | .inl a => EvS K tb G M (.nx (enc a) (encM a)) ∨ EvS K tb G M (.ct (enc a) (encM a))
  | .inr (.nx G' M') => EvS K tb G M (.bk G' M')
  | .inr (.rt r M') => EvS K tb G M (.rt r M')
  | .inr (.bk _ _) => False
  | .inr (.ct _ _) => False
theorem es_for {α β : Type} {wi : TI} {g : TG} {tb : TS} (xs : List β) (en : β → Dt) (enc : α → List (Option Sl)) (encM : α → List MO) (step : α → β → α ⊕ Out) (a0 : α)
    (hI : EvI K wi G M (xs.map en) (encM a0)) (h0 : Lg G (enc a0)) (turn : ∀ a x, x ∈ xs → ∃ G1, EvG K g (enc a) (.d (en x)) G1 ∧ Turns K enc encM tb G1 (encM a) (step a x)) :
    EvS K (tFor wi g tb) G M (outF enc encM (loopF step xs a0)) := fun F B as σ H ow sl D gd => by
  refine hI F B as σ H ow sl _ fun J B1 as1 H1 g1 p1 o1 yl => ?_
  refine ⟨fun i m σ' H' => ∃ B' as' a, m = xs.length - i ∧ i ≤ xs.length ∧ loopF step (xs.take i) a0 = .inl a ∧ Gr F B1 B' ∧ Px as1 as' ∧ Ow K F B' as' (encM a) H' ∧ Slt K B' as' (enc a) σ', ⟨xs.length, B1, as1, a0, by simp, Nat.zero_le _, by simp [loopF], Gr.refl F B1, Px.refl as1, o1, (sl.mono g1.1 p1).weak h0⟩, fun i m σ' H' w => ?_⟩
  obtain ⟨B', as', a, rfl, hi, hl, g', p', o', s'⟩ := w
  obtain ⟨y1, y2⟩ := yl F B' as' (encM a) H' i g'.1 o'
  by_cases hlt : i < xs.length
  · have hx : xs[i]? = some xs[i] := List.getElem?_eq_getElem hlt
    obtain ⟨go, yld⟩ := y1 (en xs[i]) (by rw [List.getElem?_map, hx] <;> rfl)
    obtain ⟨l1, l2⟩ := loopF_take step xs i a0 a _ hx hl
    refine .inr ⟨go, fun σ2 H2 => ∃ B' as' a, i + 1 ≤ xs.length ∧ loopF step (xs.take (i + 1)) a0 = .inl a ∧ Gr F B1 B' ∧ Px as1 as' ∧ Ow K F B' as' (encM a) H2 ∧ Slt K B' as' (enc a) σ2, fun σ2 H2 n2 => ?_, fun v H2 yv => ?_⟩
    · obtain ⟨B2, as2, a2, q1, q2, q3, q4, q5, q6⟩ := n2
      exact ⟨xs.length - (i + 1), by omega, B2, as2, a2, rfl, q1, q2, q3, q4, q5, q6⟩
    · obtain ⟨B2, g2, o2, r2⟩ := yld v H2 yv
      obtain ⟨G1, hg, ht⟩ := turn a xs[i] (List.getElem_mem hlt)
      refine hg F B2 as' (encM a) σ' H2 v o2 (s'.mono g2.1 (Px.refl as')) r2 _ fun B3 as3 σ3 H3 g3 p3 o3 s3 => ?_
      have gg : Gr F B1 B3 := g'.trans (g2.trans g3)
      have pp : Px as1 as3 := p'.trans p3
      cases e : step a xs[i] with
      | inl a' =>
        rw [e] at ht l1
        rcases ht with ht | ht
        · exact ht F B3 as3 σ3 H3 o3 s3 _ fun B4 as4 σ4 H4 g4 p4 o4 s4 => ⟨B4, as4, a', hlt, l1, gg.trans g4, pp.trans p4, o4, s4⟩
        · exact ht F B3 as3 σ3 H3 o3 s3 _ fun B4 as4 σ4 H4 g4 p4 o4 s4 => ⟨B4, as4, a', hlt, l1, gg.trans g4, pp.trans p4, o4, s4⟩
      | inr o =>
        rw [e] at ht
        rw [l2 o e] at gd
        cases o with
        | nx G' M' => exact ht F B3 as3 σ3 H3 o3 s3 _ fun B4 as4 σ4 H4 g4 p4 o4 s4 => gd B4 as4 σ4 H4 (g1.trans (gg.trans g4)) (p1.trans (pp.trans p4)) o4 s4
        | rt r M' => exact ht F B3 as3 σ3 H3 o3 s3 _ fun v B4 as4 H4 g4 p4 o4 s4 => gd v B4 as4 H4 (g1.trans (gg.trans g4)) (p1.trans (pp.trans p4)) o4 s4
        | bk _ _ => exact ht.elim
        | ct _ _ => exact ht.elim
  · have e : i = xs.length := by omega
    subst e
    rw [List.take_length] at hl
    rw [hl] at gd
    exact .inl ⟨y2 (by rw [List.length_map]; exact Nat.le_refl _), gd B' as' σ' H' (g1.trans g') (p1.trans p') o' s'⟩
/-! ### while -/
theorem es_while {α : Type} {tb : TS} (enc : α → List (Option Sl)) (encM : α → List MO) (P : α → Prop) (c : α → Bool) (f : α → α ⊕ Out) (μ : α → Nat) (w : α → α ⊕ Out) (a0 : α) (hp : P a0)
    (hw : ∀ a, P a → w a = if c a = true then (match f a with | .inl a' => w a' | .inr o => .inr o) else .inl a)
    (h0 : Lg G (enc a0)) (hM : M = encM a0) (test : ∀ a, P a → EvT K tt (enc a) (encM a) (c a) (encM a))
    (turn : ∀ a, P a → c a = true → Turns K enc encM tb (enc a) (encM a) (f a) ∧ ∀ a', f a = .inl a' → P a' ∧ μ a' < μ a) :
    EvS K (tWhile tt tb) G M (outF enc encM (w a0)) := fun F B as σ H ow sl D gd => by
  subst hM
  refine ⟨fun m σ' H' => ∃ B' as' a, m = μ a ∧ P a ∧ w a = w a0 ∧ Gr F B B' ∧ Px as as' ∧ Ow K F B' as' (encM a) H' ∧ Slt K B' as' (enc a) σ', ⟨μ a0, B, as, a0, rfl, hp, rfl, Gr.refl F B, Px.refl as, ow, sl.weak h0⟩, fun m σ' H' q => ?_⟩
  obtain ⟨B1, as1, a, rfl, pa, wa, g1, p1, o1, s1⟩ := q
  refine test a pa F B1 as1 σ' H' o1 s1 _ fun B2 as2 H2 g2 p2 o2 => ?_
  have hwa := hw a pa
  cases ec : c a with
  | false =>
    rw [ec] at hwa
    rw [if_neg Bool.false_ne_true] at hwa ⊢
    rw [← wa, hwa] at gd
    exact gd B2 as2 σ' H2 (g1.trans g2) (p1.trans p2) o2 (s1.mono g2.1 p2)
  | true =>
    rw [ec] at hwa
    rw [if_pos rfl] at hwa ⊢
    obtain ⟨ht, hd⟩ := turn a pa ec
    refine ⟨fun σ3 H3 => ∃ B' as' a', f a = .inl a' ∧ Gr F B B' ∧ Px as as' ∧ Ow K F B' as' (encM a') H3 ∧ Slt K B' as' (enc a') σ3, fun σ3 H3 n3 => ?_, ?_⟩
    · obtain ⟨B3, as3, a', e, q1, q2, q3, q4⟩ := n3
      obtain ⟨pa', lt⟩ := hd a' e
      rw [e] at hwa
      exact ⟨μ a', lt, B3, as3, a', rfl, pa', hwa.symm.trans wa, q1, q2, q3, q4⟩
    · have gg := g1.trans g2
      have pp := p1.trans p2
      cases e : f a with
      | inl a' =>
        rw [e] at ht
        rcases ht with ht | ht
        · exact ht F B2 as2 σ' H2 o2 (s1.mono g2.1 p2) _ fun B4 as4 σ4 H4 g4 p4 o4 s4 => ⟨B4, as4, a', rfl, gg.trans g4, pp.trans p4, o4, s4⟩
        · exact ht F B2 as2 σ' H2 o2 (s1.mono g2.1 p2) _ fun B4 as4 σ4 H4 g4 p4 o4 s4 => ⟨B4, as4, a', rfl, gg.trans g4, pp.trans p4, o4, s4⟩
      | inr o =>
        rw [e] at ht hwa
        rw [← wa, hwa] at gd
        cases o with
        | nx G' M' => exact ht F B2 as2 σ' H2 o2 (s1.mono g2.1 p2) _ fun B4 as4 σ4 H4 g4 p4 o4 s4 => gd B4 as4 σ4 H4 (gg.trans g4) (pp.trans p4) o4 s4
        | rt r M' => exact ht F B2 as2 σ' H2 o2 (s1.mono g2.1 p2) _ fun v B4 as4 H4 g4 p4 o4 s4 => gd v B4 as4 H4 (gg.trans g4) (pp.trans p4) o4 s4
        | bk _ _ => exact ht.elim
        | ct _ _ => exact ht.elim
end
end DJ
namespace DJ
open PySem PySem.Spec PyProof.Rows L2
/-! ### comprehensions -/
def wipeG (G : List (Option Sl)) : List Nat → List (Option Sl)
  | [] => G
  | v :: vs => (wipeG G vs).set v none
theorem slt_none {K : PySem.W.Frag} {B : Hp} {as : List Addr} {G : List (Option Sl)} {σ : L2.St} (h : Slt K B as G σ) (i : Nat) (o : Option V) : Slt K B as (G.set i none) (σ.set i o) := by
  refine ⟨by rw [List.length_set, List.length_set]; exact h.1, fun j s' q => ?_⟩
  by_cases e : i = j
  · subst e
    rw [List.getElem?_set] at q
    simp at q
  · rw [List.getElem?_set_ne e] at q
    obtain ⟨v', e1, h1⟩ := h.2 j s' q
    exact ⟨v', by rw [List.getElem?_set_ne e]; exact e1, h1⟩
theorem slt_wipe {K : PySem.W.Frag} {B : Hp} {as : List Addr} {G : List (Option Sl)} {σ : L2.St} (h : Slt K B as G σ) : ∀ vs : List Nat, Slt K B as (wipeG G vs) (wipe σ vs)
  | [] => h
  | v :: vs => slt_none (slt_wipe h vs) v none
/-- the targets' slots are wiped again -/
def GW (g : TG) (vs : List Nat) : Prop := ∀ v σ H Q, g v σ H (fun σ2 H2 => (wipe σ2 vs = wipe σ vs → Q σ2 H2)) → g v σ H Q
theorem wipe_len (σ : L2.St) (vs : List Nat) : (wipe σ vs).length = σ.length := wipe_length σ vs
theorem wipe_get (σ : L2.St) : ∀ (vs : List Nat) (i : Nat), (wipe σ vs)[i]? = if i ∈ vs then (if i < σ.length then some none else none) else σ[i]?
  | [], i => by simp [wipe]
  | v :: vs, i => by
    unfold wipe
    rw [List.getElem?_set, wipe_len, wipe_get σ vs i]
    by_cases e : v = i
    · subst e; simp
    · have : ¬ i = v := fun z => e z.symm
      simp [e, this]
theorem wipe_set {σ : L2.St} {vs : List Nat} {j : Nat} {x : Option V} (hj : j ∈ vs) : wipe (σ.set j x) vs = wipe σ vs := by
  refine List.ext_getElem? fun i => ?_
  rw [wipe_get, wipe_get, List.length_set]
  by_cases e : i ∈ vs
  · simp [e]
  · have : j ≠ i := fun z => e (z ▸ hj)
    simp only [e, if_false]
    rw [List.getElem?_set_ne this]
theorem wipe_wipe (σ : L2.St) (vs : List Nat) : wipe (wipe σ vs) vs = wipe σ vs := by
  refine List.ext_getElem? fun i => ?_
  rw [wipe_get, wipe_get, wipe_len]
  by_cases e : i ∈ vs
  · simp [e]
  · simp only [e, if_false, wipe_get]
/-- what is made, one after another, with what is owned between -/
def mapS {μ β : Type} (p : μ → β → Option (Dt × μ)) (q : μ → β → μ) : List β → μ → List Dt × μ
  | [], m => ([], m)
  | x :: xs, m => match p m x with
    | some (y, m') => (y :: (mapS p q xs m').1, (mapS p q xs m').2)
    | none => mapS p q xs (q m x)
theorem mapS_take {μ β : Type} (p : μ → β → Option (Dt × μ)) (q : μ → β → μ) : ∀ (xs : List β) (i : Nat) (m : μ) (x : β), xs[i]? = some x →
    mapS p q (xs.take (i + 1)) m = (match p (mapS p q (xs.take i) m).2 x with
      | some (y, m') => ((mapS p q (xs.take i) m).1 ++ [y], m')
      | none => ((mapS p q (xs.take i) m).1, q (mapS p q (xs.take i) m).2 x))
  | [], i, m, x, h => by simp at h
  | y :: ys, 0, m, x, h => by
    have e1 : y = x := by simpa using h
    subst e1
    simp only [List.take_succ_cons, List.take_zero, mapS]
    cases p m y <;> rfl
  | y :: ys, i + 1, m, x, h => by
    have h : ys[i]? = some x := by simpa using h
    simp only [List.take_succ_cons, mapS]
    cases e : p m y with
    | none => exact mapS_take p q ys i _ x h
    | some r =>
      simp only [mapS_take p q ys i r.2 x h]
      cases p (mapS p q (ys.take i) r.2).2 x <;> rfl
theorem mapS_len {μ β : Type} (p : μ → β → Option (Dt × μ)) (q : μ → β → μ) : ∀ (xs : List β) (m : μ), (mapS p q xs m).1.length ≤ xs.length
  | [], m => Nat.le_refl _
  | x :: xs, m => by
    simp only [mapS]
    cases p m x with
    | none => exact Nat.le_succ_of_le (mapS_len p q xs _)
    | some r => exact Nat.succ_le_succ (mapS_len p q xs _)
section
variable {K : PySem.W.Frag} {F B B1 H : Hp} {as as1 : List Addr} {G G1 G2 G' : List (Option Sl)} {M M1 M2 M' : List MO} {te ta tb to ti : TE} {s : Sl} {b : Bool} {tt : TT} {x y z : Dt}
/-- a thing at the side: neither owned nor data -/
theorem Ow.aside {D : Addr} {o o' : HO} (h : Ow K (upd F D o) B as M H) (fD : F D = none) (bD : B D = none) : Ow K F B as M (upd H D o') := by
  refine ⟨fun a u e => ?_, fun a u e => ?_, h.len, h.nd, fun a ha => ?_, fun a ha => ?_, fun k a m e1 e2 hm => ?_⟩
  · have ne := ne_of_none e fD
    rw [upd_ne ne]
    exact h.fb a u (by rw [upd_ne ne]; exact e)
  · rw [upd_ne (ne_of_none e bD)]
    exact h.bb a u e
  · by_cases e : a = D
    · rw [e, upd_same]; exact fun z => nomatch z
    · rw [upd_ne e]; exact h.al a ha
  · have q1 := h.fa a ha
    rw [upd_ne (fun e => by rw [e, upd_same] at q1; cases q1)] at q1
    exact q1
  · obtain ⟨q1, q2, q3⟩ := h.own k a m e1 e2 hm
    have ne : a ≠ D := fun e => by rw [e, upd_same] at q1; cases q1
    rw [upd_ne ne] at q1
    exact ⟨q1, q2, MoR.mono (Same.refl B) (upd_ne ne) q3⟩
theorem Ow.out {D : Addr} {o : HO} (h : Ow K (upd F D o) B as M H) : D ∉ as := fun m => by
  have q1 := h.fa D m
  rw [upd_same] at q1
  cases q1
theorem Ow.side {D : Addr} {o : HO} (h : Ow K F B as M H) (hD : H D = some o) (fD : F D = none) (ns : D ∉ as) : Ow K (upd F D o) B as M H := by
  refine ⟨fun a u e => ?_, h.bb, h.len, h.nd, h.al, fun a ha => by rw [upd_ne (fun e : a = D => ns (e ▸ ha))]; exact h.fa a ha, fun k a m e1 e2 hm => ?_⟩
  · by_cases z : a = D
    · rw [z, upd_same] at e; rw [z, ← e]; exact hD
    · rw [upd_ne z] at e; exact h.fb a u e
  · obtain ⟨q1, q2, q3⟩ := h.own k a m e1 e2 hm
    have ne : a ≠ D := fun e : a = D => ns (e ▸ List.mem_of_getElem? e1)
    exact ⟨by rw [upd_ne ne]; exact q1, q2, q3⟩
theorem Gr.of_side {D : Addr} {us : List V} (h : Gr (upd F D (.lst us)) B B1) : Gr F B B1 := ⟨h.1, fun a f n => h.2 a (by
  by_cases e : a = D
  · rw [e, upd_same]; exact kp_lst
  · rw [upd_ne e]; exact f) n⟩
/-- the core: D holds what was made -/
theorem ev_lcAny {μ β : Type} {wi : TI} {g : TG} {tt : TT} {vs : List Nat} (xs : List β) (en : β → Dt) (encM : μ → List MO) (p : μ → β → Option (Dt × μ)) (q : μ → β → μ) (m0 : μ)
    (hI : EvI K wi G M (xs.map en) (encM m0)) (hx : xs.length ≤ 100000) (hw : ∀ v σ H Q, g v (wipe σ vs) H (fun σ2 H2 => wipe σ2 vs = wipe σ vs → Q σ2 H2) → g v (wipe σ vs) H Q)
    (turn : ∀ m x, x ∈ xs → ∃ G1, EvG K g (wipeG G vs) (.d (en x)) G1 ∧ (match p m x with
      | some (y, m') => ∃ M1, EvT K tt G1 (encM m) true M1 ∧ EvE K te G1 M1 (.d y) (encM m')
      | none => EvT K tt G1 (encM m) false (encM (q m x))))
    : ∀ F B as σ H, Ow K F B as M H → Slt K B as G σ → ∀ Q : VK,
      (∀ D us B' as' H', Gr F B B' → Px as as' → F D = none → B' D = none → Ow K (upd F D (.lst us)) B' as' (encM (mapS p q xs m0).2) H' → H' D = some (.lst us) → RpL K B' (mapS p q xs m0).1 us → Q (.ref D) H') → tLc wi g tt te vs σ H Q := fun F B as σ H ow sl Q k => by
  refine hI F B as σ H ow sl _ fun J B1 as1 H1 g1 p1 o1 yl => fun D hD => ?_
  obtain ⟨fD, bD, aD⟩ := o1.fresh hD
  have ow0 : Ow K (upd F D (.lst [])) B1 as1 (encM m0) (upd H1 D (.lst [])) := by
    refine ⟨fun a u e => ?_, fun a u e => ?_, o1.len, o1.nd, fun a ha => ?_, fun a ha => by rw [upd_ne (fun e : a = D => aD (e ▸ ha))]; exact o1.fa a ha, fun k a m e1 e2 hm => ?_⟩
    · by_cases z : a = D
      · rw [z, upd_same] at e ⊢; exact e
      · rw [upd_ne z] at e ⊢; exact o1.fb a u e
    · rw [upd_ne (ne_of_none e bD)]; exact o1.bb a u e
    · rw [upd_ne (fun e : a = D => aD (e ▸ ha))]; exact o1.al a ha
    · have ne : a ≠ D := fun e : a = D => aD (e ▸ List.mem_of_getElem? e1)
      obtain ⟨q1, q2, q3⟩ := o1.own k a m e1 e2 hm
      exact ⟨by rw [upd_ne ne]; exact q1, q2, MoR.mono (Same.refl B1) (upd_ne ne) q3⟩
  refine ⟨fun i n H' => ∃ B' as' us, n = xs.length - i ∧ i ≤ xs.length ∧ Gr F B1 B' ∧ B' D = none ∧ Px as1 as' ∧ Ow K (upd F D (.lst us)) B' as' (encM (mapS p q (xs.take i) m0).2) H' ∧ H' D = some (.lst us) ∧ RpL K B' (mapS p q (xs.take i) m0).1 us,
    ⟨xs.length, B1, as1, [], by simp, Nat.zero_le _, Gr.refl F B1, bD, Px.refl as1, ow0, upd_same, rfl⟩, fun i n H' w => ?_⟩
  obtain ⟨B', as', us, rfl, hi, g', bD', p', o', hD', r'⟩ := w
  obtain ⟨y1, y2⟩ := yl _ B' as' _ H' i g'.1 o'
  by_cases hlt : i < xs.length
  · have hxi : xs[i]? = some xs[i] := List.getElem?_eq_getElem hlt
    obtain ⟨go, yld⟩ := y1 (en xs[i]) (by rw [List.getElem?_map, hxi] <;> rfl)
    have mt := mapS_take p q xs i m0 _ hxi
    refine .inr ⟨go, fun H2 => ∃ B' as' us, i + 1 ≤ xs.length ∧ Gr F B1 B' ∧ B' D = none ∧ Px as1 as' ∧ Ow K (upd F D (.lst us)) B' as' (encM (mapS p q (xs.take (i + 1)) m0).2) H2 ∧ H2 D = some (.lst us) ∧ RpL K B' (mapS p q (xs.take (i + 1)) m0).1 us, fun H2 n2 => ?_, fun v H2 yv => ?_⟩
    · obtain ⟨B2, as2, us2, q1, q2, q3, q4, q5, q6, q7⟩ := n2
      exact ⟨xs.length - (i + 1), by omega, B2, as2, us2, rfl, q1, q2, q3, q4, q5, q6, q7⟩
    · obtain ⟨B2, g2, o2, r2⟩ := yld v H2 yv
      generalize hm : (mapS p q (xs.take i) m0).2 = m at *
      obtain ⟨G1, hg, ht⟩ := turn m xs[i] (List.getElem_mem hlt)
      have bD2 : B2 D = none := g2.2 D (by rw [upd_same]; exact kp_lst) bD'
      refine hw v σ H2 _ ?_
      refine hg _ B2 as' (encM m) (wipe σ vs) H2 v o2 ((slt_wipe (sl.mono ((g1.1.trans g'.1).trans g2.1) (p1.trans p')) vs)) r2 _ fun B3 as3 σ3 H3 g3 p3 o3 s3 => fun hwp => ⟨hwp, ?_⟩
      have bD3 : B3 D = none := g3.2 D (by rw [upd_same]; exact kp_lst) bD2
      cases e : p m xs[i] with
      | none =>
        rw [e] at ht mt
        refine ht _ B3 as3 σ3 H3 o3 s3 _ fun B4 as4 H4 g4 p4 o4 => ?_
        rw [if_neg Bool.false_ne_true]
        have sm := (g2.1.trans g3.1).trans g4.1
        refine ⟨B4, as4, us, hlt, g'.trans ((g2.trans (g3.trans g4)).of_side), g4.2 D (by rw [upd_same]; exact kp_lst) bD3, p'.trans (p3.trans p4), ?_, o4.fb D _ upd_same, ?_⟩
        · rw [mt]; exact o4
        · rw [mt]; exact RpL.mono sm _ _ r'
      | some r =>
        obtain ⟨yd, m'⟩ := r
        rw [e] at ht mt
        obtain ⟨M1, h1, h2⟩ := ht
        refine h1 _ B3 as3 σ3 H3 o3 s3 _ fun B4 as4 H4 g4 p4 o4 => ?_
        rw [if_pos rfl]
        refine h2 _ B4 as4 σ3 H4 o4 (s3.mono g4.1 p4) _ fun w B5 as5 H5 g5 p5 o5 r5 => ?_
        have bD4 : B4 D = none := g4.2 D (by rw [upd_same]; exact kp_lst) bD3
        have bD5 : B5 D = none := g5.2 D (by rw [upd_same]; exact kp_lst) bD4
        have hl : us.length < sizeLine := by
          rw [r'.len]
          have e1 := mapS_len p q (xs.take i) m0
          rw [List.length_take] at e1
          exact Nat.lt_of_le_of_lt (show _ ≤ 100000 by omega) (by decide)
        have sm := ((g2.1.trans g3.1).trans g4.1).trans g5.1
        have on : Ow K F B5 as5 (encM m') (upd H5 D (.lst (us ++ [w]))) := o5.aside fD bD5
        have on2 : Ow K (upd F D (.lst (us ++ [w]))) B5 as5 (encM m') (upd H5 D (.lst (us ++ [w]))) := on.side upd_same fD o5.out
        refine ⟨us, o5.fb D _ upd_same, hl, B5, as5, us ++ [w], hlt, g'.trans ((g2.trans (g3.trans (g4.trans g5))).of_side), bD5, p'.trans (p3.trans (p4.trans p5)), ?_, upd_same, ?_⟩
        · rw [mt]; exact on2
        · rw [mt]; exact RpL.append (RpL.mono sm _ _ r') (RpL.one r5)
  · have e : i = xs.length := by omega
    subst e
    rw [List.take_length] at o' r'
    exact .inl ⟨y2 (by rw [List.length_map]; exact Nat.le_refl _), k D us B' as' H' (g1.trans g') (p1.trans p') fD bD' o' hD' r'⟩
theorem hw_name {j : Nat} {vs : List Nat} (hj : j ∈ vs) : ∀ v σ H Q, gName j v (wipe σ vs) H (fun σ2 H2 => wipe σ2 vs = wipe σ vs → Q σ2 H2) → gName j v (wipe σ vs) H Q := fun v σ H Q h =>
  h (by rw [wipe_set hj, wipe_wipe])
theorem hw_tup2 {i j : Nat} {vs : List Nat} (hi : i ∈ vs) (hj : j ∈ vs) {n : Nat} : ∀ v σ H Q, gTup K n (gCons (gName i) (gCons (gName j) gNil)) v (wipe σ vs) H (fun σ2 H2 => wipe σ2 vs = wipe σ vs → Q σ2 H2) → gTup K n (gCons (gName i) (gCons (gName j) gNil)) v (wipe σ vs) H Q := fun v σ H Q h => by
  obtain ⟨a, xs, e, h1, h2, u, r, e1, w, r2, e2, e3, h3⟩ := h
  exact ⟨a, xs, e, h1, h2, u, r, e1, w, r2, e2, e3, h3 (by rw [wipe_set hj, wipe_set hi, wipe_wipe])⟩
/-- the new list is data -/
theorem ev_lc {μ β : Type} {wi : TI} {g : TG} {tt : TT} {vs : List Nat} (xs : List β) (en : β → Dt) (encM : μ → List MO) (p : μ → β → Option (Dt × μ)) (q : μ → β → μ) (m0 : μ)
    (hI : EvI K wi G M (xs.map en) (encM m0)) (hx : xs.length ≤ 100000) (hw : ∀ v σ H Q, g v (wipe σ vs) H (fun σ2 H2 => wipe σ2 vs = wipe σ vs → Q σ2 H2) → g v (wipe σ vs) H Q)
    (turn : ∀ m x, x ∈ xs → ∃ G1, EvG K g (wipeG G vs) (.d (en x)) G1 ∧ (match p m x with
      | some (y, m') => ∃ M1, EvT K tt G1 (encM m) true M1 ∧ EvE K te G1 M1 (.d y) (encM m')
      | none => EvT K tt G1 (encM m) false (encM (q m x)))) :
    EvE K (tLc wi g tt te vs) G M (.d (.lst (mapS p q xs m0).1)) (encM (mapS p q xs m0).2) := fun F B as σ H ow sl Q k =>
  ev_lcAny xs en encM p q m0 hI hx hw turn F B as σ H ow sl Q fun D us B' as' H' g' p' fD bD o' hD r' => by
    have sm : Same B' (upd B' D (.lst us)) := fun c u e => by rw [upd_ne (ne_of_none e bD)]; exact e
    refine k _ (upd B' D (.lst us)) as' H' ⟨g'.1.trans sm, fun c z n => ?_⟩ p' ⟨?_, ?_, o'.len, o'.nd, o'.al, ?_, ?_⟩ ⟨D, us, rfl, .inl (.inl upd_same), RpL.mono sm _ _ r'⟩
    · rw [upd_ne (fun e : c = D => z.1 (by rw [e]; exact fD))]; exact g'.2 c z n
    · exact fun c u e => o'.fb c u (by rw [upd_ne (ne_of_none e fD)]; exact e)
    · intro c u e
      by_cases z : c = D
      · rw [z, upd_same] at e; rw [z, ← e]; exact hD
      · rw [upd_ne z] at e; exact o'.bb c u e
    · intro c hc
      have q1 := o'.fa c hc
      rw [upd_ne (fun e : c = D => o'.out (e ▸ hc))] at q1
      exact q1
    · intro k a m e1 e2 hm
      obtain ⟨q1, q2, q3⟩ := o'.own k a m e1 e2 hm
      have ne : a ≠ D := fun e => by rw [e, upd_same] at q1; cases q1
      rw [upd_ne ne] at q1
      exact ⟨q1, by rw [upd_ne ne]; exact q2, MoR.mono sm rfl q3⟩
/-- the new list will change -/
theorem ev_lcO {μ β : Type} {wi : TI} {g : TG} {tt : TT} {vs : List Nat} (xs : List β) (en : β → Dt) (encM : μ → List MO) (p : μ → β → Option (Dt × μ)) (q : μ → β → μ) (m0 : μ)
    (hI : EvI K wi G M (xs.map en) (encM m0)) (hx : xs.length ≤ 100000) (hw : ∀ v σ H Q, g v (wipe σ vs) H (fun σ2 H2 => wipe σ2 vs = wipe σ vs → Q σ2 H2) → g v (wipe σ vs) H Q)
    (turn : ∀ m x, x ∈ xs → ∃ G1, EvG K g (wipeG G vs) (.d (en x)) G1 ∧ (match p m x with
      | some (y, m') => ∃ M1, EvT K tt G1 (encM m) true M1 ∧ EvE K te G1 M1 (.d y) (encM m')
      | none => EvT K tt G1 (encM m) false (encM (q m x)))) :
    EvE K (tLc wi g tt te vs) G M (.o (encM (mapS p q xs m0).2).length) (encM (mapS p q xs m0).2 ++ [.lst (mapS p q xs m0).1]) := fun F B as σ H ow sl Q k =>
  ev_lcAny xs en encM p q m0 hI hx hw turn F B as σ H ow sl Q fun D us B' as' H' g' p' fD bD o' hD r' => by
    have nD := o'.out
    have hs : Ow K F B' as' (encM (mapS p q xs m0).2) H' := by
      have := o'.aside (o' := .lst us) fD bD
      rw [show upd H' D (.lst us) = H' from funext fun b => by
        by_cases e : b = D
        · rw [e, upd_same, hD]
        · rw [upd_ne e]] at this
      exact this
    refine k _ B' (as' ++ [D]) H' g' (p'.trans ⟨[D], rfl⟩) ⟨hs.fb, hs.bb, by rw [List.length_append, List.length_append, hs.len]; rfl, List.nodup_append.mpr ⟨hs.nd, by simp, fun a ha b hb => ?_⟩, fun a ha => ?_, fun a ha => ?_, fun k a m' e1 e2 hm' => ?_⟩ ⟨D, ?_, rfl⟩
    · obtain rfl : b = D := by simpa using hb
      exact fun e : a = b => nD (e ▸ ha)
    · rcases List.mem_append.mp ha with ha | ha
      · exact hs.al a ha
      · obtain rfl : a = D := by simpa using ha
        rw [hD]; exact fun z => nomatch z
    · rcases List.mem_append.mp ha with ha | ha
      · exact hs.fa a ha
      · obtain rfl : a = D := by simpa using ha
        exact fD
    · by_cases hk : k < as'.length
      · rw [List.getElem?_append_left hk] at e1
        rw [List.getElem?_append_left (by rw [← hs.len]; exact hk)] at e2
        exact hs.own k a m' e1 e2 hm'
      · have hl : k = as'.length := by
          have := (List.getElem?_eq_some_iff.mp e1).1
          rw [List.length_append, List.length_singleton] at this
          omega
        subst hl
        rw [List.getElem?_append_right (Nat.le_refl _), Nat.sub_self] at e1
        rw [hs.len, List.getElem?_append_right (Nat.le_refl _), Nat.sub_self] at e2
        obtain rfl : D = a := Option.some.inj e1
        obtain rfl : MO.lst (mapS p q xs m0).1 = m' := Option.some.inj e2
        exact ⟨fD, bD, us, hD, r'⟩
    · rw [← hs.len, List.getElem?_append_right (Nat.le_refl _), Nat.sub_self]
      rfl
end
/-! ### calls -/
def SpR (K : PySem.W.Frag) (n : Nat) (R : List Sl → List MO → Sl → List MO → Prop) : Sp := fun vs H Q _ =>
  ∃ F B as ss M r M', R ss M r M' ∧ Ow K F B as M H ∧ SlL K B as ss vs ∧ vs.length = n ∧ ∀ v B' as' H', Gr F B B' → Px as as' → Ow K F B' as' M' H' → SlR K B' as' r v → Q v H'
def start (n : Nat) (ss : List Sl) : List (Option Sl) := ss.map some ++ List.replicate (n - ss.length) none
section
variable {K : PySem.W.Frag} {F B B1 H : Hp} {as as1 : List Addr} {G G1 G2 G' : List (Option Sl)} {M M1 M2 M' X : List MO} {te : TE} {ta tk : TA} {s r : Sl} {t : TS} {E : XK}
theorem slt_args {n : Nat} : ∀ {ss : List Sl} {vs : List V}, SlL K B as ss vs → Slt K B as (ss.map some ++ List.replicate n none) (vs.map some ++ List.replicate n none)
  | [], vs, h => by
    rw [show vs = [] from h]
    refine ⟨by simp, fun i s q => ?_⟩
    simp only [List.map_nil, List.nil_append, List.getElem?_replicate] at q
    split at q <;> simp at q
  | s :: ss, vs, ⟨v, u, e, h1, h2⟩ => by
    subst e
    have ih := slt_args (n := n) h2
    refine ⟨by have := ih.1; simp at this ⊢; omega, fun i s' q => ?_⟩
    cases i with
    | zero => simp at q; subst q; exact ⟨v, by simp, h1⟩
    | succ i => exact ih.2 i s' (by simpa using q)
/-- a def's body keeps its promise -/
theorem run_body {N : List Str} {ss : List Sl} {vs : List V} {Q : VK} (h : EvS K t (start N.length ss) M (.rt r (M' ++ X))) (hm : M.length ≤ M'.length) (hr : ∀ k, r = .o k → k < M'.length) (ow : Ow K F B as M H) (sl : SlL K B as ss vs)
    (q : ∀ v B' as' H', Gr F B B' → Px as as' → Ow K F B' as' M' H' → SlR K B' as' r v → Q v H') : t { nx := fun _ H' => Q .non H', rt := Q } (L2.start N vs) H := by
  have sl' : Slt K B as (start N.length ss) (L2.start N vs) := by
    have e := sl.len
    unfold start L2.start
    rw [e]
    exact slt_args sl
  refine h F B as _ H ow sl' _ fun v B' as' H' g p o' r' => q v B' (as'.take M'.length) H' g ?_ o'.drop ?_
  · obtain ⟨tl, rfl⟩ := p
    refine ⟨tl.take (M'.length - as.length), ?_⟩
    rw [List.take_append, List.take_of_length_le (by rw [ow.len]; exact hm)]
  · cases r with
    | d x => exact r'
    | o k =>
      obtain ⟨a, ha, e⟩ := r'
      exact ⟨a, by rw [List.getElem?_take_of_lt (hr k rfl)]; exact ha, e⟩
/-- .. that comes to its end -/
theorem run_bodyN {N : List Str} {ss : List Sl} {vs : List V} {Q : VK} (h : EvS K t (start N.length ss) M (.nx G1 (M' ++ X))) (hm : M.length ≤ M'.length) (ow : Ow K F B as M H) (sl : SlL K B as ss vs)
    (q : ∀ v B' as' H', Gr F B B' → Px as as' → Ow K F B' as' M' H' → SlR K B' as' (.d .non) v → Q v H') : t { nx := fun _ H' => Q .non H', rt := Q } (L2.start N vs) H := by
  have sl' : Slt K B as (start N.length ss) (L2.start N vs) := by
    have e := sl.len
    unfold start L2.start
    rw [e]
    exact slt_args sl
  refine h F B as _ H ow sl' _ fun B' as' σ' H' g p o' r' => q .non B' (as'.take M'.length) H' g ?_ o'.drop rfl
  obtain ⟨tl, rfl⟩ := p
  refine ⟨tl.take (M'.length - as.length), ?_⟩
  rw [List.take_append, List.take_of_length_le (by rw [ow.len]; exact hm)]
/-- what a call of data asks: R of them, nothing owned -/
theorem call_core {n : Nat} {R : List Sl → List MO → Sl → List MO → Prop} {ds : List Dt} {z : Sl} {N : List MO} {vs : List V} {Q : VK} (hR : R (ds.map Sl.d) [] z N) (hn : ds.length = n) (o : Ow K F B as M H) (r : RpL K B ds vs)
    (q : ∀ v B' as' H', Gr H B B' → Ow K H B' as' N H' → SlR K B' as' z v → Q v H') : SpR K n R vs H Q E :=
  ⟨H, B, [], ds.map Sl.d, [], z, N, hR, ⟨Same.refl H, o.bb, rfl, List.nodup_nil, fun _ h => (nomatch h), fun _ h => (nomatch h), fun k a m e => by simp at e⟩, SlL.of_data r, by rw [r.len]; exact hn, fun v B' as' H' g _ o' r' => q v B' as' H' g o' r'⟩
theorem back0 {B' : Hp} {as' : List Addr} {N : List MO} {H' : Hp} (o : Ow K F B as M H) (g : Gr H B B') (o' : Ow K H B' as' N H') : Gr F B B' ∧ Ow K F B' as M H' := by
  refine ⟨⟨g.1, fun a f n => g.2 a (Kp.same f o.fb) n⟩, fun a u e => o'.fb a u (o.fb a u e), o'.bb, o.len, o.nd, fun a ha => ?_, o.fa, fun k a m e1 e2 hm => ?_⟩
  · cases e : H a with
    | none => exact absurd e (o.al a ha)
    | some u => rw [o'.fb a u e]; exact fun z => nomatch z
  · obtain ⟨q1, q2, q3⟩ := o.own k a m e1 e2 hm
    have ha := o.al a (List.mem_of_getElem? e1)
    cases e : H a with
    | none => exact absurd e ha
    | some u => exact ⟨q1, g.2 a (kp_mor hm q3) q2, MoR.mono g.1 ((o'.fb a u e).trans e.symm) q3⟩
theorem ev_call0 {n : Nat} {R : List Sl → List MO → Sl → List MO → Prop} {ds : List Dt} {z : Dt} {dvs : List V} {es : List Dt} (h : EvA K ta G M (ds.map Sl.d) M1) (hR : R ((ds ++ es).map Sl.d) [] (.d z) []) (hn : (ds ++ es).length = n) (hd : ∀ B, RpL K B es dvs) :
    EvE K (tCall (SpR K n R) dvs E ta) G M (.d z) M1 := fun F B as σ H ow sl Q q =>
  h F B as σ H ow sl _ fun vs B1 as1 H1 g1 p1 o1 r1 => call_core hR hn o1 (RpL.append (SlL.data r1) (hd B1)) fun v B' as' H' g o' r' => by
    obtain ⟨g2, o2⟩ := back0 o1 g o'
    exact q v B' as1 H' (g1.trans g2) p1 o2 r'
/-- .. that hands back a new list which will change -/
theorem ev_call0n {n : Nat} {R : List Sl → List MO → Sl → List MO → Prop} {ds : List Dt} {m : MO} {dvs : List V} {es : List Dt} (h : EvA K ta G M (ds.map Sl.d) M1) (hR : R ((ds ++ es).map Sl.d) [] (.o 0) [m]) (hg : m ≠ .gone) (hn : (ds ++ es).length = n) (hd : ∀ B, RpL K B es dvs) :
    EvE K (tCall (SpR K n R) dvs E ta) G M (.o M1.length) (M1 ++ [m]) := fun F B as σ H ow sl Q q =>
  h F B as σ H ow sl _ fun vs B1 as1 H1 g1 p1 o1 r1 => call_core hR hn o1 (RpL.append (SlL.data r1) (hd B1)) fun v B' as' H' g o' r' => by
    obtain ⟨g2, o2⟩ := back0 o1 g o'
    obtain ⟨a, ha, rfl⟩ := r'
    have q0 := o'.own 0 a m ha rfl hg
    have fa := q0.1
    have nin : a ∉ as1 := fun hm => o1.al a hm fa
    have hal := o'.al a (List.mem_of_getElem? ha)
    refine q _ B' (as1 ++ [a]) H' (g1.trans g2) (p1.trans ⟨[a], rfl⟩) ⟨o2.fb, o2.bb, by rw [List.length_append, List.length_append, o2.len]; rfl, List.nodup_append.mpr ⟨o2.nd, by simp, fun c hc b hb => ?_⟩, fun c hc => ?_, fun c hc => ?_, fun k c m' e1 e2 hm' => ?_⟩ ⟨a, ?_, rfl⟩
    · obtain rfl : b = a := by simpa using hb
      exact fun e : c = b => nin (e ▸ hc)
    · rcases List.mem_append.mp hc with hc | hc
      · exact o2.al c hc
      · obtain rfl : c = a := by simpa using hc
        exact hal
    · rcases List.mem_append.mp hc with hc | hc
      · exact o2.fa c hc
      · obtain rfl : c = a := by simpa using hc
        exact o1.fb.free fa
    · by_cases hk : k < as1.length
      · rw [List.getElem?_append_left hk] at e1
        rw [List.getElem?_append_left (by rw [← o2.len]; exact hk)] at e2
        exact o2.own k c m' e1 e2 hm'
      · have hl : k = as1.length := by
          have := (List.getElem?_eq_some_iff.mp e1).1
          rw [List.length_append, List.length_singleton] at this
          omega
        subst hl
        rw [List.getElem?_append_right (Nat.le_refl _), Nat.sub_self] at e1
        rw [o2.len, List.getElem?_append_right (Nat.le_refl _), Nat.sub_self] at e2
        obtain rfl : a = c := Option.some.inj e1
        obtain rfl : m = m' := Option.some.inj e2
        exact ⟨o1.fb.free fa, q0.2.1, q0.2.2⟩
    · rw [← o2.len, List.getElem?_append_right (Nat.le_refl _), Nat.sub_self]
      rfl
/-- one owned thing is handed on: the callee's number 0 -/
def to0 (k : Nat) : Sl → Sl
  | .d x => .d x
  | .o j => if j = k then .o 0 else .o j
theorem slL_to0 {a : Addr} {k : Nat} (ha : as[k]? = some a) : ∀ {ss : List Sl} {vs : List V}, (∀ s ∈ ss, ∀ j, s = .o j → j = k) → SlL K B as ss vs → SlL K B [a] (ss.map (to0 k)) vs
  | [], _, _, h => h
  | s :: ss, _, hs, ⟨v, u, e, h1, h2⟩ => by
    refine ⟨v, u, e, ?_, slL_to0 ha (fun s' hs' => hs s' (List.mem_cons_of_mem _ hs')) h2⟩
    cases s with
    | d x => exact h1
    | o j =>
      have e2 := hs _ List.mem_cons_self j rfl
      subst e2
      obtain ⟨c, hc, e3⟩ := h1
      rw [ha] at hc
      cases hc
      show SlR K B [a] (if j = j then .o 0 else .o j) v
      rw [if_pos rfl]
      exact ⟨a, rfl, e3⟩
theorem ev_call1 {n k : Nat} {R : List Sl → List MO → Sl → List MO → Prop} {ss : List Sl} {m m' : MO} {z : Dt} {dvs : List V} {es : List Dt} (h : EvA K ta G M ss M1) (hm : M1[k]? = some m) (hg : m ≠ .gone) (hs : ∀ s ∈ ss, ∀ j, s = .o j → j = k)
    (hR : R (ss.map (to0 k) ++ es.map Sl.d) [m] (.d z) [m']) (hg' : m' ≠ .gone) (hn : ss.length + es.length = n) (hd : ∀ B, RpL K B es dvs) :
    EvE K (tCall (SpR K n R) dvs E ta) G M (.d z) (M1.set k m') := fun F B as σ H ow sl Q q =>
  h F B as σ H ow sl _ fun vs B1 as1 H1 g1 p1 o1 r1 => by
    have hk : k < as1.length := by rw [o1.len]; exact (List.getElem?_eq_some_iff.mp hm).1
    obtain ⟨a, ha⟩ : ∃ a, as1[k]? = some a := ⟨_, List.getElem?_eq_getElem hk⟩
    obtain ⟨f0, b0, mr⟩ := o1.own k a m ha hm hg
    have hal := o1.al a (List.mem_of_getElem? ha)
    have oc : Ow K (fun b => if b = a then none else H1 b) B1 [a] [m] H1 := by
      refine ⟨fun b u e => ?_, o1.bb, rfl, by simp, fun b hb => ?_, fun b hb => ?_, fun j b m2 e1 e2 hm2 => ?_⟩
      · by_cases z : b = a
        · simp only [if_pos z] at e; cases e
        · simp only [if_neg z] at e; exact e
      · obtain rfl : b = a := by simpa using hb
        exact hal
      · obtain rfl : b = a := by simpa using hb
        simp
      · cases j with
        | zero =>
          obtain rfl : a = b := Option.some.inj e1
          obtain rfl : m = m2 := Option.some.inj e2
          exact ⟨by simp, b0, mr⟩
        | succ j => simp at e1
    have sl2 : SlL K B1 [a] (ss.map (to0 k) ++ es.map Sl.d) (vs ++ dvs) := by
      have h1 := slL_to0 ha hs r1
      have h2 := SlL.of_data (as := [a]) (hd B1)
      revert h1 h2
      generalize ss.map (to0 k) = ps
      generalize es.map Sl.d = qs
      intro h1 h2
      clear r1
      induction ps generalizing vs with
      | nil => rw [show vs = [] from h1]; exact h2
      | cons c ps ih =>
        obtain ⟨v, u, e, h3, h4⟩ := h1
        subst e
        exact ⟨v, _, rfl, h3, ih u h4⟩
    refine ⟨_, B1, [a], _, [m], .d z, [m'], hR, oc, sl2, ?_, fun v B' as' H' g p o' r' => ?_⟩
    · rw [List.length_append, r1.len, (hd B1).len]; exact hn
    · obtain ⟨tl, rfl⟩ := p
      have tl0 : tl = [] := by
        have := o'.len
        simp at this
        exact this
      subst tl0
      have F1 : Same F (fun b => if b = a then none else H1 b) := fun b u e => by
        have ne := ne_of_none e f0
        simp only [if_neg ne]
        exact o1.fb b u e
      have hh : ∀ b, b ≠ a → ∀ u, H1 b = some u → H' b = some u := fun b ne u e => o'.fb b u (by simp only [if_neg ne]; exact e)
      obtain ⟨_, bn, mr'⟩ := o'.own 0 a m' rfl rfl hg'
      have gF : Gr F B1 B' := ⟨g.1, fun b f n => g.2 b (Kp.same f F1) n⟩
      refine q v B' as1 H' (g1.trans gF) p1 ⟨fun b u e => o'.fb b u (F1 b u e), o'.bb, by rw [List.length_set]; exact o1.len, o1.nd, fun b hb => ?_, o1.fa, fun j b m2 e1 e2 hm2 => ?_⟩ r'
      · by_cases z : b = a
        · rw [z]; exact o'.al a (by simp)
        · cases e : H1 b with
          | none => exact absurd e (o1.al b hb)
          | some u => rw [hh b z u e]; exact fun z => nomatch z
      · by_cases z : k = j
        · subst z
          rw [ha] at e1
          obtain rfl : a = b := Option.some.inj e1
          rw [List.getElem?_set_self (List.getElem?_eq_some_iff.mp hm).1] at e2
          obtain rfl : m' = m2 := Option.some.inj e2
          exact ⟨f0, bn, mr'⟩
        · rw [List.getElem?_set_ne z] at e2
          have ne : b ≠ a := fun e => by
            subst e
            obtain ⟨l1, g1⟩ := List.getElem?_eq_some_iff.mp ha
            obtain ⟨l2, g2⟩ := List.getElem?_eq_some_iff.mp e1
            exact z (nodup_ix2 o1.nd l1 l2 (g1.trans g2.symm))
          obtain ⟨r1', r2', r3'⟩ := o1.own j b m2 e1 e2 hm2
          have hb := o1.al b (List.mem_of_getElem? e1)
          cases e : H1 b with
          | none => exact absurd e hb
          | some u => exact ⟨r1', g.2 b (by simp only [if_neg ne]; exact kp_mor hm2 r3') r2', MoR.mono g.1 ((hh b ne u e).trans e.symm) r3'⟩
end
end DJ
namespace DJ
open PySem PySem.Spec PyProof.Rows L2
/-! ### texts as lists of signs -/
theorem tx_len (a : List Nat) : (tx a).length = a.length := SX.S_len a
theorem tx_cat (a b : List Nat) : tx a ++ tx b = tx (a ++ b) := SX.S_cat a b
theorem tx_inj {a b : List Nat} (h : tx a = tx b) : a = b := SX.S_inj h
theorem tx_dec (a b : List Nat) : decide (V.str (tx a) = V.str (tx b)) = decide (a = b) := by
  by_cases e : a = b
  · subst e; simp
  · rw [decide_eq_false e, decide_eq_false (fun h => e (tx_inj (V.str.inj h)))]
/-- S stands at the head of l -/
abbrev pre (S l : List Nat) : Bool := TL.pre S l
theorem sub_tl (a b : List Nat) (i : Nat) : Builtin.Str.subAt (tx a) (tx b) i = ((a.drop i).take b.length == b) := by
  have h := StrLaws.subAt_eq (tx a) (tx b) i
  rw [tx_len] at h
  exact h
theorem starts_tx (a b : List Nat) : Txt.startswith (tx a) (tx b) = pre b a := by
  unfold Txt.startswith
  rw [sub_tl, tx_len, tx_len, Nat.zero_add, List.drop_zero]
  show (decide (b.length ≤ a.length) && (a.take b.length == b)) = (a.take b.length == b)
  by_cases h : b.length ≤ a.length
  · rw [decide_eq_true h, Bool.true_and]
  · rw [decide_eq_false h, Bool.false_and]
    refine (beq_eq_false_iff_ne.mpr fun e => h ?_).symm
    have := congrArg List.length e
    rw [List.length_take] at this
    omega
/-- b stands somewhere in a -/
def sub : List Nat → List Nat → Bool
  | b, [] => b == []
  | b, c :: r => pre b (c :: r) || sub b r
theorem sub_iff (b : List Nat) : ∀ a : List Nat, sub b a = true ↔ ∃ i, i + b.length ≤ a.length ∧ (a.drop i).take b.length = b
  | [] => by
    unfold sub
    constructor
    · intro h
      have e : b = [] := eq_of_beq h
      subst e
      exact ⟨0, Nat.le_refl _, rfl⟩
    · rintro ⟨i, h1, h2⟩
      have : b.length = 0 := by
        have h1 : i + b.length ≤ 0 := h1
        omega
      rw [List.length_eq_zero_iff.mp this] <;> rfl
  | c :: r => by
    unfold sub
    rw [Bool.or_eq_true, sub_iff b r]
    constructor
    · rintro (h | ⟨i, h1, h2⟩)
      · have e : (c :: r).take b.length = b := eq_of_beq h
        refine ⟨0, ?_, e⟩
        have := congrArg List.length e
        rw [List.length_take] at this
        omega
      · exact ⟨i + 1, by simp; omega, h2⟩
    · rintro ⟨i, h1, h2⟩
      cases i with
      | zero => exact .inl (by rw [List.drop_zero] at h2; show (List.take b.length (c :: r) == b) = true; rw [h2]; exact beq_self_eq_true b)
      | succ i => exact .inr ⟨i, by simp at h1; omega, h2⟩
theorem found_tx (a b : List Nat) : (!(Builtin.Str.occurrences (tx a) (tx b) 0 (tx a).length 1).isEmpty) = sub b a := by
  refine Bool.eq_iff_iff.mpr ?_
  rw [StrLaws.found_iff, sub_iff]
  constructor
  · rintro ⟨i, h1, h2⟩
    rw [tx_len, tx_len] at h1
    rw [sub_tl, beq_iff_eq] at h2
    exact ⟨i, h1, h2⟩
  · rintro ⟨i, h1, h2⟩
    exact ⟨i, by rw [tx_len, tx_len]; exact h1, by rw [sub_tl, beq_iff_eq]; exact h2⟩
/-- a slice -/
def cutL {α : Type} (l : List α) (lo hi : Option Int) : List α := (l.drop (HT.sIx l.length 0 lo)).take (HT.sIx l.length l.length hi - HT.sIx l.length 0 lo)
theorem cutS_tx (l : List Nat) (lo hi : Option Int) : cutS (tx l) lo hi = tx (cutL l lo hi) := by
  unfold cutS cutL
  rw [tx_len]
theorem cutL_len {α : Type} (l : List α) (lo hi : Option Int) : (cutL l lo hi).length ≤ l.length := by
  unfold cutL
  rw [List.length_take, List.length_drop]
  omega
theorem cutL_from {α : Type} (l : List α) (n : Nat) : cutL l (some (n : Int)) none = l.drop n := by
  unfold cutL
  have e : HT.sIx l.length 0 (some (n : Int)) = min n l.length := HT.sIx_nat _ _ n
  have e2 : HT.sIx l.length l.length none = l.length := rfl
  rw [e, e2]
  by_cases h : n ≤ l.length
  · rw [Nat.min_eq_left h]
    exact List.take_of_length_le (by rw [List.length_drop]; exact Nat.le_refl _)
  · rw [Nat.min_eq_right (by omega), List.drop_length, List.drop_eq_nil_of_le (by omega)]
    simp
theorem cutL_to {α : Type} (l : List α) (n : Nat) : cutL l none (some (n : Int)) = l.take n := by
  unfold cutL
  have e : HT.sIx l.length l.length (some (n : Int)) = min n l.length := HT.sIx_nat _ _ n
  have e2 : HT.sIx l.length 0 none = 0 := rfl
  rw [e, e2, List.drop_zero, Nat.sub_zero]
  by_cases h : n ≤ l.length
  · rw [Nat.min_eq_left h]
  · rw [Nat.min_eq_right (by omega), List.take_of_length_le (Nat.le_refl l.length), List.take_of_length_le (show l.length ≤ n by omega)]
theorem cutL_nat {α : Type} (l : List α) (a b : Nat) : cutL l (some (a : Int)) (some (b : Int)) = (l.drop a).take (b - a) := by
  unfold cutL
  have e : HT.sIx l.length 0 (some (a : Int)) = min a l.length := HT.sIx_nat _ _ a
  have e2 : HT.sIx l.length l.length (some (b : Int)) = min b l.length := HT.sIx_nat _ _ b
  rw [e, e2]
  by_cases h : a ≤ l.length
  · rw [Nat.min_eq_left h]
    refine List.ext_getElem? fun i => ?_
    rw [List.getElem?_take, List.getElem?_take, List.getElem?_drop]
    by_cases h1 : i < b - a
    · rw [if_pos h1]
      by_cases h2 : i < min b l.length - a
      · rw [if_pos h2]
      · rw [if_neg h2, List.getElem?_eq_none (by omega)]
    · rw [if_neg h1, if_neg (by omega)]
  · rw [Nat.min_eq_right (show l.length ≤ a by omega), List.drop_length, List.drop_eq_nil_of_le (show l.length ≤ a by omega)]
    simp
/-- strip -/
theorem strip_l (g : Nat → Bool) (l : List Nat) : Txt.stripBy g true false (tx l) = tx (l.dropWhile g) := by
  rw [PyProof.Rows.stripBy_eq]
  have e2 : stripHi g false (tx l) (stripLo g true (tx l)) = (tx l).length := by simp [stripHi]
  have e1 : stripLo g true (tx l) = (l.takeWhile g).length := by simp [stripLo]
  rw [e2, e1]
  refine TL.ext_tl ?_
  rw [TL.tl_strSub_end]
  show l.drop (l.takeWhile g).length = l.dropWhile g
  have e3 : l = l.takeWhile g ++ l.dropWhile g := (List.takeWhile_append_dropWhile).symm
  exact (by
    have : (l.takeWhile g ++ l.dropWhile g).drop (l.takeWhile g).length = l.dropWhile g := List.drop_left
    rw [← e3] at this
    exact this)
theorem drop_take_while (g : Nat → Bool) (l : List Nat) : l.drop (l.takeWhile g).length = l.dropWhile g := by
  have this : (l.takeWhile g ++ l.dropWhile g).drop (l.takeWhile g).length = l.dropWhile g := List.drop_left
  rw [List.takeWhile_append_dropWhile] at this
  exact this
theorem take_rev_while (g : Nat → Bool) (l : List Nat) : l.take (l.length - (l.reverse.takeWhile g).length) = (l.reverse.dropWhile g).reverse := by
  rw [← drop_take_while g l.reverse, List.drop_reverse, List.reverse_reverse]
theorem strip_r (g : Nat → Bool) (l : List Nat) : Txt.stripBy g false true (tx l) = tx (l.reverse.dropWhile g).reverse := by
  rw [PyProof.Rows.stripBy_eq]
  have e1 : stripLo g false (tx l) = 0 := by simp [stripLo]
  have e2 : stripHi g true (tx l) 0 = l.length - (l.reverse.takeWhile g).length := by simp [stripHi, Str.length]
  rw [e1, e2]
  refine TL.ext_tl ?_
  rw [TL.tl_strSub, List.drop_zero, Nat.sub_zero]
  exact take_rev_while g l
theorem strip_b (g : Nat → Bool) (l : List Nat) : Txt.stripBy g true true (tx l) = tx (((l.dropWhile g).reverse.dropWhile g).reverse) := by
  rw [PyProof.Rows.stripBy_eq]
  have e1 : stripLo g true (tx l) = (l.takeWhile g).length := by simp [stripLo]
  have e2 : stripHi g true (tx l) (l.takeWhile g).length = l.length - ((l.drop (l.takeWhile g).length).reverse.takeWhile g).length := by simp [stripHi, Str.length]
  rw [e1, e2, drop_take_while]
  refine TL.ext_tl ?_
  rw [TL.tl_strSub]
  show (l.drop _).take _ = _
  rw [drop_take_while]
  have h := take_rev_while g (l.dropWhile g)
  have hl : (l.dropWhile g).length = l.length - (l.takeWhile g).length := by rw [← drop_take_while, List.length_drop]
  rw [hl] at h
  rw [show l.length - ((l.dropWhile g).reverse.takeWhile g).length - (l.takeWhile g).length = l.length - (l.takeWhile g).length - ((l.dropWhile g).reverse.takeWhile g).length by omega]
  exact h
def inL (b : List Nat) (c : Nat) : Bool := decide (c ∈ b)
theorem cont_tx (b : List Nat) : (tx b).cps.contains = inL b := by
  funext c
  show b.toArray.contains c = decide (c ∈ b)
  rw [Bool.eq_iff_iff]
  simp
def lstripL (b l : List Nat) : List Nat := l.dropWhile (inL b)
def rstripL (b l : List Nat) : List Nat := (l.reverse.dropWhile (inL b)).reverse
def stripL (b l : List Nat) : List Nat := rstripL b (lstripL b l)
theorem lstrip_tx (a b : List Nat) : Txt.lstripChars (tx a) (tx b) = tx (lstripL b a) := by
  unfold Txt.lstripChars lstripL
  rw [cont_tx, strip_l]
theorem rstrip_tx (a b : List Nat) : Txt.rstripChars (tx a) (tx b) = tx (rstripL b a) := by
  unfold Txt.rstripChars rstripL
  rw [cont_tx, strip_r]
theorem strip_tx (a b : List Nat) : Txt.stripChars (tx a) (tx b) = tx (stripL b a) := by
  unfold Txt.stripChars stripL rstripL lstripL
  rw [cont_tx, strip_b]
/-- partition -/
def partL (b a : List Nat) : List Nat × List Nat × List Nat := match TL.par b [] a with
  | some (p, q) => (p, b, q)
  | none => (a, [], [])
theorem part_tx (a b : List Nat) (h : b ≠ []) : Txt.partition (tx a) (tx b) = (tx (partL b a).1, tx (partL b a).2.1, tx (partL b a).2.2) := by
  unfold partL
  cases e : TL.par b [] a with
  | none => exact SX.partition_none h e
  | some r =>
    obtain ⟨p, q⟩ := r
    exact SX.partition_some h e
/-- x.replace(c, d), one sign each -/
theorem repl_tx (a y z : List Nat) (hy : 1 ≤ y.length) : Txt.replace (tx a) (tx y) (tx z) = tx (StrLaws.replL y z a) := by
  refine TL.ext_tl ?_
  exact StrLaws.replace_list (by rw [tx_len]; exact hy)
/-! ### operations -/
section
variable {K : PySem.W.Frag} {G : List (Option Sl)} {M M1 M2 M3 : List MO} {s : Sl} {ta tb te : TE} {tr : TA} {t u : TT} {x y z : Dt} {r : R2} {b : Bool} {i j : Int} {l m : List Nat}
theorem ro_of {g : V} (h : ∀ (H : Hp) (v u : V) (K' : PySem.W.Frag) (B : Hp) (Q : VK), Rp K' B x v → Rp K' B y u → Q g H → r v u H Q) (hz : ∀ K' B, Rp K' B z g) : RO K r x y z := fun F B as M H v u Q ow r1 r2 q =>
  h H v u K B Q r1 r2 (q g B H (Gr.refl F B) ow (hz K B))
theorem ro_I0 {g : Int → Int → V} {z : Dt} (hz : ∀ K' B, Rp K' B z (g i j)) : RO K (rI0 g) (.int i) (.int j) z := ro_of (fun H v u _ _ Q h1 h2 q => ⟨i, j, h1, h2, q⟩) hz
theorem ro_I {C : Int → Int → Prop} {g : Int → Int → V} {z : Dt} (hc : C i j) (hz : ∀ K' B, Rp K' B z (g i j)) : RO K (rI C g) (.int i) (.int j) z := ro_of (fun H v u _ _ Q h1 h2 q => ⟨i, j, h1, h2, hc, q⟩) hz
theorem ro_add : RO K (rI0 fun i j => .int (i + j)) (.int i) (.int j) (.int (i + j)) := ro_I0 fun _ _ => rfl
theorem ro_sub : RO K (rI0 fun i j => .int (i - j)) (.int i) (.int j) (.int (i - j)) := ro_I0 fun _ _ => rfl
theorem ro_mul (h : CMul i j) : RO K (rI CMul fun i j => .int (i * j)) (.int i) (.int j) (.int (i * j)) := ro_I h fun _ _ => rfl
theorem ro_mulX (h : CMulX i j) : RO K (rI CMulX fun i j => .int (i * j)) (.int i) (.int j) (.int (i * j)) := ro_I h fun _ _ => rfl
theorem ro_mod (h : 0 < j) : RO K (rI (fun _ j => 0 < j) fun i j => .int (i % j)) (.int i) (.int j) (.int (i % j)) := ro_I h fun _ _ => rfl
theorem ro_fdivN (h : CDivN i j) : RO K (rI CDivN fun i j => .int (i.fdiv j)) (.int i) (.int j) (.int (i.fdiv j)) := ro_I h fun _ _ => rfl
theorem ro_pow (h : CPow i j) : RO K (rI CPow fun i j => .int (i ^ j.toNat)) (.int i) (.int j) (.int (i ^ j.toNat)) := ro_I h fun _ _ => rfl
theorem ro_lt : RO K (rI0 fun i j => .bl (decide (i < j))) (.int i) (.int j) (.bl (decide (i < j))) := ro_I0 fun _ _ => rfl
theorem ro_le : RO K (rI0 fun i j => .bl (decide (i ≤ j))) (.int i) (.int j) (.bl (decide (i ≤ j))) := ro_I0 fun _ _ => rfl
theorem ro_gt : RO K (rI0 fun i j => .bl (decide (j < i))) (.int i) (.int j) (.bl (decide (j < i))) := ro_I0 fun _ _ => rfl
theorem ro_ge : RO K (rI0 fun i j => .bl (decide (j ≤ i))) (.int i) (.int j) (.bl (decide (j ≤ i))) := ro_I0 fun _ _ => rfl
theorem ru_neg : RU K (rU fun i => .int (-i)) (.int i) (.int (-i)) := fun F B as M H v Q ow r q => ⟨i, r, q _ B H (Gr.refl F B) ow rfl⟩
/-- == of scalars -/
def scD : Dt → Dt → Option Bool
  | .int i, .int j => some (decide (i = j))
  | .str a, .str b => some (decide (a = b))
  | .bl a, .bl b => some (decide (a = b))
  | .non, .non => some true
  | .non, .str _ => some false
  | .str _, .non => some false
  | _, _ => none
theorem ro_eqS : RO K rEq (.str l) (.str m) (.bl (decide (l = m))) := fun F B as M H v u Q ow r1 r2 q => by
  subst r1; subst r2
  exact ⟨rfl, q _ B H (Gr.refl F B) ow (by rw [tx_dec] <;> rfl)⟩
theorem ro_neS : RO K rNe (.str l) (.str m) (.bl (!decide (l = m))) := fun F B as M H v u Q ow r1 r2 q => by
  subst r1; subst r2
  exact ⟨rfl, q _ B H (Gr.refl F B) ow (by rw [tx_dec] <;> rfl)⟩
theorem ro_eqI : RO K rEq (.int i) (.int j) (.bl (decide (i = j))) := fun F B as M H v u Q ow r1 r2 q => by
  subst r1; subst r2
  exact ⟨rfl, q _ B H (Gr.refl F B) ow (by
    by_cases e : i = j
    · subst e; simp [Rp]
    · rw [decide_eq_false (fun h => e (V.int.inj h)), decide_eq_false e] <;> rfl)⟩
theorem ro_neI : RO K rNe (.int i) (.int j) (.bl (!decide (i = j))) := fun F B as M H v u Q ow r1 r2 q => by
  subst r1; subst r2
  exact ⟨rfl, q _ B H (Gr.refl F B) ow (by
    by_cases e : i = j
    · subst e; simp [Rp]
    · rw [decide_eq_false (fun h => e (V.int.inj h)), decide_eq_false e] <;> rfl)⟩
/-- an optional text -/
def oS : Option (List Nat) → Dt
  | some l => .str l
  | none => .non
theorem ro_eqO {p q : Option (List Nat)} : RO K rEq (oS p) (oS q) (.bl (decide (p = q))) := fun F B as M H v u Q ow r1 r2 k => by
  cases p with
  | none =>
    cases q with
    | none =>
      have r1 : v = .non := r1
      have r2 : u = .non := r2
      subst r1; subst r2
      exact ⟨rfl, k _ B H (Gr.refl F B) ow (by simp [Rp])⟩
    | some m =>
      have r1 : v = .non := r1
      have r2 : u = .str (tx m) := r2
      subst r1; subst r2
      exact ⟨rfl, k _ B H (Gr.refl F B) ow (by simp [Rp])⟩
  | some l =>
    cases q with
    | none =>
      have r1 : v = .str (tx l) := r1
      have r2 : u = .non := r2
      subst r1; subst r2
      exact ⟨rfl, k _ B H (Gr.refl F B) ow (by simp [Rp])⟩
    | some m =>
      have r1 : v = .str (tx l) := r1
      have r2 : u = .str (tx m) := r2
      subst r1; subst r2
      refine ⟨rfl, k _ B H (Gr.refl F B) ow ?_⟩
      show V.bl _ = V.bl _
      rw [tx_dec]
      congr 1
      by_cases e : l = m
      · subst e; simp
      · simp [e]
theorem ro_neO {p q : Option (List Nat)} : RO K rNe (oS p) (oS q) (.bl (!decide (p = q))) := fun F B as M H v u Q ow r1 r2 k => by
  obtain ⟨h1, w, h2⟩ : scal v u = true ∧ True ∧ decide (v = u) = decide (p = q) := by
    have e := ro_eqO (K := K) (p := p) (q := q) F B as M H v u (fun w _ => w = .bl (decide (p = q))) ow r1 r2 (fun w B' H' g o' r' => r')
    exact ⟨e.1, trivial, V.bl.inj e.2⟩
  refine ⟨h1, k _ B H (Gr.refl F B) ow ?_⟩
  rw [h2] <;> rfl
theorem ro_isN {p : Option (List Nat)} : RO K (fun x y H Q => y = .non ∧ Q (.bl (decide (x = .non))) H) (oS p) .non (.bl (decide (p = none))) := fun F B as M H v u Q ow r1 r2 k => by
  cases p with
  | none =>
    have r1 : v = .non := r1
    subst r1
    exact ⟨r2, k _ B H (Gr.refl F B) ow (by simp [Rp])⟩
  | some l =>
    have r1 : v = .str (tx l) := r1
    subst r1
    exact ⟨r2, k _ B H (Gr.refl F B) ow (by simp [Rp])⟩
theorem ro_notN {p : Option (List Nat)} : RO K (fun x y H Q => y = .non ∧ Q (.bl (!decide (x = .non))) H) (oS p) .non (.bl (!decide (p = none))) := fun F B as M H v u Q ow r1 r2 k => by
  cases p with
  | none =>
    have r1 : v = .non := r1
    subst r1
    exact ⟨r2, k _ B H (Gr.refl F B) ow (by simp [Rp])⟩
  | some l =>
    have r1 : v = .str (tx l) := r1
    subst r1
    exact ⟨r2, k _ B H (Gr.refl F B) ow (by simp [Rp])⟩
/-- texts -/
theorem ro_addS (h : l.length + m.length ≤ 1000000) : RO K (fun x y H Q => ∃ i j, x = .str i ∧ y = .str j ∧ i.length + j.length ≤ sizeLine ∧ Q (.str (i ++ j)) H) (.str l) (.str m) (.str (l ++ m)) := fun F B as M H v u Q ow r1 r2 q =>
  ⟨tx l, tx m, r1, r2, by rw [tx_len, tx_len]; exact Nat.le_trans h (by decide), q _ B H (Gr.refl F B) ow (by rw [tx_cat] <;> rfl)⟩
theorem ro_inS : RO K (fun x y H Q => ∃ i j, x = .str i ∧ y = .str j ∧ Q (.bl (!(Builtin.Str.occurrences j i 0 j.length 1).isEmpty)) H) (.str l) (.str m) (.bl (sub l m)) := fun F B as M H v u Q ow r1 r2 q =>
  ⟨tx l, tx m, r1, r2, q _ B H (Gr.refl F B) ow (by rw [found_tx] <;> rfl)⟩
theorem ro_ninS : RO K (fun x y H Q => ∃ i j, x = .str i ∧ y = .str j ∧ Q (.bl (!(!(Builtin.Str.occurrences j i 0 j.length 1).isEmpty))) H) (.str l) (.str m) (.bl (!sub l m)) := fun F B as M H v u Q ow r1 r2 q =>
  ⟨tx l, tx m, r1, r2, q _ B H (Gr.refl F B) ow (by rw [found_tx] <;> rfl)⟩
theorem ro_leS : RO K (fun x y H Q => ∃ i j, x = .str i ∧ y = .str j ∧ Q (.bl (!decide (j.cps.toList < i.cps.toList))) H) (.str l) (.str m) (.bl (!decide (m < l))) := fun F B as M H v u Q ow r1 r2 q =>
  ⟨tx l, tx m, r1, r2, q _ B H (Gr.refl F B) ow rfl⟩
/-- x in a tuple of texts -/
theorem flat_strs : ∀ xs : List (List Nat), ((xs.map tx).map V.str).all flatV = true
  | [] => rfl
  | x :: xs => by rw [List.map_cons, List.map_cons, List.all_cons, flat_strs xs] <;> rfl
theorem inV_strs (l : List Nat) : ∀ xs : List (List Nat), inV (.str (tx l)) ((xs.map tx).map V.str) = decide (l ∈ xs)
  | [] => rfl
  | x :: xs => by
    show (eqV (.str (tx x)) (.str (tx l)) || inV (.str (tx l)) ((xs.map tx).map V.str)) = _
    rw [inV_strs l xs]
    show ((tx x == tx l) || _) = _
    by_cases e : l = x
    · subst e; simp
    · have : (tx x == tx l) = false := beq_eq_false_iff_ne.mpr fun h => e (tx_inj h).symm
      rw [this, Bool.false_or]
      simp [e]
theorem inV_non : ∀ xs : List (List Nat), inV .non ((xs.map tx).map V.str) = false
  | [] => rfl
  | x :: xs => inV_non xs
theorem ro_inT {xs : List (List Nat)} : RO K (rIn K false) (.str l) (.tup (xs.map Dt.str)) (.bl (decide (l ∈ xs))) := fun F B as M H v u Q ow r1 r2 q => by
  obtain ⟨a, vs, e, h1, h2⟩ := r2
  have e2 := h2.strs
  subst e2; subst e
  have r1 : v = .str (tx l) := r1
  subst r1
  refine ⟨a, _, rfl, .inr (same_t ow.bb h1), rfl, flat_strs xs, q _ B H (Gr.refl F B) ow ?_⟩
  show V.bl (inV _ _) = _
  rw [inV_strs]
theorem ro_ninT {xs : List (List Nat)} : RO K (rIn K true) (.str l) (.tup (xs.map Dt.str)) (.bl (!decide (l ∈ xs))) := fun F B as M H v u Q ow r1 r2 q => by
  obtain ⟨a, vs, e, h1, h2⟩ := r2
  have e2 := h2.strs
  subst e2; subst e
  have r1 : v = .str (tx l) := r1
  subst r1
  refine ⟨a, _, rfl, .inr (same_t ow.bb h1), rfl, flat_strs xs, q _ B H (Gr.refl F B) ow ?_⟩
  show V.bl (!inV _ _) = _
  rw [inV_strs]
theorem ro_inOT {p : Option (List Nat)} {xs : List (List Nat)} : RO K (rIn K false) (oS p) (.tup (xs.map Dt.str)) (.bl (decide (p ∈ xs.map some))) := by
  cases p with
  | some l =>
    have h : decide (some l ∈ xs.map some) = decide (l ∈ xs) := by simp
    rw [h]
    exact ro_inT
  | none =>
    exact fun F B as M H v u Q ow r1 r2 q => by
      obtain ⟨a, vs, e, h1, h2⟩ := r2
      have e2 := h2.strs
      subst e2; subst e
      have r1 : v = .non := r1
      subst r1
      refine ⟨a, _, rfl, .inr (same_t ow.bb h1), rfl, flat_strs xs, q _ B H (Gr.refl F B) ow ?_⟩
      show V.bl (inV _ _) = _
      rw [inV_non]
      simp
/-- slices of texts -/
theorem eo_none : EvO K tNoPart G M none M := fun F B as σ H ow sl Q q => q B as H (Gr.refl F B) (Px.refl as) ow
theorem eo_some (h : EvE K te G M (.d (.int i)) M1) : EvO K (tPart te) G M (some i) M1 := fun F B as σ H ow sl Q q =>
  h F B as σ H ow sl _ fun v B1 as1 H1 g p o r => ⟨i, r, q B1 as1 H1 g p o⟩
theorem ev_slS {tl th : TO} {lo hi : Option Int} (h : EvE K te G M (.d (.str l)) M1) (h1 : EvO K tl G M1 lo M2) (h2 : EvO K th G M2 hi M3) (hz : l.length ≤ 1000000) : EvE K (tSl rSlS te tl th) G M (.d (.str (cutL l lo hi))) M3 := fun F B as σ H ow sl Q q =>
  h F B as σ H ow sl _ fun v B1 as1 H1 g1 p1 o1 r1 => h1 F B1 as1 σ H1 o1 (sl.mono g1.1 p1) _ fun B2 as2 H2 g2 p2 o2 => h2 F B2 as2 σ H2 o2 ((sl.mono g1.1 p1).mono g2.1 p2) _ fun B3 as3 H3 g3 p3 o3 =>
    ⟨tx l, r1, by rw [tx_len]; exact Nat.le_trans hz (by decide), q _ B3 as3 H3 (g1.trans (g2.trans g3)) (p1.trans (p2.trans p3)) o3 (by rw [cutS_tx] <;> rfl)⟩
/-- methods of texts -/
theorem ev_m0 {rm : V → List V → Hp → VK → Prop} (ha : EvE K ta G M (.d (.str l)) M1) (hr : RM K rm (.str l) [] z) : EvE K (tM0 rm ta) G M (.d z) M1 := fun F B as σ H ow sl Q q =>
  ha F B as σ H ow sl _ fun v B1 as1 H1 g1 p1 o1 r1 => ⟨⟨tx l, r1⟩, hr F B1 as1 M1 H1 v [] Q o1 r1 rfl fun w B2 H2 g2 o2 r2 => q w B2 as1 H2 (g1.trans g2) p1 o2 r2⟩
theorem ev_m1 {rm : V → List V → Hp → VK → Prop} (ha : EvE K ta G M (.d (.str l)) M1) (hb : EvE K tb G M1 (.d y) M2) (hr : RM K rm (.str l) [y] z) : EvE K (tM1 rm ta tb) G M (.d z) M2 := fun F B as σ H ow sl Q q =>
  ha F B as σ H ow sl _ fun v B1 as1 H1 g1 p1 o1 r1 => ⟨⟨tx l, r1⟩, hb F B1 as1 σ H1 o1 (sl.mono g1.1 p1) _ fun u B2 as2 H2 g2 p2 o2 r2 =>
    hr F B2 as2 M2 H2 v [u] Q o2 (Rp.mono g2.1 _ _ r1) (RpL.one r2) fun w B3 H3 g3 o3 r3 => q w B3 as2 H3 (g1.trans (g2.trans g3)) (p1.trans p2) o3 r3⟩
theorem two_str {K : PySem.W.Frag} {B : Hp} {m : List Nat} {vs : List V} (h : RpL K B [.str m] vs) : vs = [.str (tx m)] := by
  obtain ⟨v, r, e, h1, h2⟩ := h
  rw [e, show v = _ from h1, show r = [] from h2]
theorem rm_starts : RM K (fun x xs H Q => ∃ a b, x = .str a ∧ xs = [.str b] ∧ Q (.bl (Txt.startswith a b)) H) (.str l) [.str m] (.bl (pre m l)) := fun F B as M H v vs Q ow r1 r2 q =>
  ⟨tx l, tx m, r1, two_str r2, q _ B H (Gr.refl F B) ow (by rw [starts_tx] <;> rfl)⟩
theorem rm_lstrip (h : l.length ≤ 1000000) : RM K (fun x xs H Q => ∃ a b, x = .str a ∧ xs = [.str b] ∧ a.length ≤ sizeLine ∧ Q (.str (Txt.lstripChars a b)) H) (.str l) [.str m] (.str (lstripL m l)) := fun F B as M H v vs Q ow r1 r2 q =>
  ⟨tx l, tx m, r1, two_str r2, by rw [tx_len]; exact Nat.le_trans h (by decide), q _ B H (Gr.refl F B) ow (by rw [lstrip_tx] <;> rfl)⟩
theorem rm_rstrip (h : l.length ≤ 1000000) : RM K (fun x xs H Q => ∃ a b, x = .str a ∧ xs = [.str b] ∧ a.length ≤ sizeLine ∧ Q (.str (Txt.rstripChars a b)) H) (.str l) [.str m] (.str (rstripL m l)) := fun F B as M H v vs Q ow r1 r2 q =>
  ⟨tx l, tx m, r1, two_str r2, by rw [tx_len]; exact Nat.le_trans h (by decide), q _ B H (Gr.refl F B) ow (by rw [rstrip_tx] <;> rfl)⟩
theorem rm_strip (h : l.length ≤ 1000000) : RM K (fun x xs H Q => ∃ a b, x = .str a ∧ xs = [.str b] ∧ a.length ≤ sizeLine ∧ Q (.str (Txt.stripChars a b)) H) (.str l) [.str m] (.str (stripL m l)) := fun F B as M H v vs Q ow r1 r2 q =>
  ⟨tx l, tx m, r1, two_str r2, by rw [tx_len]; exact Nat.le_trans h (by decide), q _ B H (Gr.refl F B) ow (by rw [strip_tx] <;> rfl)⟩
theorem rm_upper (h : l.length ≤ 1000000) (ha : l.all (· < 128) = true) : RM K (fun x xs H Q => ∃ a, x = .str a ∧ xs = [] ∧ a.length ≤ 5592405 ∧ Q (.str (Txt.upper a)) H) (.str l) [] (.str (l.map PyProof.Rows.up1)) := fun F B as M H v vs Q ow r1 r2 q =>
  ⟨tx l, r1, r2, by rw [tx_len]; exact Nat.le_trans h (by decide), q _ B H (Gr.refl F B) ow (by show V.str _ = V.str _; congr 1; exact SX.upper_S ha)⟩
theorem rm_part (h : l.length ≤ 1000000) (hm : m ≠ []) : RM K (fun x xs H Q => ∃ a b, x = .str a ∧ xs = [.str b] ∧ (b.length == 0) = false ∧ a.length ≤ sizeLine ∧
    ∀ p, H p = none → Q (.ref p) (upd H p (.tup [.str (Txt.partition a b).1, .str (Txt.partition a b).2.1, .str (Txt.partition a b).2.2]))) (.str l) [.str m] (.tup [.str (partL m l).1, .str (partL m l).2.1, .str (partL m l).2.2]) := fun F B as M H v vs Q ow r1 r2 q =>
  ⟨tx l, tx m, r1, two_str r2, by rw [tx_len]; exact beq_eq_false_iff_ne.mpr (fun e => hm (List.length_eq_zero_iff.mp e)), by rw [tx_len]; exact Nat.le_trans h (by decide), fun p hp => by
    rw [part_tx l m hm]
    exact q _ _ _ (ow.gr hp _) (ow.new hp _) ⟨p, _, rfl, .inl (.inl upd_same), _, _, rfl, rfl, _, _, rfl, rfl, _, _, rfl, rfl, rfl⟩⟩
theorem sum_lens (xs : List (List Nat)) : ((xs.map tx).map (·.length)).sum = (xs.map (·.length)).sum := by
  rw [List.map_map]
  congr 1
theorem rm_join {xs : List (List Nat)} (h : (xs.map (·.length)).sum + xs.length * l.length ≤ 1000000) : RM K (fun x xs H Q => ∃ a p, ∃ ys : List Str, x = .str a ∧ xs = [.ref p] ∧ (SqL K H p (ys.map V.str) ∨ SqT K H p (ys.map V.str)) ∧
    (ys.map (·.length)).sum + ys.length * a.length ≤ 16777216 ∧ Q (.str (Txt.join a ys)) H) (.str l) [.lst (xs.map Dt.str)] (.str (TL.joinL l xs)) := fun F B as M H v vs Q ow r1 r2 q => by
  obtain ⟨v1, rr, e, h1, h2⟩ := r2
  obtain ⟨a, us, e1, h3, h4⟩ := h1
  have e2 := h4.strs
  subst e2; subst e1
  have h2 : rr = [] := h2
  subst h2
  refine ⟨tx l, a, xs.map tx, r1, e, .inl (ow.bb.seq h3), ?_, q _ B H (Gr.refl F B) ow ?_⟩
  · rw [sum_lens, List.length_map, tx_len]
    exact Nat.le_trans h (by decide)
  · show V.str _ = V.str _
    congr 1
    exact SX.join_S l xs
/-- calls of built-ins -/
theorem rc_lenS (h : l.length ≤ 1000000) : RC K (fun xs H Q => ∃ z, xs = [.str z] ∧ z.length ≤ sizeLine ∧ Q (.int z.length) H) [.str l] (.int (l.length : Nat)) := fun F B as M H vs Q ow r q =>
  ⟨tx l, two_str r, by rw [tx_len]; exact Nat.le_trans h (by decide), q _ B H (Gr.refl F B) ow (by rw [tx_len] <;> rfl)⟩
theorem rc_lenL {xs : List Dt} : RC K (fun xs H Q => ∃ p ys, xs = [.ref p] ∧ (SqL K H p ys ∨ SqT K H p ys) ∧ Q (.int ys.length) H) [.lst xs] (.int (xs.length : Nat)) := fun F B as M H vs Q ow r q => by
  obtain ⟨v1, rr, e, h1, h2⟩ := r
  obtain ⟨a, us, e1, h3, h4⟩ := h1
  have h2 : rr = [] := h2
  subst h2; subst e1
  exact ⟨a, us, e, .inl (ow.bb.seq h3), q _ B H (Gr.refl F B) ow (by rw [h4.len] <;> rfl)⟩
theorem rc_lenT {xs : List Dt} : RC K (fun xs H Q => ∃ p ys, xs = [.ref p] ∧ (SqL K H p ys ∨ SqT K H p ys) ∧ Q (.int ys.length) H) [.tup xs] (.int (xs.length : Nat)) := fun F B as M H vs Q ow r q => by
  obtain ⟨v1, rr, e, h1, h2⟩ := r
  obtain ⟨a, us, e1, h3, h4⟩ := h1
  have h2 : rr = [] := h2
  subst h2; subst e1
  exact ⟨a, us, e, .inr (same_t ow.bb h3), q _ B H (Gr.refl F B) ow (by rw [h4.len] <;> rfl)⟩
theorem one_int {K : PySem.W.Frag} {B : Hp} {i : Int} {vs : List V} (h : RpL K B [.int i] vs) : vs = [.int i] := by
  obtain ⟨v, r, e, h1, h2⟩ := h
  rw [e, show v = _ from h1, show r = [] from h2]
theorem two_int {K : PySem.W.Frag} {B : Hp} {i j : Int} {vs : List V} (h : RpL K B [.int i, .int j] vs) : vs = [.int i, .int j] := by
  obtain ⟨v, r, e, h1, w, r2, e2, h2, h3⟩ := h
  rw [e, e2, show v = _ from h1, show w = _ from h2, show r2 = [] from h3]
theorem rc_int1 : RC K (fun xs H Q => (∃ i, xs = [.int i] ∧ Q (.int i) H) ∨ ∃ k, xs = [.bl k] ∧ Q (.int (if k then 1 else 0)) H) [.int i] (.int i) := fun F B as M H vs Q ow r q =>
  .inl ⟨i, one_int r, q _ B H (Gr.refl F B) ow rfl⟩
theorem rc_intB : RC K (fun xs H Q => (∃ i, xs = [.int i] ∧ Q (.int i) H) ∨ ∃ k, xs = [.bl k] ∧ Q (.int (if k then 1 else 0)) H) [.bl b] (.int (if b then 1 else 0)) := fun F B as M H vs Q ow r q =>
  .inr ⟨b, by
    obtain ⟨v, r, e, h1, h2⟩ := r
    rw [e, show v = _ from h1, show r = [] from h2], q _ B H (Gr.refl F B) ow rfl⟩
theorem rc_abs : RC K (fun xs H Q => ∃ i, xs = [.int i] ∧ Q (.int (if i < 0 then -i else i)) H) [.int i] (.int (if i < 0 then -i else i)) := fun F B as M H vs Q ow r q => ⟨i, one_int r, q _ B H (Gr.refl F B) ow rfl⟩
theorem rc_max2 : RC K (fun xs H Q => ∃ i j, xs = [.int i, .int j] ∧ Q (.int (if j > i then j else i)) H) [.int i, .int j] (.int (if j > i then j else i)) := fun F B as M H vs Q ow r q => ⟨i, j, two_int r, q _ B H (Gr.refl F B) ow rfl⟩
theorem rc_min2 : RC K (fun xs H Q => ∃ i j, xs = [.int i, .int j] ∧ Q (.int (if j < i then j else i)) H) [.int i, .int j] (.int (if j < i then j else i)) := fun F B as M H vs Q ow r q => ⟨i, j, two_int r, q _ B H (Gr.refl F B) ow rfl⟩
theorem rc_all {bs : List Bool} : RC K (rAll K) [.lst (bs.map Dt.bl)] (.bl (bs.all id)) := fun F B as M H vs Q ow r q => by
  obtain ⟨v1, rr, e, h1, h2⟩ := r
  obtain ⟨a, us, e1, h3, h4⟩ := h1
  have e2 := h4.bls
  have h2 : rr = [] := h2
  subst h2; subst e2; subst e1
  exact ⟨a, bs, e, ow.bb.seq h3, q _ B H (Gr.refl F B) ow rfl⟩
theorem rc_any {bs : List Bool} : RC K (rAny K) [.lst (bs.map Dt.bl)] (.bl (bs.any id)) := fun F B as M H vs Q ow r q => by
  obtain ⟨v1, rr, e, h1, h2⟩ := r
  obtain ⟨a, us, e1, h3, h4⟩ := h1
  have e2 := h4.bls
  have h2 : rr = [] := h2
  subst h2; subst e2; subst e1
  exact ⟨a, bs, e, ow.bb.seq h3, q _ B H (Gr.refl F B) ow rfl⟩
/-- items -/
theorem at_rp {K : PySem.W.Frag} {B : Hp} {xs : List Dt} {vs : List V} {i : Int} (r : RpL K B xs vs) (h : atI xs i = some x) : ∃ v, atI vs i = some v ∧ Rp K B x v := by
  unfold atI at h ⊢
  rw [r.len]
  cases e : ixN xs.length i with
  | none => rw [e] at h; cases h
  | some j =>
    rw [e] at h
    exact r.get h
theorem ro_ixL {xs : List Dt} (h : atI xs i = some x) : RO K (rIxL K) (.lst xs) (.int i) x := fun F B as M H v u Q ow r1 r2 q => by
  obtain ⟨a, us, e1, h3, h4⟩ := r1
  obtain ⟨w, hw, hr⟩ := at_rp h4 h
  exact ⟨a, us, i, w, e1, r2, ow.bb.seq h3, hw, q w B H (Gr.refl F B) ow hr⟩
theorem ro_ixT {xs : List Dt} (h : atI xs i = some x) : RO K (rIxT K) (.tup xs) (.int i) x := fun F B as M H v u Q ow r1 r2 q => by
  obtain ⟨a, us, e1, h3, h4⟩ := r1
  obtain ⟨w, hw, hr⟩ := at_rp h4 h
  exact ⟨a, us, i, w, e1, r2, same_t ow.bb h3, hw, q w B H (Gr.refl F B) ow hr⟩
theorem ro_ixS {c : Nat} (hl : l.length ≤ 1000000) (h : atI l i = some c) : RO K rIxS (.str l) (.int i) (.str [c]) := fun F B as M H v u Q ow r1 r2 q =>
  ⟨tx l, i, c, r1, r2, by rw [tx_len]; exact Nat.le_trans hl (by decide), h, q _ B H (Gr.refl F B) ow rfl⟩
/-- of what is owned -/
theorem ev_ixO {k : Nat} {xs : List Dt} (ha : EvE K ta G M (.o k) M1) (hb : EvE K tb G M1 (.d (.int i)) M2) (hm : M2[k]? = some (.lst xs)) (h : atI xs i = some x) : EvE K (tOp (rIxL K) ta tb) G M (.d x) M2 := fun F B as σ H ow sl Q q =>
  ha F B as σ H ow sl _ fun v B1 as1 H1 g1 p1 o1 r1 => hb F B1 as1 σ H1 o1 (sl.mono g1.1 p1) _ fun u B2 as2 H2 g2 p2 o2 r2 => by
    obtain ⟨a, ha, rfl⟩ := r1
    obtain ⟨_, _, vs, hv, hr⟩ := o2.own k a _ (p2.get ha) hm (fun z => nomatch z)
    obtain ⟨w, hw, hx⟩ := at_rp hr h
    exact ⟨a, vs, i, w, rfl, r2, .inl (.inl hv), hw, q w B2 as2 H2 (g1.trans g2) (p1.trans p2) o2 hx⟩
theorem ev_lenO {k : Nat} {xs : List Dt} (ha : EvE K ta G M (.o k) M1) (hm : M1[k]? = some (.lst xs)) : EvE K (tCB (fun xs H Q => ∃ p ys, xs = [.ref p] ∧ (SqL K H p ys ∨ SqT K H p ys) ∧ Q (.int ys.length) H) (tCons ta tNil)) G M (.d (.int (xs.length : Nat))) M1 := fun F B as σ H ow sl Q q =>
  ha F B as σ H ow sl _ fun v B1 as1 H1 g1 p1 o1 r1 => by
    obtain ⟨a, ha, rfl⟩ := r1
    obtain ⟨_, _, vs, hv, hr⟩ := o1.own k a _ ha hm (fun z => nomatch z)
    exact ⟨a, vs, rfl, .inl (.inl (.inl hv)), q _ B1 as1 H1 g1 p1 o1 (by rw [hr.len] <;> rfl)⟩
theorem es_setO {to ti : TE} {k j : Nat} {xs : List Dt} (h : EvE K te G M (.d x) M1) (ho : EvE K to G M1 (.o k) M2) (hi : EvE K ti G M2 (.d (.int i)) M3) (hm : M3[k]? = some (.lst xs)) (hj : ixN xs.length i = some j) :
    EvS K (tAsg te (gSub to ti rSetL)) G M (.nx G (M3.set k (.lst (xs.set j x)))) := fun F B as σ H ow sl D gd =>
  h F B as σ H ow sl _ fun v B1 as1 H1 g1 p1 o1 r1 => ho F B1 as1 σ H1 o1 (sl.mono g1.1 p1) _ fun w B2 as2 H2 g2 p2 o2 r2 => hi F B2 as2 σ H2 o2 ((sl.mono g1.1 p1).mono g2.1 p2) _ fun u B3 as3 H3 g3 p3 o3 r3 => by
    obtain ⟨a, ha, rfl⟩ := r2
    have ha := p3.get ha
    obtain ⟨_, _, vs, hv, hr⟩ := o3.own k a _ ha hm (fun z => nomatch z)
    refine ⟨a, vs, i, j, rfl, r3, hv, by rw [hr.len]; exact hj, gd B3 as3 σ _ (g1.trans (g2.trans g3)) (p1.trans (p2.trans p3)) (o3.put ha hm (fun z => nomatch z) ⟨_, upd_same, RpL.set (Rp.mono (g2.1.trans g3.1) _ _ r1) j hr⟩) (((sl.mono g1.1 p1).mono g2.1 p2).mono g3.1 p3)⟩
theorem es_appO {to : TE} {k : Nat} {xs : List Dt} (ho : EvE K to G M (.o k) M1) (h : EvE K te G M1 (.d x) M2) (hk : ∃ ys, M1[k]? = some (.lst ys)) (hm : M2[k]? = some (.lst xs)) (hz : xs.length < 1000000) :
    EvS K (tDrop (tBM K "list" rAppend to (tCons te tNil))) G M (.nx G (M2.set k (.lst (xs ++ [x])))) := fun F B as σ H ow sl D gd =>
  ho F B as σ H ow sl _ fun w B1 as1 H1 g1 p1 o1 r1 => by
    obtain ⟨a, ha, rfl⟩ := r1
    obtain ⟨ys, hy⟩ := hk
    obtain ⟨_, _, vs1, hv1, _⟩ := o1.own k a _ ha hy (fun z => nomatch z)
    refine ⟨.inl ⟨rfl, vs1, .inl (.inl hv1)⟩, h F B1 as1 σ H1 o1 (sl.mono g1.1 p1) _ fun v B2 as2 H2 g2 p2 o2 r2 => ?_⟩
    have ha := p2.get ha
    obtain ⟨_, _, vs, hv, hr⟩ := o2.own k a _ ha hm (fun z => nomatch z)
    refine ⟨a, vs, v, rfl, rfl, hv, by rw [hr.len]; exact Nat.lt_trans hz (by decide), gd B2 as2 σ _ (g1.trans g2) (p1.trans p2) (o2.put ha hm (fun z => nomatch z) ⟨_, upd_same, RpL.append hr (RpL.one r2)⟩) ((sl.mono g1.1 p1).mono g2.1 p2)⟩
end
end DJ
namespace DJ
open PySem PySem.Spec PyProof.Rows L2
/-! ### defs of the text, what they promise -/
structure Df (K : PySem.W.Frag) (mg : Str → Option Value) (x : Str) (st : Stmt) (ps : List Str) : Prop where
  ex : ∃ (f : Addr) (fd : FuncData), L2.Fun K x x st f fd ∧ mg x = some (.ref f) ∧ Binds K fd ps []
structure Cal (P : Program) (w : World) (K : PySem.W.Frag) (mg : Str → Option Value) (base : Heap) (k : Nat) (x : Str) (sp : Sp) (dvs : List V) : Prop where
  ex : ∃ (f : Addr) (fd : FuncData) (ps : List Str) (ds : List Value), FnOk P w K mg base CX0 k f fd ps sp ∧ mg x = some (.ref f) ∧ PySem.W.keepIn K (.ref f) = true ∧ Binds K fd ps ds ∧ Vals dvs ds
/-- a module's constant -/
structure Gc (K : PySem.W.Frag) (mg : Str → Option Value) (x : Str) (d : Dt) : Prop where
  ex : ∃ (v : V) (u : Value), mg x = some u ∧ RelV v u ∧ ∀ B, Rp K B d v
section
variable {P : Program} {w : World} {K : PySem.W.Frag} {mg : Str → Option Value} {base : Heap}
theorem cal_mk {x : Str} {st : Stmt} {N ps : List Str} {k n : Nat} {R : List Sl → List MO → Sl → List MO → Prop} (D : Df K mg x st ps) (S : FnScope N ps (defScope st)) (hn : ps.length = n)
    (hb : ∀ (f : Addr) (cdv : Value) (A : Around) (outer : List Env) (s : Shared) (H : Hp) (E : XK), Room k (A.deeper (envOfC x (defScope st) s.heap.objs.size f cdv)) → ∀ ss M r M', R ss M r M' →
      ∃ t X, PSs (cxOf CX0 P w K mg base N x (defScope st) f cdv A outer s H E).nox (defBody st) t ∧ EvS K t (start N.length ss) M (.rt r (M' ++ X)) ∧ M.length ≤ M'.length ∧ ∀ j, r = .o j → j < M'.length) :
    Cal P w K mg base (k + 1) x (SpR K n R) [] := by
  obtain ⟨f, fd, F, hm, b⟩ := D.ex
  refine ⟨f, fd, ps, [], F.ok S (fun vs H Q E h => ?_) (fun cdv A outer s H vs Q E hr h => ?_), hm, F.kp, b, .nil⟩
  · obtain ⟨_, _, _, _, _, _, _, _, _, _, e, _⟩ := h
    rw [e, hn]
  · obtain ⟨F', B, as, ss, M, r, M', hR, ow, sl, _, q⟩ := h
    obtain ⟨t, X, ht, he, hl, hr'⟩ := hb f cdv A outer s H E hr ss M r M' hR
    exact ⟨t, ht, run_body (X := X) he hl hr' ow sl q⟩
/-- .. of a body that comes to its end, or where a token must be out -/
theorem cal_mkN {x : Str} {st : Stmt} {N ps : List Str} {k n : Nat} {R : List Sl → List MO → Sl → List MO → Prop} (D : Df K mg x st ps) (S : FnScope N ps (defScope st)) (hn : ps.length = n)
    (hb : ∀ (f : Addr) (cdv : Value) (A : Around) (outer : List Env) (s : Shared) (H : Hp) (E : XK), Room k (A.deeper (envOfC x (defScope st) s.heap.objs.size f cdv)) → ∀ ss M r M', R ss M r M' →
      ∃ t X G1, PSs (cxOf CX0 P w K mg base N x (defScope st) f cdv A outer s H E).nox (defBody st) t ∧ EvS K t (start N.length ss) M (.nx G1 (M' ++ X)) ∧ M.length ≤ M'.length ∧ r = .d .non) :
    Cal P w K mg base (k + 1) x (SpR K n R) [] := by
  obtain ⟨f, fd, F, hm, b⟩ := D.ex
  refine ⟨f, fd, ps, [], F.ok S (fun vs H Q E h => ?_) (fun cdv A outer s H vs Q E hr h => ?_), hm, F.kp, b, .nil⟩
  · obtain ⟨_, _, _, _, _, _, _, _, _, _, e, _⟩ := h
    rw [e, hn]
  · obtain ⟨F', B, as, ss, M, r, M', hR, ow, sl, _, q⟩ := h
    obtain ⟨t, X, G1, ht, he, hl, hr'⟩ := hb f cdv A outer s H E hr ss M r M' hR
    subst hr'
    exact ⟨t, ht, run_bodyN (X := X) he hl ow sl q⟩
theorem cal_mkT {x : Str} {st : Stmt} {N ps : List Str} {k n : Nat} {R : List Sl → List MO → Sl → List MO → Prop} (D : Df K mg x st ps) (S : FnScope N ps (defScope st)) (hn : ps.length = n) (hnc : ∀ y ∈ (defScope st).names, y.2 ≠ .cell) (h1 : 1 ≤ ps.length)
    (hb : ∀ (f : Addr) (cdv : Value) (A : Around) (outer : List Env) (s : Shared) (H : Hp) (E : XK), Room k (A.deeper (envOfC x (defScope st) s.heap.objs.size f cdv)) → ∀ ss M r M', R ss M r M' →
      ∃ t X, PSsT (cxOf CX0 P w K mg base N x (defScope st) f cdv A outer s H E) (defBody st) t ∧ EvS K t (start N.length ss) M (.rt r (M' ++ X)) ∧ M.length ≤ M'.length ∧ ∀ j, r = .o j → j < M'.length) :
    Cal P w K mg base (k + 1) x (SpR K n R) [] := by
  obtain ⟨f, fd, F, hm, b⟩ := D.ex
  obtain ⟨oc, od, kV, doc, pm, an, cdv, ct, osl, rfl, lk, hcd⟩ := F.ex
  refine ⟨f, _, ps, [], fn_ofT lk hcd S hnc h1 (fun vs H Q E h => ?_) (fun A outer s H vs Q E hr h => ?_), hm, F.kp, b, .nil⟩
  · obtain ⟨_, _, _, _, _, _, _, _, _, _, e, _⟩ := h
    rw [e, hn]
  · obtain ⟨F', B, as, ss, M, r, M', hR, ow, sl, _, q⟩ := h
    obtain ⟨t, X, ht, he, hl, hr'⟩ := hb f cdv A outer s H E hr ss M r M' hR
    exact ⟨t, ht, run_body (X := X) he hl hr' ow sl q⟩
end
section
variable {X : Cx} {k j : Nat} {x : Str} {sp : Sp} {dvs : List V} {p pos apos : Pos} {e o : Expr} {es : List Expr} {ta te to : TE} {t : TA}
theorem pe_c (c : Cal X.prog X.w X.K X.mg X.base k x sp dvs) (hr : Room j X.A) (hk : k ≤ j) (hg : Gl X x) (ha : PA X (e :: es) t)
    (hdb : (x == ("__debug__" : Str)) = false := by decide) (he : starEach (e :: es) X.env = (false, eval e X.env) :: starEach es X.env := by rfl) (hpl : (backTo pos (starEach es X.env)).any (·.1) = false := by rfl) :
    PE X (.Call (.Name x p) (e :: es) [] pos) (tCall sp dvs L2.E0 t) := by
  obtain ⟨f, fd, ps, ds, F, hm, kp, b, d⟩ := c.ex
  exact pe_call F (hr.mono hk) hg hm kp b d L2.pass0 ha hdb he hpl
theorem pe_c0 (c : Cal X.prog X.w X.K X.mg X.base k x sp dvs) (hr : Room j X.A) (hk : k ≤ j) (hg : Gl X x) (hdb : (x == ("__debug__" : Str)) = false := by decide) : PE X (.Call (.Name x p) [] [] pos) (tCall sp dvs L2.E0 tNil) := by
  obtain ⟨f, fd, ps, ds, F, hm, kp, b, d⟩ := c.ex
  exact pe_call0 F (hr.mono hk) hg hm kp b d L2.pass0 hdb
/-- a token is out: e.replace(y, z), and what stands around it -/
theorem pet_m1 {id : String} {name : Str} {r : V → List V → Hp → VK → Prop} (slot : Slot "str" name id) (ty : typeOf (.builtin id) = pure (.type "method_descriptor")) (rule : MtR X id r) (ho : PET X o to) (he : PE X e te)
    (hs : starEach [e] X.env = [(false, eval e X.env)] := by rfl) (hbase : attributeBase o name X.env (eval o X.env) = eval o X.env := by rfl) (hline : (apos.endLine == pos.line) = true := by rfl) :
    PET X (.Call (.Attribute o name apos) [e] [] pos) (tM1 r to te) := by
  intro pins s σ H Q h0 I h
  refine PySem.Call_method1 hbase hs hline (thn (ho pins s σ H _ h0 I h) fun v s1 ⟨x, H1, I1, r1, q1⟩ => ?_)
  obtain ⟨⟨a, rfl⟩, q1⟩ := q1
  obtain ⟨t, rfl⟩ := _root_.id r1
  refine ⟨"str", _, F.plainAttrs_str, slot, ty, typeIs_str _ _ _, (fun _ e => nomatch e), Calls.callWith_builtin rfl (Calls.evalArgs_plain (Calls.spliced_cons ?_))⟩
  exact thn (he.run pins s1 σ H1 _ I1 q1) fun u s2 ⟨y, H2, I2, r2, q2⟩ => Calls.spliced_nil (rule pins s2 σ H2 _ [y] _ [u] Q I2 r1 (.cons r2 .nil) q2)
theorem pst_asg {target : Expr} {g : TG} (he : PET X e te) (hg : PG X target g) (hs : swapsWithSole [target] e pos.line X.env = pure false := by rfl) (hw : swappedStores [target] e X.env = pure none := by rfl)
    (h1 : (assignEach [target] X.env).map (·.2) = [assign target X.env] := by rfl) : PST X (.Assign [target] e pos) (tAsg te g) := fun pins s σ H D h0 I h =>
  wpAny_Assign_stores (thn (he pins s σ H _ h0 I h) fun v s1 ⟨x, H1, I1, r1, q1⟩ => by
    rw [h1]
    exact thn (hg.run pins s1 σ H1 x v _ I1 r1 q1) fun _ s2 q => q) hs hw
end
/-! ### comprehensions of typed things -/
theorem mapS_map {β : Type} (f : β → Dt) : ∀ (xs : List β) (m : Unit), (mapS (fun (_ : Unit) x => some (f x, ())) (fun m _ => m) xs m).1 = xs.map f
  | [], _ => rfl
  | x :: xs, m => by
    simp only [mapS, List.map_cons]
    rw [mapS_map f xs]
theorem mapS_filter {β : Type} (p : β → Bool) (f : β → Dt) : ∀ (xs : List β) (m : Unit), (mapS (fun (_ : Unit) x => if p x = true then some (f x, ()) else none) (fun m _ => m) xs m).1 = (xs.filter p).map f
  | [], _ => rfl
  | x :: xs, m => by
    simp only [mapS]
    cases h : p x with
    | true => simp [h, mapS_filter p f xs]
    | false => simp [h, mapS_filter p f xs]
/-- a mapping that hands a state on -/
def mapA {μ β γ : Type} (f : μ → β → γ × μ) : List β → μ → List γ × μ
  | [], m => ([], m)
  | x :: xs, m => ((f m x).1 :: (mapA f xs (f m x).2).1, (mapA f xs (f m x).2).2)
theorem mapS_acc {μ β γ : Type} (en : γ → Dt) (f : μ → β → γ × μ) : ∀ (xs : List β) (m : μ), mapS (fun m x => some (en (f m x).1, (f m x).2)) (fun m _ => m) xs m = ((mapA f xs m).1.map en, (mapA f xs m).2)
  | [], _ => rfl
  | x :: xs, m => by
    simp only [mapS, mapA, List.map_cons]
    rw [mapS_acc en f xs]
section
variable {K : PySem.W.Frag} {G G1 : List (Option Sl)} {M : List MO} {te : TE}
theorem et_yes : EvT K tYes G M true M := fun F B as σ H ow sl Q q => q B as H (Gr.refl F B) (Px.refl as) ow
theorem ev_lcM {β : Type} {wi : TI} {g : TG} {vs : List Nat} (xs : List β) (en f : β → Dt) (hI : EvI K wi G M (xs.map en) M) (hx : xs.length ≤ 100000)
    (hw : ∀ v σ H Q, g v (wipe σ vs) H (fun σ2 H2 => wipe σ2 vs = wipe σ vs → Q σ2 H2) → g v (wipe σ vs) H Q) (turn : ∀ x, x ∈ xs → ∃ G1, EvG K g (wipeG G vs) (.d (en x)) G1 ∧ EvE K te G1 M (.d (f x)) M) :
    EvE K (tLc wi g tYes te vs) G M (.d (.lst (xs.map f))) M := by
  rw [← mapS_map f xs ()]
  exact ev_lc xs en (fun _ => M) (fun (_ : Unit) x => some (f x, ())) (fun m _ => m) () hI hx hw fun m x hm => by
    obtain ⟨G1, h1, h2⟩ := turn x hm
    exact ⟨G1, h1, M, et_yes, h2⟩
theorem ev_lcF {β : Type} {wi : TI} {g : TG} {tt : TT} {vs : List Nat} (xs : List β) (en f : β → Dt) (p : β → Bool) (hI : EvI K wi G M (xs.map en) M) (hx : xs.length ≤ 100000)
    (hw : ∀ v σ H Q, g v (wipe σ vs) H (fun σ2 H2 => wipe σ2 vs = wipe σ vs → Q σ2 H2) → g v (wipe σ vs) H Q) (turn : ∀ x, x ∈ xs → ∃ G1, EvG K g (wipeG G vs) (.d (en x)) G1 ∧ EvT K tt G1 M (p x) M ∧ (p x = true → EvE K te G1 M (.d (f x)) M)) :
    EvE K (tLc wi g tt te vs) G M (.d (.lst ((xs.filter p).map f))) M := by
  rw [← mapS_filter p f xs ()]
  exact ev_lc xs en (fun _ => M) (fun (_ : Unit) x => if p x = true then some (f x, ()) else none) (fun m _ => m) () hI hx hw fun m x hm => by
    obtain ⟨G1, h1, h2, h3⟩ := turn x hm
    refine ⟨G1, h1, ?_⟩
    cases e : p x with
    | true => rw [e] at h2; exact ⟨M, h2, h3 e⟩
    | false => rw [e] at h2; exact h2
theorem ev_lcA {μ β γ : Type} {wi : TI} {g : TG} {vs : List Nat} (xs : List β) (en : β → Dt) (ec : γ → Dt) (encM : μ → List MO) (f : μ → β → γ × μ) (m0 : μ) (hI : EvI K wi G M (xs.map en) (encM m0)) (hx : xs.length ≤ 100000)
    (hw : ∀ v σ H Q, g v (wipe σ vs) H (fun σ2 H2 => wipe σ2 vs = wipe σ vs → Q σ2 H2) → g v (wipe σ vs) H Q) (turn : ∀ m x, x ∈ xs → ∃ G1, EvG K g (wipeG G vs) (.d (en x)) G1 ∧ EvE K te G1 (encM m) (.d (ec (f m x).1)) (encM (f m x).2)) :
    EvE K (tLc wi g tYes te vs) G M (.d (.lst ((mapA f xs m0).1.map ec))) (encM (mapA f xs m0).2) := by
  have h := ev_lc (te := te) xs en encM (fun m x => some (ec (f m x).1, (f m x).2)) (fun m _ => m) m0 hI hx hw fun m x hm => by
    obtain ⟨G1, h1, h2⟩ := turn m x hm
    exact ⟨G1, h1, encM m, et_yes, h2⟩
  rw [mapS_acc] at h
  exact h
end
/-! ### walks by a step, truth of numbers -/
section
variable {K : PySem.W.Frag} {B : Hp} {G G1 : List (Option Sl)} {M M1 M2 : List MO} {te ta tb : TE} {i j : Int} {l m : List Nat} {b : Bool} {x z : Dt}
theorem yl_step {lo c : Int} {n : Nat} : Yl K B (Itc lo c n) ((List.range n).map fun (i : Nat) => .int (lo + (i : Nat) * c)) := fun F B' as M H i e ow => by
  refine ⟨fun x hx => ?_, fun hi => ?_⟩
  · rw [List.getElem?_map] at hx
    by_cases hi : i < n
    · rw [List.getElem?_range hi] at hx
      have hx : Dt.int (lo + (i : Nat) * c) = x := Option.some.inj hx
      subst hx
      refine ⟨hi, fun v H' y => ?_⟩
      obtain ⟨rfl, rfl⟩ := y
      exact ⟨B', Gr.refl F B', ow, rfl⟩
    · rw [List.getElem?_eq_none (by rw [List.length_range]; omega)] at hx
      cases hx
  · rw [List.length_map, List.length_range] at hi
    exact hi
theorem ei_rng3 {t : TA} {c : Int} {n : Nat} (h : EvA K t G M [.d (.int i), .d (.int j), .d (.int c)] M1) (hn : RgC i j c n) : EvI K (iRng3 t) G M ((List.range n).map fun (k : Nat) => .int (i + (k : Nat) * c)) M1 := fun F B as σ H ow sl R q =>
  h F B as σ H ow sl _ fun vs B' as' H' g p o' r => by
    obtain ⟨v, r1, e1, h1, w, r2, e2, h2, u, r3, e3, h3, e4⟩ := r
    have e4 : r3 = [] := e4
    have h1 : v = V.int i := h1
    have h2 : w = V.int j := h2
    have h3 : u = V.int c := h3
    subst e4; subst e3; subst e2; subst e1; subst h1; subst h2; subst h3
    exact ⟨i, j, c, n, rfl, hn, q _ B' as' H' g p o' yl_step⟩
theorem et_int (h : EvE K te G M (.d (.int i)) M1) : EvT K (fun σ H Q => te σ H fun x H' => ∃ k, TruV K x H' k ∧ Q k H') G M (i != 0) M1 := fun F B as σ H ow sl Q q =>
  h F B as σ H ow sl _ fun v B1 as1 H1 g p o r => by
    have r : v = .int i := r
    subst r
    exact ⟨_, rfl, q B1 as1 H1 g p o⟩
/-- numbers and texts -/
theorem rc_str (h : i.natAbs.log2 < 1920) (h0 : 0 ≤ i) : RC K (fun xs H Q => ∃ i, xs = [.int i] ∧ i.natAbs.log2 < 1920 ∧ Q (.str (toString i)) H) [.int i] (.str (TL.numL i.toNat)) := fun F B as M H vs Q ow r q =>
  ⟨i, one_int r, h, q _ B H (Gr.refl F B) ow (by
    obtain ⟨n, rfl⟩ := Int.eq_ofNat_of_zero_le h0
    show V.str _ = V.str _
    congr 1
    exact SX.num_S n)⟩
/-- noughts ahead -/
def zfillL (n : Nat) (l : List Nat) : List Nat := List.replicate (n - l.length) 48 ++ l
theorem rm_zfill {n : Nat} (hn : n ≤ 1000000) (h0 : l[0]? ≠ some 43) (h1 : l[0]? ≠ some 45) : RM K (fun x xs H Q => ∃ (a : Str) (i : Int), x = .str a ∧ xs = [.int i] ∧ PadOk i = true ∧ Q (.str (Txt.zfill a i)) H) (.str l) [.int (n : Int)] (.str (zfillL n l)) := fun F B as M H v vs Q ow r1 r2 q => by
  refine ⟨tx l, n, r1, one_int r2, ?_, q _ B H (Gr.refl F B) ow ?_⟩
  · unfold PadOk Builtin.Str.tooLong
    have e1 : PySem.fitsSsize (n : Int) = true := by
      unfold PySem.fitsSsize
      rw [Bool.not_eq_true']
      refine Bool.or_eq_false_iff.mpr ⟨decide_eq_false (by omega), decide_eq_false (by omega)⟩
    rw [e1, Bool.true_and, Bool.not_eq_true']
    refine decide_eq_false ?_
    show ¬ (n : Int).toNat > 2 ^ 24
    rw [Int.toNat_natCast]
    omega
  · show V.str _ = V.str _
    congr 1
    unfold Txt.zfill zfillL
    rw [tx_len]
    by_cases h : (n : Int) ≤ l.length
    · rw [if_pos h, show n - l.length = 0 by omega]
      rfl
    · rw [if_neg h]
      have e : (tx l).cps[0]? = l[0]? := by rw [show (tx l).cps = l.toArray from rfl, List.getElem?_toArray]
      have e2 : zfilled (tx l) ((n : Int).toNat - l.length) = Builtin.Str.padded (tx l) ((n : Int).toNat - l.length) 0 48 := by
        unfold zfilled
        rw [e]
        split
        · rename_i c; exact absurd c h0
        · rename_i c; exact absurd c h1
        · rfl
      rw [e2, Int.toNat_natCast]
      refine TL.ext_tl ?_
      show (Array.replicate (n - l.length) 48 ++ l.toArray ++ Array.replicate 0 48).toList = _
      simp
theorem rc_divmod (h0 : 0 < j) (h1 : j.natAbs.log2 < 9000) : RC K (fun xs H Q => ∃ i j, xs = [.int i, .int j] ∧ CDivP i j ∧ ∀ p, H p = none → Q (.ref p) (upd H p (.tup [.int (i / j), .int (i % j)]))) [.int i, .int j] (.tup [.int (i / j), .int (i % j)]) := fun F B as M H vs Q ow r q =>
  ⟨i, j, two_int r, ⟨h0, by
    unfold Builtin.divisionGoesByPylong
    have e : ((if (j == 0) = true then 0 else j.natAbs.log2 / 30 + 1) > 300) = False := by
      rw [if_neg (by simpa using (show j ≠ 0 by omega))]
      exact eq_false (by omega)
    simp only [e, decide_false, Bool.false_and]⟩, fun p hp => q _ _ _ (ow.gr hp _) (ow.new hp _) ⟨p, _, rfl, .inl (.inl upd_same), _, _, rfl, rfl, _, _, rfl, rfl, rfl⟩⟩
theorem rc_intS (h : l.all (fun c => decide (48 ≤ c) && decide (c ≤ 57)) = true) (hne : l ≠ []) (hl : l.length ≤ 640) : RC K (fun xs H Q => ∃ a n, xs = [.str a] ∧ PySem.intText? a = some n ∧ a.length ≤ 640 ∧ Q (.int n) H) [.str l] (.int ((NumText.digitsVal l : Nat) : Int)) := fun F B as M H vs Q ow r q =>
  ⟨tx l, _, two_str r, SX.int_S h hne (by omega), by rw [tx_len]; exact hl, q _ B H (Gr.refl F B) ow rfl⟩
theorem ev_revO {k : Nat} {xs : List Dt} (h : EvE K te G M (.o k) M1) (hm : M1[k]? = some (.lst xs)) : EvE K (tRevL K te) G M (.d (.lst xs.reverse)) M1 := fun F B as σ H ow sl Q q =>
  h F B as σ H ow sl _ fun v B1 as1 H1 g1 p1 o1 r1 => by
    obtain ⟨a, ha, rfl⟩ := r1
    obtain ⟨_, _, vs, hv, hr⟩ := o1.own k a _ ha hm (fun z => nomatch z)
    refine ⟨a, vs, rfl, .inl (.inl hv), fun p hp => ?_⟩
    have g2 := o1.gr hp (.lst vs.reverse)
    exact q _ _ as1 _ (g1.trans g2) p1 (o1.new hp _) ⟨p, vs.reverse, rfl, .inl (.inl upd_same), RpL.mono g2.1 _ _ hr.reverse⟩
theorem ev_repl {y z : List Nat} {ys zs : Str} (h : EvE K te G M (.d (.str l)) M1) (hy : ys = tx y) (hz : zs = tx z) (h1 : 1 ≤ y.length) (hl : l.length + (l.length + 1) * z.length ≤ 1000000) : EvE K (CwR.tReplC te ys zs) G M (.d (.str (StrLaws.replL y z l))) M1 := fun F B as σ H ow sl Q q =>
  h F B as σ H ow sl _ fun v B1 as1 H1 g1 p1 o1 r1 => ⟨tx l, r1, by rw [hz, tx_len, tx_len]; exact Nat.le_trans hl (by decide), q _ B1 as1 H1 g1 p1 o1 (by rw [hy, hz, repl_tx l y z h1] <;> rfl)⟩
end
end DJ
namespace DJ
open PySem PySem.Spec PyProof.Rows L2
section
variable {K : PySem.W.Frag} {G G1 G2 : List (Option Sl)} {M M1 M2 M3 : List MO} {s r : Sl} {ta tb te : TE} {tt : TT} {t u w : TS} {x y z : Dt} {b : Bool} {i j : Int} {l m : List Nat} {o : Out}
theorem es_retD (h : EvE K te G M (.d x) M1) (e : x = y) : EvS K (tRet te) G M (.rt (.d y) M1) := es_ret (ev_isD h e)
/-- an if that hands back, then the rest -/
theorem es_guard (h : EvT K tt G M b M1) (h1 : b = true → EvS K t G M1 (.rt r M2)) (h2 : b = false → EvS K u G M1 (.rt r M2)) : EvS K (tSeq (tIfS tt t tNext) u) G M (.rt r M2) := fun F B as σ H ow sl D gd =>
  h F B as σ H ow sl _ fun B' as' H' g p o' => by
    cases b with
    | true => exact h1 rfl F B' as' σ H' o' (sl.mono g.1 p) { D with nx := u D } (gd.later g p)
    | false => exact h2 rfl F B' as' σ H' o' (sl.mono g.1 p) D (gd.later g p)
/-- .. where both ends are any -/
theorem es_split (h : EvT K tt G M b M1) (h1 : b = true → EvS K (tSeq t u) G M1 o) (h2 : b = false → EvS K (tSeq w u) G M1 o) : EvS K (tSeq (tIfS tt t w) u) G M o := fun F B as σ H ow sl D gd =>
  h F B as σ H ow sl _ fun B' as' H' g p o' => by
    cases b with
    | true => exact h1 rfl F B' as' σ H' o' (sl.mono g.1 p) D (gd.later g p)
    | false => exact h2 rfl F B' as' σ H' o' (sl.mono g.1 p) D (gd.later g p)
theorem es_nextR (h : EvS K u G M o) : EvS K (tSeq tNext u) G M o := h
/-- an if that can't be taken -/
theorem es_pass (h : EvT K tt G M false M1) (h2 : EvS K u G M1 o) : EvS K (tSeq (tIfS tt t tNext) u) G M o := fun F B as σ H ow sl D gd =>
  h F B as σ H ow sl _ fun B' as' H' g p o' => h2 F B' as' σ H' o' (sl.mono g.1 p) D (gd.later g p)
theorem es_nG {G' : List (Option Sl)} (e : G = G') (h : EvS K t G' M o) : EvS K t G M o := e ▸ h
theorem es_never (h : False) : EvS K t G M o := h.elim
theorem ev_iteS (h : EvT K tt G M b M1) (h1 : b = true → EvE K ta G M1 (.d (.str l)) M2) (h2 : b = false → EvE K tb G M1 (.d (.str m)) M2) : EvE K (tIf tt ta tb) G M (.d (.str (if b = true then l else m))) M2 :=
  ev_if h (fun e => by rw [if_pos e]; exact h1 e) (fun e => by rw [if_neg (by rw [e]; exact Bool.false_ne_true)]; exact h2 e)
theorem ev_iteI (h : EvT K tt G M b M1) (h1 : b = true → EvE K ta G M1 (.d (.int i)) M2) (h2 : b = false → EvE K tb G M1 (.d (.int j)) M2) : EvE K (tIf tt ta tb) G M (.d (.int (if b = true then i else j))) M2 :=
  ev_if h (fun e => by rw [if_pos e]; exact h1 e) (fun e => by rw [if_neg (by rw [e]; exact Bool.false_ne_true)]; exact h2 e)
/-- if c: x = e -/
theorem es_ifI {n : Nat} (h : EvT K tt G M b M1) (h1 : b = true → EvE K te G M1 (.d (.int i)) M1) (hj : G[n]? = some (some (.d (.int j)))) : EvS K (tIfS tt (tAsg te (gName n)) tNext) G M (.nx (G.set n (some (.d (.int (if b = true then i else j))))) M1) :=
  es_if h (fun e => by rw [if_pos e]; exact es_asg (h1 e)) (fun e => by
    rw [if_neg (by rw [e]; exact Bool.false_ne_true)]
    refine es_nxw es_next ⟨by rw [List.length_set], fun k s q => ?_⟩
    by_cases hk : n = k
    · subst hk
      rw [List.getElem?_set_self (List.getElem?_eq_some_iff.mp hj).1] at q
      cases q
      exact hj
    · rw [List.getElem?_set_ne hk] at q
      exact q)
/-- a for that is not left, its state told by the number of turns -/
theorem es_forN {β : Type} {wi : TI} {g : TG} {tb : TS} (xs : List β) (en : β → Dt) (Gn : Nat → List (Option Sl)) (Mn : Nat → List MO) (hI : EvI K wi G M (xs.map en) (Mn 0)) (h0 : Lg G (Gn 0))
    (turn : ∀ (i : Nat) (x : β), xs[i]? = some x → ∃ G1, EvG K g (Gn i) (.d (en x)) G1 ∧ (EvS K tb G1 (Mn i) (.nx (Gn (i + 1)) (Mn (i + 1))) ∨ EvS K tb G1 (Mn i) (.ct (Gn (i + 1)) (Mn (i + 1))))) :
    EvS K (tFor wi g tb) G M (.nx (Gn xs.length) (Mn xs.length)) := fun F B as σ H ow sl D gd => by
  refine hI F B as σ H ow sl _ fun J B1 as1 H1 g1 p1 o1 yl => ?_
  refine ⟨fun i m σ' H' => ∃ B' as', m = xs.length - i ∧ i ≤ xs.length ∧ Gr F B1 B' ∧ Px as1 as' ∧ Ow K F B' as' (Mn i) H' ∧ Slt K B' as' (Gn i) σ', ⟨xs.length, B1, as1, by simp, Nat.zero_le _, Gr.refl F B1, Px.refl as1, o1, (sl.mono g1.1 p1).weak h0⟩, fun i m σ' H' w => ?_⟩
  obtain ⟨B', as', rfl, hi, g', p', o', s'⟩ := w
  obtain ⟨y1, y2⟩ := yl F B' as' (Mn i) H' i g'.1 o'
  by_cases hlt : i < xs.length
  · have hx : xs[i]? = some xs[i] := List.getElem?_eq_getElem hlt
    obtain ⟨go, yld⟩ := y1 (en xs[i]) (by rw [List.getElem?_map, hx] <;> rfl)
    refine .inr ⟨go, fun σ2 H2 => ∃ B' as', i + 1 ≤ xs.length ∧ Gr F B1 B' ∧ Px as1 as' ∧ Ow K F B' as' (Mn (i + 1)) H2 ∧ Slt K B' as' (Gn (i + 1)) σ2, fun σ2 H2 n2 => ?_, fun v H2 yv => ?_⟩
    · obtain ⟨B2, as2, q1, q3, q4, q5, q6⟩ := n2
      exact ⟨xs.length - (i + 1), by omega, B2, as2, rfl, q1, q3, q4, q5, q6⟩
    · obtain ⟨B2, g2, o2, r2⟩ := yld v H2 yv
      obtain ⟨G1, hg, ht⟩ := turn i xs[i] hx
      refine hg F B2 as' (Mn i) σ' H2 v o2 (s'.mono g2.1 (Px.refl as')) r2 _ fun B3 as3 σ3 H3 g3 p3 o3 s3 => ?_
      have gg : Gr F B1 B3 := g'.trans (g2.trans g3)
      have pp : Px as1 as3 := p'.trans p3
      rcases ht with ht | ht
      · exact ht F B3 as3 σ3 H3 o3 s3 _ fun B4 as4 σ4 H4 g4 p4 o4 s4 => ⟨B4, as4, hlt, gg.trans g4, pp.trans p4, o4, s4⟩
      · exact ht F B3 as3 σ3 H3 o3 s3 _ fun B4 as4 σ4 H4 g4 p4 o4 s4 => ⟨B4, as4, hlt, gg.trans g4, pp.trans p4, o4, s4⟩
  · have e : i = xs.length := by omega
    subst e
    exact .inl ⟨y2 (by rw [List.length_map]; exact Nat.le_refl _), gd B' as' σ' H' (g1.trans g') (p1.trans p') o' s'⟩
theorem ro_fdiv (h : CDiv i j) : RO K (rI CDiv fun i j => .int (i / j)) (.int i) (.int j) (.int (i / j)) := ro_I h fun _ _ => rfl
/-- an item of a list or a text, and its length -/
theorem ro_ixL' {xs : List Dt} (h : atI xs i = some x) : RO K (rIx K) (.lst xs) (.int i) x := fun F B as M H v u Q ow r1 r2 q => .inl (ro_ixL h F B as M H v u Q ow r1 r2 q)
theorem ro_ixS' {c : Nat} (hl : l.length ≤ 1000000) (h : atI l i = some c) : RO K (rIx K) (.str l) (.int i) (.str [c]) := fun F B as M H v u Q ow r1 r2 q => .inr (.inr (ro_ixS hl h F B as M H v u Q ow r1 r2 q))
theorem rc_lenL' {xs : List Dt} : RC K (fun xs H Q => ∃ x n, xs = [x] ∧ LenV K x H n ∧ Q (.int n) H) [.lst xs] (.int (xs.length : Nat)) := fun F B as M H vs Q ow r q => by
  obtain ⟨v1, rr, e, h1, h2⟩ := r
  obtain ⟨a, us, e1, h3, h4⟩ := h1
  have h2 : rr = [] := h2
  subst h2; subst e1
  exact ⟨.ref a, us.length, e, .inl ⟨us, ow.bb.seq h3, rfl⟩, q _ B H (Gr.refl F B) ow (by rw [h4.len] <;> rfl)⟩
theorem rc_lenS' (h : l.length ≤ 1000000) : RC K (fun xs H Q => ∃ x n, xs = [x] ∧ LenV K x H n ∧ Q (.int n) H) [.str l] (.int (l.length : Nat)) := fun F B as M H vs Q ow r q =>
  ⟨.str (tx l), (tx l).length, two_str r, ⟨by rw [tx_len]; exact Nat.le_trans h (by decide), rfl⟩, q _ B H (Gr.refl F B) ow (by rw [tx_len] <;> rfl)⟩
theorem sub_one (c : Nat) : ∀ l : List Nat, sub [c] l = decide (c ∈ l)
  | [] => rfl
  | d :: r => by
    unfold sub
    rw [sub_one c r]
    by_cases e : c = d
    · subst e
      have : pre [c] (c :: r) = true := beq_self_eq_true [c]
      rw [this]
      simp
    · have : pre [c] (d :: r) = false := TL.pre_of_head [] r (fun h => e h.symm)
      rw [this, Bool.false_or]
      simp [e]
end
end DJ
namespace DJ
open PySem PySem.Spec PyProof.Rows L2
open PySem.NumText PySem.Calls
/-! ### int(t, 8) -/
def Oct (c : Nat) : Prop := 48 ≤ c ∧ c ≤ 55
def octNum (l : List Nat) : Nat := l.foldl (fun a c => a * 8 + Hx.hv c) 0
theorem Oct.hex {c : Nat} (h : Oct c) : Hx.IsHex c := .inl ⟨h.1, by unfold Oct at h; omega⟩
theorem Oct.lt {c : Nat} (h : Oct c) : Hx.hv c < 8 := by
  unfold Oct at h
  unfold Hx.hv
  rw [if_pos (by omega)]
  omega
theorem step_oct {ds : Array Nat} {b : Bool} {c : Nat} (h : Oct c) : NumText.step 8 (ds, b) c = some (ds.push (Hx.hv c), true) := by
  have hr := (Hx.hex_rng h.hex).2.2
  unfold NumText.step
  rw [if_neg (by rw [beq_iff_eq]; exact hr)]
  rw [Hx.digit_hex h.hex]
  exact if_pos h.lt
theorem fold_oct : ∀ (cs : List Nat) (ds : Array Nat), (∀ c ∈ cs, Oct c) → cs.foldlM (NumText.step 8) (ds, true) = some (cs.foldl (fun acc c => acc.push (Hx.hv c)) ds, true)
  | [], _, _ => rfl
  | c :: cs, ds, h => by
    rw [List.foldlM_cons, step_oct (h c List.mem_cons_self)]
    exact fold_oct cs (ds.push (Hx.hv c)) fun d hd => h d (List.mem_cons_of_mem _ hd)
theorem digits_oct : ∀ {cs : List Nat}, (∀ c ∈ cs, Oct c) → cs ≠ [] → digits? 8 cs = some (cs.foldl (fun acc c => acc.push (Hx.hv c)) #[])
  | [], _, hne => absurd rfl hne
  | c :: cs, h, _ => by
    unfold digits?
    rw [List.foldlM_cons, step_oct (h c List.mem_cons_self)]
    show (cs.foldlM (NumText.step 8) ((#[] : Array Nat).push (Hx.hv c), true)).bind _ = _
    rw [fold_oct cs _ fun d hd => h d (List.mem_cons_of_mem _ hd)] <;> rfl
theorem push_oct : ∀ (cs : List Nat) (ds : Array Nat), (cs.foldl (fun acc c => acc.push (Hx.hv c)) ds).foldl (fun acc d => acc * 8 + d) 0 = cs.foldl (fun a c => a * 8 + Hx.hv c) (ds.foldl (fun acc d => acc * 8 + d) 0)
  | [], _ => rfl
  | c :: cs, ds => by
    rw [List.foldl_cons, push_oct cs (ds.push (Hx.hv c)), List.foldl_cons, Array.foldl_push]
theorem oct_cases {c : Nat} (h : Oct c) : c = 48 ∨ c = 49 ∨ c = 50 ∨ c = 51 ∨ c = 52 ∨ c = 53 ∨ c = 54 ∨ c = 55 := by
  unfold Oct at h
  omega
theorem based_oct : ∀ {cs : List Nat}, (∀ c ∈ cs, Oct c) → based 8 cs = (8, false, cs)
  | [], _ => rfl
  | [a], h => by
    rcases oct_cases (h a List.mem_cons_self) with e | e | e | e | e | e | e | e <;> subst e <;> rfl
  | a :: c :: r, h => by
    have hc := oct_cases (h c (List.mem_cons_of_mem _ List.mem_cons_self))
    rcases oct_cases (h a List.mem_cons_self) with e | e | e | e | e | e | e | e <;> subst e <;> first
      | rfl
      | (rcases hc with e | e | e | e | e | e | e | e <;> subst e <;> rfl)
theorem read_oct {cs : List Nat} (h : ∀ c ∈ cs, Oct c) (hne : cs ≠ []) : (int_private% "readNumeral") 0 8 cs = (int_private% "Numeral.value") ((octNum cs : Nat) : Int) := by
  have hr : ∀ c ∈ cs.reverse, Hx.IsHex c := fun c hc => (h c (List.mem_reverse.mp hc)).hex
  have hb : based 8 cs = (8, false, cs) := based_oct h
  refine (readNumeral_eq 0 8 cs).trans ?_
  rw [Hx.dropB fun c hc => (h c hc).hex, Hx.signH fun c hc => (h c hc).hex]
  show judge 0 false (based 8 cs).1 (based 8 cs).2.1 (digits? (based 8 cs).1 (((based 8 cs).2.2.reverse.dropWhile blank).reverse)) = _
  rw [hb]
  show judge 0 false 8 false (digits? 8 ((cs.reverse.dropWhile blank).reverse)) = _
  rw [Hx.dropB hr, List.reverse_reverse, digits_oct h hne]
  show (int_private% "Numeral.value") (((cs.foldl (fun acc c => acc.push (Hx.hv c)) (#[] : Array Nat)).foldl (fun acc d => acc * 8 + d) 0 : Nat) : Int) = _
  rw [push_oct]
  rfl
theorem gives_oct {x : PySem.Str} {u t : Tok} (hl : x.length ≤ 640) (h : ∀ c ∈ x.cps.toList, Oct c) (hne : x.cps.toList ≠ []) :
    Gives (Builtin.«int.__new__» ⟨[.type "int", .str x u, .int 8 t], []⟩) (.int ((octNum x.cps.toList : Nat) : Int)) :=
  .of_wp fun M A E s Q hQ => by
    obtain ⟨hp, g, d, tk, os⟩ := s
    have g1 := F.conv_sub_int
    have g2 := F.madeHere_int
    have g6 : typeOf (.str x u) = pure (.type "str") := rfl
    have e12 := Hx.seen_hex (x := x) fun c hc => (h c hc).hex
    have hs : (numSeenOf x).length ≤ 640 := by
      rw [e12.2, Array.length_toList]
      exact hl
    have hr : (int_private% "readNumeral") 0 8 (numSeenOf x) = (int_private% "Numeral.value") ((octNum x.cps.toList : Nat) : Int) := by
      rw [e12.2]
      exact read_oct h hne
    have ha : ((numSeenOf x).length == (numTextOf x).length) = true := by
      rw [e12.1, e12.2]
      exact beq_self_eq_true _
    have hk := Hx.Hid.mk (And.intro hs (And.intro hr ha))
    clear hs hr ha e12 hl hne h
    repeat (any_goals (first
      | assumption
      | ((with_reducible show wpAny _ _ ((int_private% "intFromText") _ _ _) _ _ _); refine Hx.wp_textB hk.out.1 hk.out.2.1 hk.out.2.2 ?_)
      | wp_step))
    all_goals first | exact ⟨_, rfl, hQ⟩ | skip
def rIntOct : List V → Hp → VK → Prop := fun xs H Q => ∃ l : List Nat, xs = [.str (SX.S l), .int 8] ∧ l ≠ [] ∧ l.length ≤ 640 ∧ (∀ c ∈ l, Oct c) ∧ Q (.int ((octNum l : Nat) : Int)) H
theorem call_int_oct {X : Cx} : CallR X (.type "int") rIntOct := by
  intro pins s σ H xs us Q I r h
  obtain ⟨l, rfl, hne, hl, hx, q⟩ := h
  obtain ⟨u, w', rfl, r1, r2⟩ := vals2 r
  obtain ⟨t1, rfl⟩ := r1
  obtain ⟨t2, rfl⟩ := r2
  exact callType_new F.called_int F.newNe_int (Hx.typeCall_int_2 _ _) (Hx.newCall_int_2 _ _) (fun obj => F.initArgs_range_2 obj _ _) F.entry_int_new (gives_oct (x := SX.S l) (by rw [SX.S_len]; exact hl) hx hne).meets
    (show (PySem.Made.int ((octNum l : Nat) : Int)).post _ s from ⟨rfl, ⟨.int ((octNum l : Nat) : Int), H, I.tok _, ⟨_, rfl⟩, q⟩⟩)
section
variable {K : PySem.W.Frag} {B : Hp} {l : List Nat}
theorem rc_intOct (hne : l ≠ []) (hl : l.length ≤ 640) (h : ∀ c ∈ l, Oct c) : RC K rIntOct [.str l, .int 8] (.int ((octNum l : Nat) : Int)) := fun F B as M H vs Q ow r q => by
  obtain ⟨v, r1, e1, h1, w, r2, e2, h2, e3⟩ := r
  have h1 : v = V.str (tx l) := h1
  have h2 : w = V.int 8 := h2
  have e3 : r2 = [] := e3
  subst e3; subst e2; subst e1; subst h1; subst h2
  exact ⟨l, rfl, hne, hl, h, q _ B H (Gr.refl F B) ow rfl⟩
theorem rc_intHex (hne : l ≠ []) (hl : l.length ≤ 640) (h : ∀ c ∈ l, Hx.IsHex c) : RC K rIntHex [.str l, .int 16] (.int ((Hx.hexNum l : Nat) : Int)) := fun F B as M H vs Q ow r q => by
  obtain ⟨v, r1, e1, h1, w, r2, e2, h2, e3⟩ := r
  have h1 : v = V.str (tx l) := h1
  have h2 : w = V.int 16 := h2
  have e3 : r2 = [] := e3
  subst e3; subst e2; subst e1; subst h1; subst h2
  exact ⟨l, rfl, hne, hl, h, q _ B H (Gr.refl F B) ow rfl⟩
end
/-- what they are worth has few figures -/
theorem hexNum_lt : ∀ (l : List Nat), (∀ c ∈ l, Hx.IsHex c) → Hx.hexNum l < 16 ^ l.length := by
  intro l
  have : ∀ (l : List Nat) (a : Nat), (∀ c ∈ l, Hx.IsHex c) → l.foldl (fun a c => a * 16 + Hx.hv c) a < (a + 1) * 16 ^ l.length := by
    intro l
    induction l with
    | nil => intro a _; simp
    | cons c l ih =>
      intro a h
      have h1 := Hx.hv_lt (h c List.mem_cons_self)
      refine Nat.lt_of_lt_of_le (ih _ fun d hd => h d (List.mem_cons_of_mem _ hd)) ?_
      rw [List.length_cons, Nat.pow_succ, Nat.mul_comm _ 16, ← Nat.mul_assoc]
      exact Nat.mul_le_mul_right _ (by dsimp only; omega)
  intro h
  have := this l 0 h
  rwa [Nat.zero_add, Nat.one_mul] at this
theorem octNum_lt : ∀ (l : List Nat), (∀ c ∈ l, Oct c) → octNum l < 8 ^ l.length := by
  intro l
  have : ∀ (l : List Nat) (a : Nat), (∀ c ∈ l, Oct c) → l.foldl (fun a c => a * 8 + Hx.hv c) a < (a + 1) * 8 ^ l.length := by
    intro l
    induction l with
    | nil => intro a _; simp
    | cons c l ih =>
      intro a h
      have h1 := (h c List.mem_cons_self).lt
      refine Nat.lt_of_lt_of_le (ih _ fun d hd => h d (List.mem_cons_of_mem _ hd)) ?_
      rw [List.length_cons, Nat.pow_succ, Nat.mul_comm _ 8, ← Nat.mul_assoc]
      exact Nat.mul_le_mul_right _ (by dsimp only; omega)
  intro h
  have := this l 0 h
  rwa [Nat.zero_add, Nat.one_mul] at this
end DJ
namespace DJ
open PySem PySem.Spec PyProof.Rows L2
theorem atI_nat {α : Type} {xs : List α} {j : Nat} (h : j < xs.length) : atI xs (j : Int) = some xs[j] := by
  have e : ixN xs.length (j : Int) = some j := by
    unfold ixN
    rw [if_pos (Int.natCast_nonneg j), if_pos (by omega), Int.toNat_natCast]
  unfold atI
  rw [e]
  exact List.getElem?_eq_getElem h
/-! ### a walk that hands back the first thing of a kind -/
def ffS {β : Type} (p : β → Bool) (f : β → Sl) (M : List MO) : Unit → β → Unit ⊕ Out := fun _ x => if p x = true then .inr (.rt (f x) M) else .inl ()
theorem ff_loop {β : Type} (p : β → Bool) (f : β → Sl) (M : List MO) : ∀ xs : List β, (∃ x, xs.find? p = some x ∧ loopF (ffS p f M) xs () = .inr (.rt (f x) M)) ∨ (xs.find? p = none ∧ loopF (ffS p f M) xs () = .inl ())
  | [] => .inr ⟨rfl, rfl⟩
  | x :: xs => by
    by_cases h : p x = true
    · have e : ffS p f M () x = .inr (.rt (f x) M) := if_pos h
      refine .inl ⟨x, List.find?_cons_of_pos h, ?_⟩
      unfold loopF
      rw [e]
    · have e : ffS p f M () x = .inl () := if_neg h
      have e2 : (x :: xs).find? p = xs.find? p := List.find?_cons_of_neg h
      have e3 : loopF (ffS p f M) (x :: xs) () = loopF (ffS p f M) xs () := by
        rw [loopF, e]
      rw [e2, e3]
      exact ff_loop p f M xs
section
variable {K : PySem.W.Frag} {G G0 : List (Option Sl)} {M : List MO} {u : TS} {r : Sl}
theorem loop_inl {α β : Type} (f : α → β → α) : ∀ (xs : List β) (a : α), loopF (fun a x => (.inl (f a x) : α ⊕ Out)) xs a = .inl (xs.foldl f a)
  | [], _ => rfl
  | x :: xs, a => loop_inl f xs (f a x)
/-- a walk that hands a state on -/
theorem es_forA {α β : Type} {wi : TI} {g : TG} {tb : TS} (xs : List β) (en : β → Dt) (enc : α → List (Option Sl)) (encM : α → List MO) (f : α → β → α) (a0 : α) (hI : EvI K wi G M (xs.map en) (encM a0)) (h0 : Lg G (enc a0))
    (turn : ∀ a x, x ∈ xs → ∃ G1, EvG K g (enc a) (.d (en x)) G1 ∧ EvS K tb G1 (encM a) (.nx (enc (f a x)) (encM (f a x)))) : EvS K (tFor wi g tb) G M (.nx (enc (xs.foldl f a0)) (encM (xs.foldl f a0))) := by
  have h := es_for (tb := tb) xs en enc encM (fun a x => .inl (f a x)) a0 hI h0 fun a x hx => by
    obtain ⟨G1, h1, h2⟩ := turn a x hx
    exact ⟨G1, h1, .inl h2⟩
  rw [loop_inl] at h
  exact h
theorem es_yes {tt : TT} {t w : TS} {b : Bool} {M1 : List MO} {o : Out} (h : EvT K tt G M b M1) (e : b = true) (h1 : EvS K t G M1 o) : EvS K (tIfS tt t w) G M o := es_if h (fun _ => h1) (fun z => by rw [e] at z; cases z)
theorem es_no {tt : TT} {t w : TS} {b : Bool} {M1 : List MO} {o : Out} (h : EvT K tt G M b M1) (e : b = false) (h1 : EvS K w G M1 o) : EvS K (tIfS tt t w) G M o := es_if h (fun z => by rw [e] at z; cases z) (fun _ => h1)
theorem es_forFind {β : Type} {wi : TI} {g : TG} {tb : TS} (xs : List β) (en : β → Dt) (p : β → Bool) (f : β → Sl) (hI : EvI K wi G M (xs.map en) M) (h0 : Lg G G0)
    (turn : ∀ x, x ∈ xs → ∃ G1, EvG K g G0 (.d (en x)) G1 ∧ (p x = true → EvS K tb G1 M (.rt (f x) M)) ∧ (p x = false → EvS K tb G1 M (.nx G0 M)))
    (hr : ∀ x, xs.find? p = some x → r = f x) (rest : xs.find? p = none → EvS K u G0 M (.rt r M)) : EvS K (tSeq (tFor wi g tb) u) G M (.rt r M) := by
  have h := es_for (α := Unit) (tb := tb) xs en (fun _ => G0) (fun _ => M) (ffS p f M) () hI h0 fun _ x hx => by
    obtain ⟨G1, h1, h2, h3⟩ := turn x hx
    refine ⟨G1, h1, ?_⟩
    cases e : p x with
    | true =>
      have e2 : ffS p f M () x = .inr (.rt (f x) M) := if_pos e
      show Turns K _ _ tb G1 M (ffS p f M () x)
      rw [e2]
      exact h2 e
    | false =>
      have e2 : ffS p f M () x = .inl () := if_neg (by rw [e]; exact Bool.false_ne_true)
      show Turns K _ _ tb G1 M (ffS p f M () x)
      rw [e2]
      exact .inl (h3 e)
  rcases ff_loop p f M xs with ⟨x, e1, e2⟩ | ⟨e1, e2⟩
  · rw [e2] at h
    rw [hr x e1]
    exact es_seqR h
  · rw [e2] at h
    exact es_seq h (rest e1)
end
end DJ
namespace DJ
open PySem PySem.Spec PyProof.Rows L2
/-! ### a display of pairs whose keys are tuples -/
abbrev KTa (H : Hp) : List (V × V) → List (List Key × V) → Prop := Paired fun p q => ∃ b, p.1 = .ref b ∧ H b = some (.tup (q.1.map kV)) ∧ p.2 = q.2
def mergeT (kvs more : List (List Key × V)) : List (List Key × V) := more.foldl (fun acc kv => putK acc kv.1 kv.2) kvs
theorem len_mergeT : ∀ (more kvs : List (List Key × V)), (mergeT kvs more).length ≤ kvs.length + more.length
  | [], kvs => Nat.le_refl _
  | p :: r, kvs => by
    have h1 := len_mergeT r (putK kvs p.1 p.2)
    have h2 := length_putK kvs p.1 p.2
    rw [List.length_cons]
    exact Nat.le_trans h1 (by omega)
theorem KT_merge {H : Hp} : ∀ {more : List (List Key × V)} {rs : List (List Key × Addr × Value)}, KT H more rs → ∀ {kvs : List (List Key × V)} {xs : List (List Key × Addr × Value)}, KT H kvs xs → KT H (mergeT kvs more) (storedAllH xs rs) := by
  intro more rs r
  induction r with
  | nil => exact fun q => q
  | @cons p q ps qs h t ih =>
    intro kvs xs r0
    obtain ⟨h1, h2, h3⟩ := h
    have e : KT H (putK kvs p.1 p.2) (storedH xs q.1 q.2.1 q.2.2) := by
      rw [← h1]
      exact r0.put p.1 h2 h3
    exact ih e
theorem carriesT {P : Program} {w : World} {H : Hp} {h : Heap} (ok : HOk P w H h) : ∀ {ps : List (V × V)} {kvs : List (List Key × V)}, KTa H ps kvs → ∀ {ws : List (Value × Value)}, VV ps ws →
    ∃ rs : List (List Key × Addr × Value), CarriesH (tupleKind (mixKind P w)) h ws rs ∧ KT H kvs rs := by
  intro ps kvs r
  induction r with
  | nil =>
    intro ws v
    cases v
    exact ⟨[], True.intro, .nil⟩
  | @cons p q ps qs hp t ih =>
    intro ws v
    cases v with
    | @cons a b as bs h1 h2 =>
      obtain ⟨rs, c, k⟩ := ih h2
      obtain ⟨x, e1, e2, e3⟩ := hp
      obtain ⟨b1, b2⟩ := b
      obtain ⟨h3, h4⟩ := h1
      have h3 : RelV p.1 b1 := h3
      have h4 : RelV p.2 b2 := h4
      rw [e1] at h3
      rw [e3] at h4
      exact ⟨(q.1, x, b2) :: rs, ⟨h3, rfl, key_of ok e2, c⟩, .cons ⟨rfl, e2, h4⟩ k⟩
def tDispT (trs : List (TE × TE)) : TE := fun σ H Q => ∀ p, H p = none → tPairs trs σ (upd H p (.dT [])) fun ps H2 => H2 p = some (.dT []) ∧ ∃ kvs : List (List Key × V), KTa H2 ps kvs ∧ kvs.length ≤ 15 ∧ Q (.ref p) (upd H2 p (.dT (mergeT [] kvs)))
theorem pe_dispT {X : Cx} {pos : Pos} {keys : List (Option Expr)} {values : List Expr} {trs : List (TE × TE)} (h : PPs X pos keys values trs) (hu : X.A.units + 1 < cLine) (hall : keys.all (·.isSome) = true) (hl : keys.length = values.length) (h0 : keys ≠ [])
    (h15 : keys.length ≤ 15) : PE X (.Dict keys values pos) (tDispT trs) := by
  refine ⟨fun pins s σ H Q I q => ?_⟩
  have hn := I.hok.fresh (Nat.le_refl s.heap.objs.size)
  have I1 := I.laid (a := s.heap.objs.size) (o := .dT []) (h' := s.heap.push { cls := .type "dict", data := .dict #[] }) (t' := s.toks) (fun _ _ q => Heap.get?_push_of_some _ q) (Nat.le_refl _) (dt_empty s.heap I.big)
  have hm := pairTrees_length keys values X.env pos hall hl
  have hz := zip_pairTrees keys values X.env pos hall hl
  have hne : pairTrees keys values X.env pos ≠ [] := fun he => by
    rw [he] at hm
    exact h0 (List.length_eq_zero_iff.mp hm.symm)
  rw [arm_eval_Dict, hz, dictDisplay_pairs (pairTrees keys values X.env pos) hne (by omega)]
  refine wpAny_bind (wpAny_standAt (wpAny_bind (wpAny_subDictH (knd := tupleKind (mixKind X.prog X.w)) (Q := fun d s' => wpAny (model X.prog X.w) X.A (pure (Value.ref d)) (EP X pins σ Q) X.xe s') (show X.A.units < cLine by omega) (by omega) ?_)))
  refine thn (h.run pins _ σ _ _ I1 (q _ hn)) fun ws s2 r2 => ?_
  obtain ⟨ps, H2, I2, rel, e, kvs, ka, lk, q2⟩ := r2
  obtain ⟨rs, c, rk⟩ := carriesT (P := X.prog) (w := X.w) I2.hok ka rel
  obtain ⟨z, hd, xs0, r0, dd⟩ := dt_of I2.hok e
  cases r0
  refine ⟨rs, c, dd, fun h' tk dd' hs => wpAny_pure ⟨.ref s.heap.objs.size, _, ?_, rfl, q2⟩⟩
  have hz : (mergeT [] kvs).length ≤ sizeLine := by
    have h1 := len_mergeT kvs []
    rw [List.length_nil] at h1
    rw [sizeLine_eq]; omega
  obtain ⟨o, es, ep, hq, h2, h3, h4, _, h5⟩ := dd'
  refine d_write I2 (by rw [e]; exact True.intro) hs ⟨o, hq⟩ ⟨hz, hd, _, (KT_merge rk .nil).keeps fun c ys ec => ?_, o, es, ep, hq, h2, h3, h4, h5⟩
  rw [upd_ne (ne_of ec e (fun z => nomatch z))]
  exact ec
end DJ
namespace DJ
open PySem PySem.Spec PyProof.Rows L2
theorem room64 {k : Nat} {A : Around} (r : Room k A) : A.units + 64 < cLine := by have := r.un; omega
theorem room1 {k : Nat} {A : Around} (r : Room k A) : A.units + 1 < cLine := by have := r.un; omega
/-! ### a thing framed while pieces are made, then kept -/
section
variable {K : PySem.W.Frag} {F B H : Hp} {as : List Addr} {M : List MO} {p : Addr}
theorem Ow.frame (h : Ow K F B as M H) (hp : H p = none) (o : HO) : Ow K (upd F p o) B as M (upd H p o) := by
  obtain ⟨h1, h2, h3⟩ := h.fresh hp
  have ne : ∀ a ∈ as, a ≠ p := fun a ha e => h3 (e ▸ ha)
  refine ⟨fun a u e => ?_, fun a u e => ?_, h.len, h.nd, fun a ha => ?_, fun a ha => ?_, fun k a m e1 e2 hm => ?_⟩
  · by_cases ea : a = p
    · subst ea; rw [upd_same] at e ⊢; exact e
    · rw [upd_ne ea] at e ⊢; exact h.fb _ _ e
  · rw [upd_ne (ne_of_none e h2)]; exact h.bb _ _ e
  · rw [upd_ne (ne a ha)]; exact h.al a ha
  · rw [upd_ne (ne a ha)]; exact h.fa a ha
  · have ha := ne a (List.mem_of_getElem? e1)
    obtain ⟨q1, q2, q3⟩ := h.own k a m e1 e2 hm
    exact ⟨by rw [upd_ne ha]; exact q1, q2, MoR.mono (Same.refl B) (upd_ne ha) q3⟩
theorem Ow.keep {o o' : HO} (h : Ow K (upd F p o) B as M H) (hF : F p = none) (hB : B p = none) : Ow K F (upd B p o') as M (upd H p o') := by
  have ne : ∀ a ∈ as, a ≠ p := fun a ha e => by
    have := h.fa a ha
    rw [e, upd_same] at this
    cases this
  have sm : Same B (upd B p o') := fun a u e => by rw [upd_ne (ne_of_none e hB)]; exact e
  refine ⟨fun a u e => ?_, fun a u e => ?_, h.len, h.nd, fun a ha => ?_, fun a ha => ?_, fun k a m e1 e2 hm => ?_⟩
  · have ea := ne_of_none e hF
    rw [upd_ne ea]
    exact h.fb a u (by rw [upd_ne ea]; exact e)
  · by_cases ea : a = p
    · subst ea; rw [upd_same] at e ⊢; exact e
    · rw [upd_ne ea] at e ⊢; exact h.bb _ _ e
  · rw [upd_ne (ne a ha)]; exact h.al a ha
  · have := h.fa a ha
    rw [upd_ne (ne a ha)] at this
    exact this
  · have ha := ne a (List.mem_of_getElem? e1)
    obtain ⟨q1, q2, q3⟩ := h.own k a m e1 e2 hm
    rw [upd_ne ha] at q1
    exact ⟨q1, by rw [upd_ne ha]; exact q2, MoR.mono sm (upd_ne ha) q3⟩
theorem Gr.frame {o : HO} {B' : Hp} (g : Gr (upd F p o) B B') (hF : F p = none) : Gr F B B' := ⟨g.1, fun a f n => g.2 a (by
  have ea : a ≠ p := fun e => f.1 (by rw [e]; exact hF)
  rw [upd_ne ea]; exact f) n⟩
theorem Gr.keep {o o' : HO} {B' : Hp} (g : Gr (upd F p o) B B') (hF : F p = none) (hB : B p = none) (hk : Kp (some o)) : Gr F B (upd B' p o') := by
  have hB' : B' p = none := g.2 p (by rw [upd_same]; exact hk) hB
  refine ⟨fun a u e => ?_, fun a f n => ?_⟩
  · rw [upd_ne (ne_of_none e hB)]; exact g.1 a u e
  · have ea : a ≠ p := fun e => f.1 (by rw [e]; exact hF)
    rw [upd_ne ea]
    exact g.2 a (by rw [upd_ne ea]; exact f) n
end
/-! ### pairs -/
def RpP (K : PySem.W.Frag) (H : Hp) : List (Dt × Dt) → List (V × V) → Prop
  | [], ps => ps = []
  | d :: ds, ps => ∃ p r, ps = p :: r ∧ (Rp K H d.1 p.1 ∧ Rp K H d.2 p.2) ∧ RpP K H ds r
def EvP (K : PySem.W.Frag) (trs : List (TE × TE)) (G : List (Option Sl)) (M : List MO) (ds : List (Dt × Dt)) : Prop :=
  ∀ F B as σ H, Ow K F B as M H → Slt K B as G σ → ∀ Q : List (V × V) → Hp → Prop, (∀ ps B' as' H', Gr F B B' → Px as as' → Ow K F B' as' M H' → RpP K B' ds ps → Q ps H') → tPairs trs σ H Q
/-- a tuple of texts, as a key -/
def keyD (ks : List (List Nat)) : Dt := .ext fun H v => ∃ a, v = .ref a ∧ H a = some (.tup ((ks.map fun k => (Sum.inr (tx k) : Key)).map kV))
abbrev encT (p : List (List Nat) × List Nat) : List Key × V := (p.1.map fun k => (Sum.inr (tx k) : Key), .str (tx p.2))
abbrev encK (p : List Nat × List Nat) : Key × V := (Sum.inr (tx p.1), .str (tx p.2))
def dicT (kvs : List (List (List Nat) × List Nat)) : Dt := .ext fun H v => ∃ a, v = .ref a ∧ H a = some (.dT (mergeT [] (kvs.map encT)))
def dicK (kvs : List (List Nat × List Nat)) : Dt := .ext fun H v => ∃ a, v = .ref a ∧ H a = some (.dK (mergeK [] (kvs.map encK)))
section
variable {K : PySem.W.Frag} {B H : Hp} {G : List (Option Sl)} {M M1 M2 M3 : List MO} {tk tv td ty : TE} {trs : List (TE × TE)} {k v : Dt}
theorem RpP.mono {H' : Hp} (e : Same H H') : ∀ {ds : List (Dt × Dt)} {ps : List (V × V)}, RpP K H ds ps → RpP K H' ds ps
  | [], _, h => h
  | d :: ds, _, ⟨p, r, e1, h1, h2⟩ => ⟨p, r, e1, ⟨Rp.mono e _ _ h1.1, Rp.mono e _ _ h1.2⟩, RpP.mono e h2⟩
theorem ep_nil : EvP K [] G M [] := fun F B as σ H ow sl Q q => q [] B as H (Gr.refl F B) (Px.refl as) ow rfl
theorem ep_cons {ds : List (Dt × Dt)} (h1 : EvE K tk G M (.d k) M) (h2 : EvE K tv G M (.d v) M) (h3 : EvP K trs G M ds) : EvP K ((tk, tv) :: trs) G M ((k, v) :: ds) := fun F B as σ H ow sl Q q =>
  h1 F B as σ H ow sl _ fun x B1 as1 H1 g1 p1 o1 r1 => h2 F B1 as1 σ H1 o1 (sl.mono g1.1 p1) _ fun y B2 as2 H2 g2 p2 o2 r2 =>
    h3 F B2 as2 σ H2 o2 ((sl.mono g1.1 p1).mono g2.1 p2) _ fun ps B3 as3 H3 g3 p3 o3 r3 =>
      q _ B3 as3 H3 ((g1.trans g2).trans g3) ((p1.trans p2).trans p3) o3 ⟨(x, y), ps, rfl, ⟨Rp.mono (g2.trans g3).1 _ _ r1, Rp.mono g3.1 _ _ r2⟩, r3⟩
theorem strs_kV : ∀ ks : List (List Nat), ((ks.map tx).map V.str) = ((ks.map fun k => (Sum.inr (tx k) : Key)).map kV)
  | [] => rfl
  | k :: ks => by
    rw [List.map_cons, List.map_cons, List.map_cons, List.map_cons, strs_kV ks] <;> rfl
theorem ev_tupK {tr : TA} {ks : List (List Nat)} (ha : EvA K tr G M (ks.map fun k => Sl.d (.str k)) M1) (hl : ks.length ≤ 1000) : EvE K (tTup tr) G M (.d (keyD ks)) M1 := fun F B as σ H o sl Q q =>
  ha F B as σ H o sl _ fun vs B1 as1 H1 g1 p1 o1 r1 => ⟨by rw [r1.len, List.length_map]; exact Nat.le_trans hl (by decide), fun p hp => by
    have e : (ks.map fun k => Sl.d (.str k)) = (ks.map Dt.str).map Sl.d := by rw [List.map_map] <;> rfl
    rw [e] at r1
    have r2 := (SlL.data r1).strs
    have g2 := o1.gr hp (.tup vs)
    refine q _ _ as1 _ (g1.trans g2) p1 (o1.new hp _) fun H' s => ⟨p, rfl, s _ _ ?_⟩
    rw [upd_same, r2, strs_kV]⟩
theorem kta_of : ∀ {kvs : List (List (List Nat) × List Nat)} {ps : List (V × V)}, RpP K B (kvs.map fun p => (keyD p.1, Dt.str p.2)) ps → KTa B ps (kvs.map encT)
  | [], _, h => by
    rw [show _ = [] from h]
    exact .nil
  | p :: kvs, _, ⟨x, r, e, ⟨h1, h2⟩, h3⟩ => by
    subst e
    obtain ⟨a, e1, e2⟩ := h1 B (Same.refl B)
    exact .cons ⟨a, e1, e2, h2⟩ (kta_of h3)
theorem KTa.mono {H' : Hp} (e : Same B H') {ps : List (V × V)} {kvs : List (List Key × V)} (r : KTa B ps kvs) : KTa H' ps kvs := Paired.mapP r fun _ _ z => let ⟨b, h1, h2, h3⟩ := z; ⟨b, h1, e _ _ h2, h3⟩
theorem ev_dispT (kvs : List (List (List Nat) × List Nat)) (h : EvP K trs G M (kvs.map fun p => (keyD p.1, Dt.str p.2))) (hl : kvs.length ≤ 15) : EvE K (tDispT trs) G M (.d (dicT kvs)) M := fun F B as σ H ow sl Q q p hp => by
  obtain ⟨f1, f2, _⟩ := ow.fresh hp
  refine h (upd F p (.dT [])) B as σ _ (ow.frame hp _) sl _ fun ps B1 as1 H1 g1 p1 o1 r1 => ?_
  refine ⟨o1.fb p _ upd_same, kvs.map encT, KTa.mono o1.bb (kta_of r1), by rw [List.length_map]; exact hl, ?_⟩
  have b1 : B1 p = none := g1.2 p (by rw [upd_same]; exact ⟨fun z => (nomatch z), fun _ z => (nomatch z)⟩) f2
  exact q _ (upd B1 p _) as1 _ (g1.keep f1 f2 ⟨fun z => (nomatch z), fun _ z => (nomatch z)⟩) p1 (o1.keep f1 b1) fun H' s => ⟨p, rfl, s _ _ upd_same⟩
theorem vk_of : ∀ {kvs : List (List Nat × List Nat)} {ps : List (V × V)}, RpP K B (kvs.map fun p => (Dt.str p.1, Dt.str p.2)) ps → ps = (kvs.map encK).map fun kv => (kV kv.1, kv.2)
  | [], _, h => h
  | p :: kvs, _, ⟨x, r, e, ⟨h1, h2⟩, h3⟩ => by
    subst e
    obtain ⟨x1, x2⟩ := x
    have h1 : x1 = V.str (tx p.1) := h1
    have h2 : x2 = V.str (tx p.2) := h2
    rw [vk_of h3, h1, h2]
    rfl
theorem ev_dispK (kvs : List (List Nat × List Nat)) (h : EvP K trs G M (kvs.map fun p => (Dt.str p.1, Dt.str p.2))) (hl : kvs.length ≤ 15) : EvE K (tDisp trs) G M (.d (dicK kvs)) M := fun F B as σ H ow sl Q q p hp => by
  obtain ⟨f1, f2, _⟩ := ow.fresh hp
  refine h (upd F p (.dK [])) B as σ _ (ow.frame hp _) sl _ fun ps B1 as1 H1 g1 p1 o1 r1 => ?_
  refine ⟨o1.fb p _ upd_same, kvs.map encK, vk_of r1, by rw [List.length_map]; exact hl, ?_⟩
  have b1 : B1 p = none := g1.2 p (by rw [upd_same]; exact ⟨fun z => (nomatch z), fun _ z => (nomatch z)⟩) f2
  exact q _ (upd B1 p _) as1 _ (g1.keep f1 f2 ⟨fun z => (nomatch z), fun _ z => (nomatch z)⟩) p1 (o1.keep f1 b1) fun H' s => ⟨p, rfl, s _ _ upd_same⟩
/-- d.get(k, x) -/
theorem ev_getT {tx' : TE} {kvs : List (List (List Nat) × List Nat)} {ks : List (List Nat)} {x z : List Nat} (hd : EvE K td G M (.d (dicT kvs)) M1) (hk : EvE K ty G M1 (.d (keyD ks)) M2) (hx : EvE K tx' G M2 (.d (.str x)) M3)
    (hz : (valV (mergeT [] (kvs.map encT)) (ks.map fun k => (Sum.inr (tx k) : Key))).getD (.str (tx x)) = .str (tx z)) : EvE K (tDGet2 td ty tx') G M (.d (.str z)) M3 := fun F B as σ H ow sl Q q =>
  hd F B as σ H ow sl _ fun v B1 as1 H1 g1 p1 o1 r1 => by
    obtain ⟨a, rfl, ha⟩ := r1 B1 (Same.refl _)
    refine ⟨a, rfl, .inr ⟨_, .inl (o1.bb _ _ ha)⟩, hk F B1 as1 σ H1 o1 (sl.mono g1.1 p1) _ fun y B2 as2 H2 g2 p2 o2 r2 => hx F B2 as2 σ H2 o2 ((sl.mono g1.1 p1).mono g2.1 p2) _ fun u B3 as3 H3 g3 p3 o3 r3 => ?_⟩
    obtain ⟨b, rfl, hb⟩ := r2 B2 (Same.refl _)
    have r3 : u = .str (tx x) := r3
    subst r3
    refine ⟨_, .inr ⟨_, _, b, .inl (o3.bb _ _ (g3.1 _ _ (g2.1 _ _ ha))), rfl, o3.bb _ _ (g3.1 _ _ hb), rfl⟩, ?_⟩
    exact q _ B3 as3 H3 ((g1.trans g2).trans g3) ((p1.trans p2).trans p3) o3 hz
theorem ev_getK {tx' : TE} {kvs : List (List Nat × List Nat)} {k x z : List Nat} (hd : EvE K td G M (.d (dicK kvs)) M1) (hk : EvE K ty G M1 (.d (.str k)) M2) (hx : EvE K tx' G M2 (.d (.str x)) M3)
    (hz : (valV (mergeK [] (kvs.map encK)) (Sum.inr (tx k))).getD (.str (tx x)) = .str (tx z)) : EvE K (tDGet2 td ty tx') G M (.d (.str z)) M3 := fun F B as σ H ow sl Q q =>
  hd F B as σ H ow sl _ fun v B1 as1 H1 g1 p1 o1 r1 => by
    obtain ⟨a, rfl, ha⟩ := r1 B1 (Same.refl _)
    refine ⟨a, rfl, .inl ⟨_, .inl (o1.bb _ _ ha)⟩, hk F B1 as1 σ H1 o1 (sl.mono g1.1 p1) _ fun y B2 as2 H2 g2 p2 o2 r2 => hx F B2 as2 σ H2 o2 ((sl.mono g1.1 p1).mono g2.1 p2) _ fun u B3 as3 H3 g3 p3 o3 r3 => ?_⟩
    have r2 : y = .str (tx k) := r2
    have r3 : u = .str (tx x) := r3
    subst r3; subst r2
    refine ⟨_, .inl ⟨_, (Sum.inr (tx k) : Key), .inl (o3.bb _ _ (g3.1 _ _ (g2.1 _ _ ha))), rfl, rfl⟩, ?_⟩
    exact q _ B3 as3 H3 ((g1.trans g2).trans g3) ((p1.trans p2).trans p3) o3 hz
end
/-! ### == of lists of texts -/
section
variable {K : PySem.W.Frag}
theorem dp_strs {H : Hp} : ∀ xs : List (List Nat), DpAll K H ((xs.map tx).map V.str) (xs.map fun x => PyData.str (tx x))
  | [] => .nil
  | x :: xs => .cons (.str _) (dp_strs xs)
theorem tx_beq (x y : List Nat) : (tx x == tx y) = decide (x = y) := by
  by_cases h : x = y
  · subst h
    rw [decide_eq_true rfl, beq_self_eq_true]
  · rw [decide_eq_false h]
    refine beq_eq_false_iff_ne.mpr fun e => h ?_
    have e2 : (tx x).cps = (tx y).cps := congrArg _ e
    simpa using congrArg Array.toList e2
theorem eqv_strs : ∀ xs ys : List (List Nat), PyData.eqvAll (xs.map fun x => PyData.str (tx x)) (ys.map fun x => PyData.str (tx x)) = decide (xs = ys)
  | [], [] => rfl
  | [], _ :: _ => rfl
  | _ :: _, [] => rfl
  | x :: xs, y :: ys => by
    show ((tx x == tx y) && PyData.eqvAll (xs.map _) (ys.map _)) = _
    rw [eqv_strs xs ys, tx_beq]
    by_cases h : x = y
    · subst h
      rw [decide_eq_true rfl, Bool.true_and]
      simp
    · rw [decide_eq_false h, Bool.false_and]
      simp [h]
def Asc (l : List Nat) : Prop := ∀ c ∈ l, c < 128
theorem lay_strs : ∀ xs : List (List Nat), (∀ x ∈ xs, Asc x) → PyData.canLayAll0 (xs.map fun x => PyData.str (tx x)) = true ∧ PyData.depthAll (xs.map fun x => PyData.str (tx x)) = 0
  | [], _ => ⟨rfl, rfl⟩
  | x :: xs, h => by
    obtain ⟨h1, h2⟩ := lay_strs xs fun y hy => h y (List.mem_cons_of_mem _ hy)
    have hx := h x List.mem_cons_self
    have h3 : PyData.strOk (tx x) = true := by
      unfold PyData.strOk
      show x.toArray.all _ = true
      rw [← Array.all_toList]
      show x.all _ = true
      rw [List.all_eq_true]
      intro c hc
      exact decide_eq_true (Nat.lt_trans (hx c hc) (by decide))
    refine ⟨?_, ?_⟩
    · show (PyData.strOk (tx x) && PyData.canLayAll0 _) = true
      rw [h3, h1] <;> rfl
    · show max 0 (PyData.depthAll _) = 0
      rw [h2] <;> rfl
theorem shp_strs {xs : List (List Nat)} (h : ∀ x ∈ xs, Asc x) : SeqAt.shaped (.list (xs.map fun x => PyData.str (tx x))) = true := by
  obtain ⟨h1, h2⟩ := lay_strs xs h
  unfold SeqAt.shaped
  rw [Bool.and_eq_true]
  refine ⟨h1, decide_eq_true ?_⟩
  show PyData.depthAll _ + 1 ≤ 64
  rw [h2]
  decide
theorem ro_eqTs {xs ys : List (List Nat)} (hx : ∀ x ∈ xs, Asc x) (hy : ∀ x ∈ ys, Asc x) : RO K (rEqD K) (.lst (xs.map .str)) (.lst (ys.map .str)) (.bl (decide (xs = ys))) := fun F B as M H v u Q ow r1 r2 q => by
  obtain ⟨a, vs, e1, h1, h2⟩ := r1
  obtain ⟨b, us, e2, h3, h4⟩ := r2
  have h2 := h2.strs
  have h4 := h4.strs
  subst h2; subst h4; subst e1; subst e2
  refine ⟨_, _, .lst (ow.bb.seq h1) (dp_strs xs), .lst (ow.bb.seq h3) (dp_strs ys), shp_strs hx, shp_strs hy, q _ B H (Gr.refl F B) ow ?_⟩
  show V.bl (PyData.eqvAll _ _) = _
  rw [eqv_strs]
end
end DJ
namespace DJ
open PySem PySem.Spec PyProof.Rows L2
/-! ### lists that are put together -/
def lstX (K : PySem.W.Frag) (xs : List Dt) : Dt := .ext fun H v => ∃ a vs, v = .ref a ∧ H a = some (.lst vs) ∧ RpL K H xs vs
section
variable {K : PySem.W.Frag} {B H : Hp} {G : List (Option Sl)} {M M1 M2 M3 : List MO} {te : TE} {x y : Dt}
theorem ev_wk (h : EvE K te G M (.d x) M1) (w : ∀ B v, Rp K B x v → Rp K B y v) : EvE K te G M (.d y) M1 := fun F B as σ H o sl Q q =>
  h F B as σ H o sl _ fun v B1 as1 H1 g1 p1 o1 r1 => q v B1 as1 H1 g1 p1 o1 (w B1 v r1)
theorem lstX_lst {xs : List Dt} (B : Hp) (v : V) (h : Rp K B (lstX K xs) v) : Rp K B (.lst xs) v := by
  obtain ⟨a, vs, e, h1, h2⟩ := h B (Same.refl B)
  exact ⟨a, vs, e, .inl (.inl h1), h2⟩
theorem ev_lstX {tr : TA} {xs : List Dt} (ha : EvA K tr G M (xs.map Sl.d) M1) (hl : xs.length ≤ 1000) : EvE K (tLst tr) G M (.d (lstX K xs)) M1 := fun F B as σ H o sl Q q =>
  ha F B as σ H o sl _ fun vs B1 as1 H1 g1 p1 o1 r1 => ⟨by rw [r1.len, List.length_map]; exact Nat.le_trans hl (by decide), fun p hp => by
    have g2 := o1.gr hp (.lst vs)
    exact q _ _ as1 _ (g1.trans g2) p1 (o1.new hp _) fun H' s => ⟨p, vs, rfl, s _ _ upd_same, RpL.mono (g2.1.trans s) _ _ (SlL.data r1)⟩⟩
theorem ro_cat {xs ys : List Dt} (h : xs.length + ys.length ≤ 100000) : RO K rCat (lstX K xs) (lstX K ys) (lstX K (xs ++ ys)) := fun F B as M H v u Q ow r1 r2 q => by
  obtain ⟨a, vs, e1, h1, h2⟩ := r1 B (Same.refl B)
  obtain ⟨b, us, e2, h3, h4⟩ := r2 B (Same.refl B)
  refine ⟨a, b, vs, us, e1, e2, ow.bb _ _ h1, ow.bb _ _ h3, by rw [h2.len, h4.len]; exact Nat.le_trans h (by decide), fun p hp => ?_⟩
  have g2 := ow.gr hp (.lst (vs ++ us))
  exact q _ _ _ g2 (ow.new hp _) fun H' s => ⟨p, _, rfl, s _ _ upd_same, RpL.append (RpL.mono (g2.1.trans s) _ _ h2) (RpL.mono (g2.1.trans s) _ _ h4)⟩
theorem RpL.rep {xs : List Dt} {vs : List V} (h : RpL K H xs vs) : ∀ n : Nat, RpL K H (List.replicate n xs).flatten (List.replicate n vs).flatten
  | 0 => rfl
  | n + 1 => by
    rw [List.replicate_succ, List.replicate_succ, List.flatten_cons, List.flatten_cons]
    exact RpL.append h (RpL.rep h n)
theorem ro_rep {xs : List Dt} {k : Nat} (h : xs.length * k ≤ 100000) (hk : k ≤ 100000) : RO K rRep (lstX K xs) (.int (k : Int)) (lstX K (List.replicate k xs).flatten) := fun F B as M H v u Q ow r1 r2 q => by
  obtain ⟨a, vs, e1, h1, h2⟩ := r1 B (Same.refl B)
  have r2 : u = .int (k : Int) := r2
  refine ⟨a, (k : Int), vs, e1, r2, ow.bb _ _ h1, by omega, by omega, by rw [h2.len, Int.toNat_natCast]; exact Nat.le_trans h (by decide), fun p hp => ?_⟩
  have g2 := ow.gr hp (.lst (List.replicate (k : Int).toNat vs).flatten)
  rw [Int.toNat_natCast] at g2 ⊢
  exact q _ _ _ g2 (ow.new hp _) fun H' s => ⟨p, _, rfl, s _ _ upd_same, RpL.mono (g2.1.trans s) _ _ (RpL.rep h2 k)⟩
/-- the one owned thing is handed on -/
theorem ev_w {E : XK} {n : Nat} {R : List Sl → List MO → Sl → List MO → Prop} {ta : TA} {ds : List Dt} {m m' : MO} {z : Dt} (h : EvA K ta G M (.o 0 :: ds.map Sl.d) [m]) (hg : m ≠ .gone) (hR : R (.o 0 :: ds.map Sl.d) [m] (.d z) [m']) (hg' : m' ≠ .gone) (hn : ds.length + 1 = n) :
    EvE K (tCall (SpR K n R) [] E ta) G M (.d z) [m'] := by
  have e : (.o 0 :: ds.map Sl.d : List Sl).map (to0 0) = .o 0 :: ds.map Sl.d := by
    rw [List.map_cons, List.map_map]
    congr 1
  have := ev_call1 (k := 0) (es := []) (dvs := []) (E := E) (n := n) (R := R) (z := z) h rfl hg (fun s hs j e => ?_) (by rw [e, List.map_nil, List.append_nil]; exact hR) hg' (by rw [List.length_cons, List.length_map]; exact hn) (fun _ => rfl)
  · exact this
  · rcases List.mem_cons.mp hs with z | z
    · rw [e] at z; cases z; rfl
    · obtain ⟨d, _, hd⟩ := List.mem_map.mp z
      rw [e] at hd; cases hd
theorem es_nM {t : TS} {o : Out} {M' : List MO} (e : M = M') (h : EvS K t G M' o) : EvS K t G M o := e ▸ h
end
/-- words of few signs -/
def Wd (n : Nat) (l : List Nat) : Prop := l.length ≤ n ∧ Asc l
theorem Wd.mono {n m : Nat} {l : List Nat} (h : Wd n l) (e : n ≤ m) : Wd m l := ⟨Nat.le_trans h.1 e, h.2⟩
theorem Wd.app {n m k : Nat} {l l' : List Nat} (h : Wd n l) (h' : Wd m l') (e : n + m ≤ k) : Wd k (l ++ l') := ⟨by rw [List.length_append]; have := h.1; have := h'.1; omega, fun c hc => (List.mem_append.mp hc).elim (h.2 c) (h'.2 c)⟩
theorem Wd.take {n : Nat} {l : List Nat} (h : Wd n l) (k : Nat) : Wd n (l.take k) := ⟨by rw [List.length_take]; have := h.1; omega, fun c hc => h.2 c (List.mem_of_mem_take hc)⟩
theorem Wd.drop {n : Nat} {l : List Nat} (h : Wd n l) (k : Nat) : Wd n (l.drop k) := ⟨by rw [List.length_drop]; have := h.1; omega, fun c hc => h.2 c (List.mem_of_mem_drop hc)⟩
instance (l : List Nat) : Decidable (Asc l) := inferInstanceAs (Decidable (∀ c ∈ l, c < 128))
instance (n : Nat) (l : List Nat) : Decidable (Wd n l) := inferInstanceAs (Decidable (l.length ≤ n ∧ ∀ c ∈ l, c < 128))
theorem Wd.flat {n : Nat} : ∀ {xs : List (List Nat)}, (∀ x ∈ xs, Wd n x) → Wd (n * xs.length) xs.flatten
  | [], _ => ⟨Nat.zero_le _, fun _ h => nomatch h⟩
  | x :: xs, h => by
    rw [List.flatten_cons]
    exact Wd.app (h x List.mem_cons_self) (Wd.flat fun y hy => h y (List.mem_cons_of_mem _ hy)) (by rw [List.length_cons, Nat.mul_succ]; omega)
theorem mapA_all {μ β γ : Type} {f : μ → β → γ × μ} {p : γ → Prop} (h : ∀ m x, p (f m x).1) : ∀ (xs : List β) (m : μ), ∀ y ∈ (mapA f xs m).1, p y
  | [], _, _, hy => nomatch hy
  | x :: xs, m, y, hy => by
    rcases List.mem_cons.mp hy with e | hy
    · rw [e]; exact h m x
    · exact mapA_all h xs _ y hy
theorem mapA_len {μ β γ : Type} {f : μ → β → γ × μ} : ∀ (xs : List β) (m : μ), (mapA f xs m).1.length = xs.length
  | [], _ => rfl
  | x :: xs, m => by
    show (mapA f xs _).1.length + 1 = _
    rw [mapA_len xs, List.length_cons]
theorem flat_one : ∀ l : List Nat, (l.map fun c => [c]).flatten = l
  | [] => rfl
  | c :: l => by
    rw [List.map_cons, List.flatten_cons, flat_one l] <;> rfl
theorem sum_one : ∀ l : List Nat, (l.map fun c => ([c] : List Nat).length).sum = l.length
  | [] => rfl
  | c :: l => by
    rw [List.map_cons, List.sum_cons, sum_one l, List.length_cons]
    exact Nat.add_comm 1 l.length
end DJ
namespace DJ
open PySem PySem.Spec PyProof.Rows L2
/-! ### called by names -/
structure CalF (P : Program) (w : World) (K : PySem.W.Frag) (mg : Str → Option Value) (base : Heap) (k : Nat) (x : Str) (st : Stmt) (ps : List Str) (sp : Sp) : Prop where
  ex : ∃ (f : Addr) (fd : FuncData), FnOk P w K mg base CX0 k f fd ps sp ∧ L2.Fun K x x st f fd ∧ mg x = some (.ref f) ∧ Binds K fd ps []
abbrev gCat (us ws : List Value) : List Value := us ++ ws
abbrev gCatV (us ws : List V) : List V := us ++ ws
structure CalK (P : Program) (w : World) (K : PySem.W.Frag) (mg : Str → Option Value) (base : Heap) (k : Nat) (x : Str) (ks : List Str) (sp : Sp) : Prop where
  ex : ∃ (f : Addr) (fd : FuncData) (ps : List Str), FnOk P w K mg base CX0 k f fd ps sp ∧ mg x = some (.ref f) ∧ PySem.W.keepIn K (.ref f) = true ∧ KBinds K fd ps ks gCat gCatV
section
variable {P : Program} {w : World} {K : PySem.W.Frag} {mg : Str → Option Value} {base : Heap}
theorem CalF.cal {k : Nat} {x : Str} {st : Stmt} {ps : List Str} {sp : Sp} (c : CalF P w K mg base k x st ps sp) : Cal P w K mg base k x sp [] := by
  obtain ⟨f, fd, F, U, hm, b⟩ := c.ex
  exact ⟨f, fd, ps, [], F, hm, U.kp, b, .nil⟩
theorem CalF.kw {k : Nat} {x y : Str} {st : Stmt} {sp : Sp} (c : CalF P w K mg base k x st [y] sp)
    (h : ∀ (kV doc pm : Value) (an : Option Addr) (cdv ct u : Value), bindArgs (PySem.W.fnOf x x (defArgs st) (defBody st) (defScope st) .none kV doc pm an cdv ct) ⟨[], [(y, u)]⟩ = pure [(y, u)]) : CalK P w K mg base k x [y] sp := by
  obtain ⟨f, fd, F, U, hm, b⟩ := c.ex
  refine ⟨f, fd, [y], F, hm, U.kp, ⟨fun s us ws hK hl => ?_, fun r1 r2 => Vals.append r1 r2⟩⟩
  have hl : (us ++ ws).length = 1 := hl
  match us, ws, hl with
  | [u], [], _ => exact b s [u] hK rfl
  | [], [u], _ =>
    obtain ⟨oc, od, kV, doc, pm, an, cdv, ct, osl, rfl, lk, hcd⟩ := U.ex
    exact .of_eq (h kV doc pm an cdv ct u)
theorem cal_mkF {x : Str} {st : Stmt} {N ps : List Str} {k n : Nat} {R : List Sl → List MO → Sl → List MO → Prop} (D : Df K mg x st ps) (S : FnScope N ps (defScope st)) (hn : ps.length = n)
    (hb : ∀ (f : Addr) (cdv : Value) (A : Around) (outer : List Env) (s : Shared) (H : Hp) (E : XK), Room k (A.deeper (envOfC x (defScope st) s.heap.objs.size f cdv)) → ∀ ss M r M', R ss M r M' →
      ∃ t X, PSs (cxOf CX0 P w K mg base N x (defScope st) f cdv A outer s H E).nox (defBody st) t ∧ EvS K t (start N.length ss) M (.rt r (M' ++ X)) ∧ M.length ≤ M'.length ∧ ∀ j, r = .o j → j < M'.length) :
    CalF P w K mg base (k + 1) x st ps (SpR K n R) := by
  obtain ⟨f, fd, F, hm, b⟩ := D.ex
  refine ⟨f, fd, F.ok S (fun vs H Q E h => ?_) (fun cdv A outer s H vs Q E hr h => ?_), F, hm, b⟩
  · obtain ⟨_, _, _, _, _, _, _, _, _, _, e, _⟩ := h
    rw [e, hn]
  · obtain ⟨F', B, as, ss, M, r, M', hR, ow, sl, _, q⟩ := h
    obtain ⟨t, X, ht, he, hl, hr'⟩ := hb f cdv A outer s H E hr ss M r M' hR
    exact ⟨t, ht, run_body (X := X) he hl hr' ow sl q⟩
end
section
variable {X : Cx} {k j : Nat} {x : Str} {ks : List Str} {sp : Sp} {p pos : Pos} {kws : List Keyword} {tk : TA}
theorem pe_cK (c : CalK X.prog X.w X.K X.mg X.base k x ks sp) (hr : Room j X.A) (hk : k ≤ j) (hg : Gl X x) (hkw : PK X kws tk)
    (hall : (backToKw pos (keywordEach kws X.env)).all (·.1.isSome) = true := by rfl) (hks : (backToKw pos (keywordEach kws X.env)).filterMap (·.1) = ks := by rfl) (hdb : (x == ("__debug__" : Str)) = false := by decide)
    (hpl : ((backTo pos (starEach [] X.env)).any (·.1) || (backToKw pos (keywordEach kws X.env)).any (·.1.isNone)) = false := by rfl) : PE X (.Call (.Name x p) [] kws pos) (tCallK sp gCatV L2.E0 tNil tk) := by
  obtain ⟨f, fd, ps, F, hm, kp, hb⟩ := c.ex
  refine ⟨fun pins s σ H Q I h => ?_⟩
  refine wpAny_Call_Name_kw (ld_glob I hg hm ?_ hdb)
  refine PySem.W.callWith_KW0 (h₀ := X.base) I.ok.mod.kin kp hall (thn (hkw.run pos pins s σ H _ I h) fun ws s2 r2 => ?_) hpl
  obtain ⟨zs, H2, I2, rz, q2⟩ := r2
  refine ⟨I2.kIn, ?_⟩
  rw [hks]
  exact run_fnk (us := []) (vs := []) F (hr.mono hk) hb L2.pass0 I2 .nil rz q2
end
section
variable {K : PySem.W.Frag} {G : List (Option Sl)} {M M1 : List MO} {sp : Sp} {E : XK} {tk : TA} {s : Sl}
theorem ev_kw (h : EvE K (tCall sp [] E tk) G M s M1) : EvE K (tCallK sp gCatV E tNil tk) G M s M1 := by
  have e : tCallK sp gCatV E tNil tk = tCall sp [] E tk := by
    funext σ H Q
    show tk σ H (fun zs H2 => sp ([] ++ zs) H2 Q E) = tk σ H (fun zs H2 => sp (zs ++ []) H2 Q E)
    simp only [List.append_nil, List.nil_append]
  rw [e]
  exact h
end
/-! ### what was made for a turn is let go -/
section
variable {K : PySem.W.Frag} {G G1 : List (Option Sl)} {M X M1 : List MO} {t : TS} {wi : TI} {te : TE}
theorem es_nxT (h : EvS K t G M (.nx G1 (M ++ X))) (hg : ∀ k, some (Sl.o k) ∉ G1) : EvS K t G M (.nx G1 M) := fun F B as σ H ow sl D gd =>
  h F B as σ H ow sl D fun B' as' σ' H' g p o' s' => by
    obtain ⟨tl, rfl⟩ := p
    refine gd B' as σ' H' g (Px.refl as) ⟨o'.fb, o'.bb, ow.len, ow.nd, fun a ha => o'.al a (List.mem_append_left _ ha), fun a ha => o'.fa a (List.mem_append_left _ ha), fun k a m e1 e2 hm => ?_⟩ ⟨s'.1, fun i s e => ?_⟩
    · refine o'.own k a m ?_ ?_ hm
      · rw [List.getElem?_append_left (List.getElem?_eq_some_iff.mp e1).1]
        exact e1
      · rw [List.getElem?_append_left (List.getElem?_eq_some_iff.mp e2).1]
        exact e2
    · obtain ⟨v, e1, r⟩ := s'.2 i s e
      refine ⟨v, e1, ?_⟩
      cases s with
      | d x => exact r
      | o k => exact absurd (List.mem_of_getElem? e) (hg k)
theorem ei_is {xs ys : List Dt} (h : EvI K wi G M xs M1) (e : xs = ys) : EvI K wi G M ys M1 := e ▸ h
end
/-- a law's promise, asked with a list of whole numbers -/
theorem sp_of {K : PySem.W.Frag} {R : List Sl → List MO → Sl → List MO → Prop} {H : Hp} {a : Addr} {ns : List Int} {E : XK} (hS : SqL K H a (ns.map V.int)) (hR : R [.d (.lst (ns.map .int))] [] (.d (.bl true)) []) : SpR K 1 R [.ref a] H (fun v _ => v = .bl true) E := by
  have ri : ∀ ns : List Int, RpL K H (ns.map Dt.int) (ns.map V.int) := fun ns => by
    induction ns with
    | nil => rfl
    | cons n ns ih => exact ⟨_, _, rfl, rfl, ih⟩
  refine ⟨fun _ => none, H, [], _, [], _, [], hR, ⟨fun _ _ e => (nomatch e), Same.refl H, rfl, List.nodup_nil, fun _ h => (nomatch h), fun _ h => (nomatch h), fun k a m e => by simp at e⟩, ⟨.ref a, [], rfl, ⟨a, _, rfl, hS, ri ns⟩, rfl⟩, rfl, fun v B' as' H' _ _ _ r => ?_⟩
  exact r
section
variable {K : PySem.W.Frag} {mg : Str → Option Value} {h : Heap}
theorem df_mk {x : Str} {st : Stmt} {ps : List Str} {f : Addr} {oc : Value} {od an : Option Addr} {osl : Array (Option Value)} {kV doc pm cdv ct : Value} (X : K.In h) (G : h.Ns mainGlobals mg) (a : PySem.W.nsIn K mainGlobals x = some (some (.ref f)))
    (l : K.lookup f = some ⟨oc, od, .func (PySem.W.fnOf x x (defArgs st) (defBody st) (defScope st) .none kV doc pm an cdv ct), osl⟩) (c : PySem.W.codeIn K cdv x = true) (k : PySem.W.keepIn K (.ref f) = true)
    (hb : ∀ (kV doc pm : Value) (an : Option Addr) (cdv ct : Value) (us : List Value), us.length = ps.length → bindArgs (PySem.W.fnOf x x (defArgs st) (defBody st) (defScope st) .none kV doc pm an cdv ct) ⟨us, []⟩ = pure (ps.zip us)) : Df K mg x st ps :=
  ⟨f, _, fun_mk l c k, PySem.W.mg_of X G a, (fun_mk l c k).binds hb⟩
theorem gc_str {x : Str} {l : List Nat} {t : Tok} (X : K.In h) (G : h.Ns mainGlobals mg) (a : PySem.W.nsIn K mainGlobals x = some (some (.str (tx l) t))) : Gc K mg x (.str l) := ⟨.str (tx l), _, PySem.W.mg_of X G a, ⟨t, rfl⟩, fun _ => rfl⟩
theorem gc_int {x : Str} {i : Int} {t : Tok} (X : K.In h) (G : h.Ns mainGlobals mg) (a : PySem.W.nsIn K mainGlobals x = some (some (.int i t))) : Gc K mg x (.int i) := ⟨.int i, _, PySem.W.mg_of X G a, ⟨t, rfl⟩, fun _ => rfl⟩
/-- these values are these texts -/
def strsOf : List (List Nat) → List Value → Bool
  | [], [] => true
  | l :: ls, .str x _ :: vs => decide (x = tx l) && strsOf ls vs
  | _, _ => false
theorem vals_strs : ∀ {ls : List (List Nat)} {vs : List Value}, strsOf ls vs = true → Vals ((ls.map tx).map V.str) vs
  | [], [], _ => .nil
  | l :: ls, .str x t :: vs, h => by
    have h : (decide (x = tx l) && strsOf ls vs) = true := h
    rw [Bool.and_eq_true, decide_eq_true_eq] at h
    exact .cons ⟨t, by rw [h.1]⟩ (vals_strs h.2)
  | [], _ :: _, h => by cases h
  | _ :: _, [], h => by cases h
  | _ :: _, .none :: _, h => by cases h
  | _ :: _, .bool _ :: _, h => by cases h
  | _ :: _, .int _ _ :: _, h => by cases h
  | _ :: _, .ref _ :: _, h => by cases h
theorem gc_tup {x : Str} {ls : List (List Nat)} {a : Addr} {oc : Value} {od : Option Addr} {its : Array Value} {n : Nat} {sl : Array (Option Value)} (X : K.In h) (G : h.Ns mainGlobals mg) (e : PySem.W.nsIn K mainGlobals x = some (some (.ref a)))
    (l : K.lookup a = some ⟨oc, od, .seq its n, sl⟩) (hc : oc = .type "tuple") (hz : its.size ≤ 1000) (hs : strsOf ls its.toList = true) : Gc K mg x (.tup (ls.map Dt.str)) :=
  ⟨.ref a, _, PySem.W.mg_of X G e, rfl, fun B => ⟨a, _, rfl, .inr ⟨_, its, n, l, hc, rfl, Nat.le_trans hz (by decide), vals_strs hs⟩, RpL.strs_of ls⟩⟩
end
end DJ
namespace DJ
open PySem PySem.W PyProof.Rows PySem.Spec L2
/-! ### the order of tuples of two texts -/
def txo : Option Value → Str
  | some (.str x _) => x
  | _ => ⟨#[]⟩
def itemsAt (h : Heap) (a : Addr) : List Value := match h.get? a with
  | some o => (match o.data with
    | .seq xs _ => xs.toList
    | _ => [])
  | none => []
def twoAt (h : Heap) : Value → Str × Str
  | .ref a => (txo (itemsAt h a)[0]?, txo (itemsAt h a)[1]?)
  | _ => (⟨#[]⟩, ⟨#[]⟩)
/-- v is a tuple of two texts -/
def Two (h : Heap) (v : Value) (e : Str × Str) : Prop := ∃ (a : Addr) (t u : Tok), v = .ref a ∧ IsTup h a #[.str e.1 t, .str e.2 u]
theorem Two.at {h : Heap} {v : Value} {e : Str × Str} (x : Two h v e) : twoAt h v = e := by
  obtain ⟨a, t, u, rfl, o, ho, hc, n, hd⟩ := x
  have z : itemsAt h a = [.str e.1 t, .str e.2 u] := by
    unfold itemsAt
    rw [ho]
    show (match o.data with
      | .seq xs _ => xs.toList
      | _ => []) = _
    rw [hd]
  show (txo (itemsAt h a)[0]?, txo (itemsAt h a)[1]?) = e
  rw [z] <;> rfl
theorem Two.keeps {h h' : Heap} {v : Value} {e : Str × Str} (x : Two h v e) (k : ∀ b o, h.get? b = some o → o.cls = .type "tuple" → h'.get? b = some o) : Two h' v e := by
  obtain ⟨a, t, u, e1, o, ho, hc, r⟩ := x
  exact ⟨a, t, u, e1, o, k _ _ ho hc, hc, r⟩
def lex2 (e f : Str × Str) : Bool := if e.1 = f.1 then decide (e.2.cps.toList < f.2.cps.toList) else decide (e.1.cps.toList < f.1.cps.toList)
theorem firsts2 {h : Heap} : ∀ vs : List Value, (∀ v ∈ vs, ∃ e, Two h v e) → ∃ fs : List Value, KatTups h vs fs ∧ fs.length = vs.length ∧ ∀ f ∈ fs, ∃ (x : Str) (t : Tok), f = Value.str x t
  | [], _ => ⟨[], KatTups.nil, rfl, fun f hf => by simp at hf⟩
  | v :: vs, x => by
    obtain ⟨fs, k, hl, hi⟩ := firsts2 vs fun u hu => x u (List.mem_cons_of_mem _ hu)
    obtain ⟨e, a, t, u, rfl, o, ho, hc, n, hd⟩ := x v List.mem_cons_self
    refine ⟨.str e.1 t :: fs, KatTups.cons ho hc hd rfl k, by rw [List.length_cons, List.length_cons, hl], fun f hf => ?_⟩
    rcases List.mem_cons.mp hf with e1 | hf
    · exact ⟨_, _, e1⟩
    · exact hi f hf
section
variable {prog : Program} {w : World} {A : Around} {E : Value → Shared → Prop} {s : Shared}
theorem kind2 {vs : List Value} {ρ : Str × Str → Int} (h2 : 2 ≤ vs.length) (x : ∀ v ∈ vs, ∃ e, Two s.heap v e)
    (hρ : ∀ v ∈ vs, ∀ u ∈ vs, lex2 (twoAt s.heap v) (twoAt s.heap u) = decide (ρ (twoAt s.heap v) < ρ (twoAt s.heap u))) (Q : SortKind → Shared → Prop)
    (h : ∀ κ, TS.Cmp prog w A s κ (pairsOf vs) (fun v => ρ (twoAt s.heap v)) → Q κ s) : wpAny (model prog w) A (keyKind' vs.toArray) Q E s := by
  obtain ⟨fs, k, hl, hi⟩ := firsts2 vs x
  refine kat_kind (T := Value.type "str") k (by omega) (fun f hf => ?_) rfl (h _ ?_)
  · obtain ⟨y, t, rfl⟩ := hi f hf
    exact PySem.W.Looks.of_pure rfl
  · have hb : (Value.type "str" != Value.type "tuple") = true := by first | rfl | decide | simp
    rw [hb]
    intro p q hp hq Q' E' hQ
    rw [pairsOf_toList] at hp hq
    have mp := (mem_zip_self hp).2
    have mq := (mem_zip_self hq).2
    obtain ⟨e, pe⟩ := x _ mp
    obtain ⟨f, pf⟩ := x _ mq
    have hr := hρ _ mp _ mq
    have hQ' : Q' (lex2 e f) s := by
      rw [pe.at, pf.at] at hr
      rw [hr]
      have hQ2 : Q' (decide (ρ (twoAt s.heap p.1) < ρ (twoAt s.heap q.1))) s := hQ
      rw [pe.at, pf.at] at hQ2
      exact hQ2
    obtain ⟨a, t, u, e1, o, ho, hc, n, hd⟩ := pe
    obtain ⟨a', t', u', e2, o', ho', hc', n', hd'⟩ := pf
    rw [e1, e2]
    refine kat_lt ho hd ho' hd' ?_
    show KatLex prog w A true false Q' [(Value.str e.1 t, Value.str f.1 t'), (Value.str e.2 u, Value.str f.2 u')] 0 s
    refine kat_cons (wpAny_eqBool_str (kat_go (fun e0 => ?_) (fun e0 => ?_)))
    · have e0 : e.1 = f.1 := of_decide_eq_true e0
      have z : lex2 e f = decide (e.2.cps.toList < f.2.cps.toList) := if_pos e0
      rw [z] at hQ'
      refine kat_yes (kat_cons (wpAny_eqBool_str (kat_go (fun e3 => ?_) (fun e3 => ?_))))
      · have e3 : e.2 = f.2 := of_decide_eq_true e3
        refine kat_yes (kat_nil ?_)
        have irr : decide (e.2.cps.toList < f.2.cps.toList) = false := by
          rw [e3]
          first | exact decide_eq_false (List.lt_irrefl _) | simp
        rw [irr] at hQ'
        exact hQ'
      · refine kat_no ?_
        show wpAny _ _ (oneLt' false _ _) _ _ _
        exact kat_one _ _ (PyProof.Rows.lt_str hQ')
    · have e0 : ¬ e.1 = f.1 := of_decide_eq_false e0
      have z : lex2 e f = decide (e.1.cps.toList < f.1.cps.toList) := if_neg e0
      rw [z] at hQ'
      refine kat_no ?_
      show wpAny _ _ (oneLt' true _ _) _ _ _
      exact oneLt_str hQ'
end
/-! ### sorted(d), the keys tuples of two texts -/
abbrev keyOf2 (e : Str × Str) : List Key := [Sum.inr e.1, Sum.inr e.2]
def rSort2 : List V → Hp → VK → Prop := fun vs H Q => ∃ (a : Addr) (kvs : List (List Key × V)) (ks : List (Str × Str)) (ρ : Str × Str → Int), vs = [.ref a] ∧ H a = some (.dT kvs) ∧ kvs.map (·.1) = ks.map keyOf2 ∧ ks.length < 64 ∧
  (∀ e ∈ ks, ∀ f ∈ ks, lex2 e f = decide (ρ e < ρ f)) ∧
  ∀ (l : Addr) (ps : List (Addr × Str × Str)), H l = none → (ps.map (·.2)).Perm ks → (ps.map (·.2)).Pairwise (fun e f => ρ e ≤ ρ f) → (∀ z ∈ ps, H z.1 = some (.tup [.str z.2.1, .str z.2.2])) → Q (.ref l) (upd H l (.lst (ps.map fun z => V.ref z.1)))
section
variable {X : Cx}
theorem cr_sort2 (hc : X.calm = true) : CallR X (.builtin "sorted") rSort2 := by
  intro pins s σ H xs us Q I r h
  obtain ⟨a, kvs, ks, ρ, rfl, ha, hks, h64, hρ, q⟩ := h
  obtain rfl := Vals.ref1 r
  obtain ⟨z, hd, xs', rel, o, es, ep, ho, hx, hdat, hes, his, hn⟩ := dt_of I.hok ha
  have l1 : kvs.length = xs'.length := Paired.length rel
  have l2 : es.size = xs'.length := size_of_entries hes
  have l3 : kvs.length = ks.length := by
    have e := congrArg List.length hks
    rw [List.length_map, List.length_map] at e
    exact e
  have hh : X.A.handled = none := I.ok.hd hc
  refine PySem.Calls.call_function_entry PyProof.Rows.kind_sorted PyProof.Rows.plain_sorted PyProof.Rows.entry_sorted (PyProof.Rows.args_sorted1 _) ?_
  unfold Builtin.«sorted»
  refine wpAny_bind (m := checkCount "sorted" 1 1 _) (wpAny_pure ?_)
  refine wpAny_bind (PySem.W.kdu_collect (A := X.A.in1) (kdl_raw (prog := X.prog) (w := X.w) hd hx hdat) hh ho (by rw [sizeLine_eq]; omega) fun h' tk acc hk hacc => ?_)
  have ea : acc.toList = (xs'.map fun x => x.2.1).map Value.ref := by
    have hl : acc.toList.length = xs'.length := by rw [Array.length_toList, hacc.1]; exact l2
    refine List.ext_getElem? fun j => ?_
    rw [List.getElem?_map, List.getElem?_map]
    cases hj : acc.toList[j]? with
    | none =>
      have h1 := List.getElem?_eq_none_iff.mp hj
      rw [List.getElem?_eq_none (by omega)] <;> rfl
    | some v =>
      obtain ⟨en, hen, hv⟩ := hacc.2 j v (by rw [← Array.getElem?_toList]; exact hj)
      have qe := entry_at hes j
      rw [hen] at qe
      cases hb : xs'[j]? with
      | none =>
        rw [hb] at qe
        exact nomatch (show some en = none from qe)
      | some b =>
        rw [hb] at qe
        have e2 : en = entryOfKey (tupleKind (mixKind X.prog X.w)) b := Option.some.inj qe
        rw [hv, e2] <;> rfl
  generalize hbs : (xs'.map fun x => x.2.1) = bs at ea
  have lb : bs.length = ks.length := by rw [← hbs, List.length_map]; omega
  -- each key's tuple
  have key : ∀ (j : Nat) (b : Addr), bs[j]? = some b → ∃ e, ks[j]? = some e ∧ H b = some (.tup [.str e.1, .str e.2]) := by
    intro j b hj
    rw [← hbs, List.getElem?_map] at hj
    cases hxj : xs'[j]? with
    | none => rw [hxj] at hj; exact nomatch (show (none : Option Addr) = some b from hj)
    | some x =>
      rw [hxj] at hj
      have eb : x.2.1 = b := Option.some.inj hj
      obtain ⟨e0, he0, r1, r2, r3⟩ := DX.pget rel hxj
      have hk0 : (kvs.map (·.1))[j]? = some e0.1 := by rw [List.getElem?_map, he0] <;> rfl
      rw [hks, List.getElem?_map] at hk0
      cases hkj : ks[j]? with
      | none => rw [hkj] at hk0; exact nomatch (show (none : Option (List Key)) = some e0.1 from hk0)
      | some e =>
        rw [hkj] at hk0
        have ee : keyOf2 e = e0.1 := Option.some.inj hk0
        rw [← ee, eb] at r2
        exact ⟨e, rfl, r2⟩
  have two : ∀ (h2 : Heap), (∀ b ob, s.heap.get? b = some ob → ob.cls = .type "tuple" → h2.get? b = some ob) → ∀ (j : Nat) (b : Addr), bs[j]? = some b → ∃ e, ks[j]? = some e ∧ Two h2 (.ref b) e := by
    intro h2 kp j b hj
    obtain ⟨e, he, hb⟩ := key j b hj
    obtain ⟨_, its, rv, ot, hot, hct, nt, hdt⟩ := (show ObjOk X.prog X.w H s.heap b (.tup [.str e.1, .str e.2]) from I.hok b _ hb)
    obtain ⟨t, u, rfl⟩ : ∃ t u, its = [Value.str e.1 t, Value.str e.2 u] := by
      cases rv with
      | cons r1 r2 =>
        cases r2 with
        | cons r2 r3 =>
          cases r3
          obtain ⟨t, rfl⟩ := r1
          obtain ⟨u, rfl⟩ := r2
          exact ⟨t, u, rfl⟩
    exact ⟨e, he, b, t, u, rfl, ot, kp _ _ hot hct, hct, nt, hdt⟩
  rw [ea]
  refine wpAny_bind (wpAny_newList ?_ (by rw [List.length_map, sizeLine_eq]; omega))
  have hob : (h'.push (seqObj "list" (bs.map Value.ref).toArray 0)).get? h'.objs.size = some (seqObj "list" (bs.map Value.ref).toArray 0) := Heap.get?_push_size _ rfl
  show wpAny _ _ _ _ _ { s with heap := h'.push (seqObj "list" (bs.map Value.ref).toArray 0), toks := tk }
  have kb : ∀ b o, s.heap.get? b = some o → (h'.push (seqObj "list" (bs.map Value.ref).toArray 0)).get? b = some o := fun b o e => Heap.get?_push_of_some _ (hk b o e)
  have ne0 : ∀ b o, s.heap.get? b = some o → b ≠ h'.objs.size := fun b o e => Nat.ne_of_lt (Heap.lt_size (hk b o e))
  generalize hh2 : h'.push (seqObj "list" (bs.map Value.ref).toArray 0) = h2 at hob kb ⊢
  have mid : ∀ b ob, s.heap.get? b = some ob → ob.cls = .type "tuple" → (TS.midHeap h2 h'.objs.size (bs.map Value.ref)).get? b = some ob := fun b ob e _ => TS.midHeap_old (ne0 _ _ e) (kb _ _ e)
  have at_ : ∀ v ∈ bs.map Value.ref, ∃ (j : Nat) (b : Addr) (e : Str × Str), v = .ref b ∧ bs[j]? = some b ∧ ks[j]? = some e ∧ Two (TS.midHeap h2 h'.objs.size (bs.map Value.ref)) (.ref b) e := by
    intro v hv'
    obtain ⟨b, hb, rfl⟩ := List.mem_map.mp hv'
    obtain ⟨j, hj⟩ := List.mem_iff_getElem?.mp hb
    obtain ⟨e, he, ht⟩ := two _ mid j b hj
    exact ⟨j, b, e, rfl, hj, he, ht⟩
  refine wpAny_bind (wpAny_holding (wpAny_call_entry PyProof.Rows.slot_list_sort ⟨_, hob, rfl⟩ PyProof.Rows.entry_list_sort
    (SK.plain_sort (s := { s with heap := h2, toks := tk }) (r := fun v => ρ (twoAt (TS.midHeap h2 h'.objs.size (bs.map Value.ref)) v)) hob (by rw [List.length_map]; omega) (fun h2' Qk hQk => ?_) fun ps out o1 o2 o3 => ⟨.none, rfl, ?_⟩) (PyProof.Rows.args_list_sort _)))
  · refine kind2 (s := { s with heap := TS.midHeap h2 h'.objs.size (bs.map Value.ref), toks := tk }) (ρ := ρ) h2' (fun v hv' => ?_) (fun v hv' u hu' => ?_) Qk hQk
    · obtain ⟨j, b, e, rfl, hj, he, ht⟩ := at_ v hv'
      exact ⟨e, ht⟩
    · obtain ⟨j, b, e, rfl, hj, he, ht⟩ := at_ v hv'
      obtain ⟨j2, b2, e2, rfl, hj2, he2, ht2⟩ := at_ u hu'
      show lex2 (twoAt (TS.midHeap h2 h'.objs.size (bs.map Value.ref)) (.ref b)) (twoAt (TS.midHeap h2 h'.objs.size (bs.map Value.ref)) (.ref b2)) = decide (ρ (twoAt (TS.midHeap h2 h'.objs.size (bs.map Value.ref)) (.ref b)) < ρ (twoAt (TS.midHeap h2 h'.objs.size (bs.map Value.ref)) (.ref b2)))
      rw [ht.at, ht2.at]
      exact hρ e (List.mem_of_getElem? he) e2 (List.mem_of_getElem? he2)
  · obtain ⟨zs, pz, ez⟩ := perm_lift (fun z : Addr × Str × Str => (Value.ref z.1, Value.ref z.1)) o2 (bs.zip ks) (DX.zip_self Value.ref bs ks lb)
    have idx : ∀ z ∈ zs, ∃ j : Nat, bs[j]? = some z.1 ∧ ks[j]? = some z.2 := by
      intro z' hz'
      obtain ⟨j, hj⟩ := List.mem_iff_getElem?.mp (pz.mem_iff.mp hz')
      exact ⟨j, List.getElem?_zip_eq_some.mp hj⟩
    have tw : ∀ z ∈ zs, twoAt (TS.midHeap h2 h'.objs.size (bs.map Value.ref)) (.ref z.1) = z.2 := by
      intro z' hz'
      obtain ⟨j, j1, j2⟩ := idx z' hz'
      obtain ⟨e, he, ht⟩ := two _ mid j z'.1 j1
      rw [ht.at]
      exact Option.some.inj (he.symm.trans j2)
    have hout : out.toList = zs.map fun z => Value.ref z.1 := by
      rw [o1, ← ez, List.map_map] <;> rfl
    have hperm : (zs.map (·.2)).Perm ks := by
      have e := pz.map (·.2)
      have m2 : (bs.zip ks).map (·.2) = ks := List.map_snd_zip (by rw [lb]; exact Nat.le_refl _)
      rw [m2] at e
      exact e
    have hsort : (zs.map (·.2)).Pairwise (fun e f => ρ e ≤ ρ f) := by
      rw [← ez, List.pairwise_map] at o3
      rw [List.pairwise_map]
      refine List.Pairwise.imp_of_mem (fun {x y} hx hy h => ?_) o3
      have h' : ρ (twoAt (TS.midHeap h2 h'.objs.size (bs.map Value.ref)) (.ref x.1)) ≤ ρ (twoAt (TS.midHeap h2 h'.objs.size (bs.map Value.ref)) (.ref y.1)) := h
      rw [tw x hx, tw y hy] at h'
      exact h'
    have kS : ∀ b o, s.heap.get? b = some o → (sortedHeap h2 h'.objs.size (bs.map Value.ref) out).get? b = some o := fun b o e => (PyProof.Rows.sortedHeap_old (ne0 b o e) (Heap.lt_size (kb b o e))).trans (kb b o e)
    obtain ⟨eF, heF⟩ := PyProof.Rows.sortedHeap_at (vs := bs.map Value.ref) (out := out) hob
    have I1 : Inv X pins σ H { s with heap := h', toks := tk } := I.kept (t' := tk) hk
    have kS' : ∀ b o, h'.get? b = some o → (sortedHeap h2 h'.objs.size (bs.map Value.ref) out).get? b = some o := fun b o e => by
      have e2 : h2.get? b = some o := by rw [← hh2]; exact Heap.get?_push_of_some _ e
      exact (PyProof.Rows.sortedHeap_old (Nat.ne_of_lt (Heap.lt_size e)) (Heap.lt_size e2)).trans e2
    have hlen : (zs.map fun z => V.ref z.1).length ≤ sizeLine := by
      have e := hperm.length_eq
      rw [List.length_map] at e
      rw [List.length_map, sizeLine_eq]
      omega
    have rv : Vals (zs.map fun z => V.ref z.1) out.toList := by
      rw [hout]
      exact vals_maps (fun z : Addr × Str × Str => V.ref z.1) (fun z => Value.ref z.1) zs fun _ _ => rfl
    have I2 : Inv X pins σ (upd H h'.objs.size (.lst (zs.map fun z => V.ref z.1))) { s with heap := sortedHeap h2 h'.objs.size (bs.map Value.ref) out, toks := tk } :=
      I1.laid (t' := tk) kS' (Nat.le_refl _) (show ObjOk X.prog X.w _ _ _ (.lst (zs.map fun z => V.ref z.1)) from ⟨hlen, out.toList, eF, rv, heF⟩)
    refine wpAny_pure ⟨_, rfl, .ref h'.objs.size, _, I2, rfl, q _ zs (I1.hok.fresh (Nat.le_refl _)) hperm hsort fun z' hz' => ?_⟩
    obtain ⟨j, j1, j2⟩ := idx z' hz'
    obtain ⟨e, he, hH⟩ := key j z'.1 j1
    have ee : e = z'.2 := Option.some.inj (he.symm.trans j2)
    rw [ee] at hH
    exact hH
end
end DJ
namespace DJ
open PySem PySem.Spec PyProof.Rows L2
/-! ### a dict that is filled, keys tuples of texts -/
abbrev Tb := List (List (List Nat) × List Nat)
abbrev encTb (kvs : Tb) : List (List Key × V) := kvs.map encT
def dcO (kvs : Tb) : MO := .hob (.dT (encTb kvs))
/-- the same, when it stands -/
def dicD (kvs : Tb) : Dt := .ext fun H v => ∃ a, v = .ref a ∧ H a = some (.dT (encTb kvs))
def putTb (kvs : Tb) (k : List (List Nat)) (v : List Nat) : Tb := if kvs.any (fun kv => decide (kv.1 = k)) then kvs.map (fun kv => if kv.1 = k then (kv.1, v) else kv) else kvs ++ [(k, v)]
theorem keys_inj : ∀ {a b : List (List Nat)}, (a.map fun k => (Sum.inr (tx k) : Key)) = (b.map fun k => (Sum.inr (tx k) : Key)) → a = b
  | [], [], _ => rfl
  | [], _ :: _, e => by simp at e
  | _ :: _, [], e => by simp at e
  | x :: xs, y :: ys, e => by
    rw [List.map_cons, List.map_cons] at e
    injection e with e1 e2
    have e3 : tx x = tx y := Sum.inr.inj e1
    have e4 : (tx x).cps.toList = (tx y).cps.toList := by rw [e3]
    have e5 : x = y := by simpa using e4
    rw [e5, keys_inj e2]
theorem key_dec (a b : List (List Nat)) : decide ((a.map fun k => (Sum.inr (tx k) : Key)) = (b.map fun k => (Sum.inr (tx k) : Key))) = decide (a = b) := by
  by_cases h : a = b
  · subst h
    rw [decide_eq_true rfl, decide_eq_true rfl]
  · rw [decide_eq_false h, decide_eq_false fun e => h (keys_inj e)]
theorem any_tb (kvs : Tb) (k : List (List Nat)) : ((encTb kvs).any fun kv => decide (kv.1 = (k.map fun k => (Sum.inr (tx k) : Key)))) = kvs.any fun kv => decide (kv.1 = k) := by
  rw [List.any_map]
  congr 1
  funext kv
  exact key_dec kv.1 k
theorem put_tb (kvs : Tb) (k : List (List Nat)) (v : List Nat) : putK (encTb kvs) (k.map fun k => (Sum.inr (tx k) : Key)) (.str (tx v)) = encTb (putTb kvs k v) := by
  unfold putK putTb
  rw [any_tb]
  cases h : kvs.any fun kv => decide (kv.1 = k) with
  | false =>
    rw [if_neg Bool.false_ne_true, if_neg Bool.false_ne_true]
    show _ = (kvs ++ [(k, v)]).map encT
    rw [List.map_append] <;> rfl
  | true =>
    rw [if_pos rfl, if_pos rfl]
    show (kvs.map encT).map _ = (kvs.map _).map encT
    rw [List.map_map, List.map_map]
    refine List.map_congr_left fun kv _ => ?_
    show (if (encT kv).1 = _ then _ else _) = encT (if kv.1 = k then (kv.1, v) else kv)
    by_cases e : kv.1 = k
    · rw [if_pos e, if_pos (by rw [← e])]
    · rw [if_neg e, if_neg (fun z => e (keys_inj z))]
def getTb (kvs : Tb) (k : List (List Nat)) : Option (List Nat) := (kvs.find? fun kv => decide (kv.1 = k)).map (·.2)
theorem get_tb (k : List (List Nat)) : ∀ kvs : Tb, valV (encTb kvs) (k.map fun k => (Sum.inr (tx k) : Key)) = (getTb kvs k).map fun z => V.str (tx z)
  | [] => rfl
  | kv :: kvs => by
    by_cases e : kv.1 = k
    · have e1 : getTb (kv :: kvs) k = some kv.2 := by
        unfold getTb
        rw [List.find?_cons_of_pos (by exact decide_eq_true e)] <;> rfl
      rw [e1]
      exact valV_pos (p := encT kv) (by rw [← e])
    · have e1 : getTb (kv :: kvs) k = getTb kvs k := by
        unfold getTb
        rw [List.find?_cons_of_neg (by rw [decide_eq_true_eq]; exact e)]
      rw [e1, ← get_tb k kvs]
      exact valV_neg (p := encT kv) fun z => e (keys_inj z)
section
variable {K : PySem.W.Frag} {B H : Hp} {G G1 : List (Option Sl)} {M M1 M2 M3 : List MO} {te td ty : TE}
theorem ev_dnewT : EvE K tDNewT G M (.o M.length) (M ++ [dcO []]) := fun F B as σ H ow sl Q q p hp => by
  refine q _ B (as ++ [p]) _ (Gr.refl F B) ⟨[p], rfl⟩ (ow.newO hp (show MoR K B _ p (dcO []) from ⟨upd_same, fun _ z => (nomatch z)⟩)) ⟨p, ?_, rfl⟩
  rw [← ow.len, List.getElem?_append_right (Nat.le_refl _), Nat.sub_self] <;> rfl
/-- d[k] = v -/
theorem es_put {k : Nat} {kvs : Tb} {ks : List (List Nat)} {v : List Nat} (hv : EvE K te G M (.d (.str v)) M1) (hd : EvE K td G M1 (.o k) M2) (hk : EvE K ty G M2 (.d (keyD ks)) M3) (hm : M3[k]? = some (dcO kvs)) (hl : kvs.length < 100000) :
    EvS K (sDPut td ty te) G M (.nx G (M3.set k (dcO (putTb kvs ks v)))) := fun F B as σ H ow sl D gd =>
  hv F B as σ H ow sl _ fun w B1 as1 H1 g1 p1 o1 r1 => hd F B1 as1 σ H1 o1 (sl.mono g1.1 p1) _ fun x B2 as2 H2 g2 p2 o2 r2 => hk F B2 as2 σ H2 o2 ((sl.mono g1.1 p1).mono g2.1 p2) _ fun y B3 as3 H3 g3 p3 o3 r3 => by
    obtain ⟨a, ha, rfl⟩ := r2
    obtain ⟨b, rfl, hb⟩ := r3 B3 (Same.refl _)
    have r1 : w = .str (tx v) := r1
    subst r1
    have ha3 : as3[k]? = some a := by
      obtain ⟨t, rfl⟩ := p3
      rw [List.getElem?_append_left (List.getElem?_eq_some_iff.mp ha).1]
      exact ha
    obtain ⟨f0, b0, hH, _⟩ := o3.own k a _ ha3 hm (fun z => nomatch z)
    have hH : H3 a = some (.dT (encTb kvs)) := hH
    refine ⟨a, _, rfl, .inr ⟨encTb kvs, _, b, hH, rfl, o3.bb _ _ hb, ?_, rfl⟩, ?_⟩
    · rw [List.length_map, sizeLine_eq]
      omega
    · rw [put_tb]
      refine gd B3 as3 σ _ ((g1.trans g2).trans g3) ((p1.trans p2).trans p3) (o3.put ha3 hm (fun z => nomatch z) (show MoR K B3 _ a (dcO _) from ⟨upd_same, fun _ z => (nomatch z)⟩)) (((sl.mono g1.1 p1).mono g2.1 p2).mono g3.1 p3)
theorem ev_freezeT {k : Nat} {kvs : Tb} (h : EvE K te G M (.o k) M1) (hm : M1[k]? = some (dcO kvs)) : EvE K te G M (.d (dicD kvs)) (M1.set k .gone) := fun F B as σ H ow sl Q q =>
  h F B as σ H ow sl _ fun v B1 as1 H1 g p o1 r => by
    obtain ⟨a, ha, rfl⟩ := r
    obtain ⟨g', ow'⟩ := o1.freezeO ha hm
    exact q _ _ as1 H1 (g.trans g') p ow' fun H' s => ⟨a, rfl, s _ _ upd_same⟩
/-- d[k], d.get(k) -/
theorem ev_atT {kvs : Tb} {ks : List (List Nat)} {z : List Nat} (hd : EvE K td G M (.d (dicD kvs)) M1) (hk : EvE K ty G M1 (.d (keyD ks)) M2) (hz : getTb kvs ks = some z) : EvE K (tDGet td ty) G M (.d (.str z)) M2 := fun F B as σ H ow sl Q q =>
  hd F B as σ H ow sl _ fun v B1 as1 H1 g1 p1 o1 r1 => hk F B1 as1 σ H1 o1 (sl.mono g1.1 p1) _ fun y B2 as2 H2 g2 p2 o2 r2 => by
    obtain ⟨a, rfl, ha⟩ := r1 B1 (Same.refl _)
    obtain ⟨b, rfl, hb⟩ := r2 B2 (Same.refl _)
    refine ⟨a, .str (tx z), rfl, .inr ⟨_, _, b, .inl (o2.bb _ _ (g2.1 _ _ ha)), rfl, o2.bb _ _ hb, ?_⟩, q _ B2 as2 H2 (g1.trans g2) (p1.trans p2) o2 rfl⟩
    rw [get_tb, hz] <;> rfl
theorem ev_get1T {kvs : Tb} {ks : List (List Nat)} (hd : EvE K td G M (.d (dicD kvs)) M1) (hk : EvE K ty G M1 (.d (keyD ks)) M2) : EvE K (tDGet1 td ty) G M (.d (oS (getTb kvs ks))) M2 := fun F B as σ H ow sl Q q =>
  hd F B as σ H ow sl _ fun v B1 as1 H1 g1 p1 o1 r1 => by
    obtain ⟨a, rfl, ha⟩ := r1 B1 (Same.refl _)
    refine ⟨a, rfl, .inr ⟨_, .inl (o1.bb _ _ ha)⟩, hk F B1 as1 σ H1 o1 (sl.mono g1.1 p1) _ fun y B2 as2 H2 g2 p2 o2 r2 => ?_⟩
    obtain ⟨b, rfl, hb⟩ := r2 B2 (Same.refl _)
    refine ⟨_, .inr ⟨_, _, b, .inl (o2.bb _ _ (g2.1 _ _ ha)), rfl, o2.bb _ _ hb, rfl⟩, q _ B2 as2 H2 (g1.trans g2) (p1.trans p2) o2 ?_⟩
    rw [get_tb]
    cases getTb kvs ks with
    | none => rfl
    | some z => rfl
end
/-- tuples that stand are taken into the base -/
theorem Ow.tups {K : PySem.W.Frag} {F H : Hp} {as : List Addr} {M : List MO} : ∀ (ts : List (Addr × List V)) {B : Hp}, Ow K F B as M H → (∀ z ∈ ts, H z.1 = some (.tup z.2)) → ∃ B', Gr F B B' ∧ Ow K F B' as M H ∧ ∀ z ∈ ts, B' z.1 = some (.tup z.2)
  | [], B, h, _ => ⟨B, Gr.refl F B, h, fun _ z => (nomatch z)⟩
  | t :: ts, B, h, ht => by
    have h0 := ht t List.mem_cons_self
    have sm : Same B (upd B t.1 (.tup t.2)) := fun c u e => by
      by_cases z : c = t.1
      · rw [z, upd_same]
        rw [z] at e
        exact h0.symm.trans (h.bb _ _ e)
      · rw [upd_ne z]; exact e
    have g : Gr F B (upd B t.1 (.tup t.2)) := ⟨sm, fun c k n => by
      by_cases z : c = t.1
      · have k2 := Kp.same k h.fb
        rw [z] at k2
        exact absurd h0 (k2.2 _)
      · rw [upd_ne z]; exact n⟩
    have o : Ow K F (upd B t.1 (.tup t.2)) as M H := by
      refine ⟨h.fb, fun c u e => ?_, h.len, h.nd, h.al, h.fa, fun k a m e1 e2 hm => ?_⟩
      · by_cases z : c = t.1
        · subst z; rw [upd_same] at e; rw [← e]; exact h0
        · rw [upd_ne z] at e; exact h.bb _ _ e
      · obtain ⟨q1, q2, q3⟩ := h.own k a m e1 e2 hm
        have ne : a ≠ t.1 := fun z => by
          have k2 := kp_mor hm q3
          rw [z] at k2
          exact k2.2 _ h0
        exact ⟨q1, by rw [upd_ne ne]; exact q2, MoR.mono sm rfl q3⟩
    obtain ⟨B', g2, o2, hb⟩ := Ow.tups ts o fun z hz => ht z (List.mem_cons_of_mem _ hz)
    refine ⟨B', g.trans g2, o2, fun z hz => ?_⟩
    rcases List.mem_cons.mp hz with e | hz
    · rw [e]; exact g2.1 _ _ upd_same
    · exact hb z hz
/-! ### one order of things that a rank tells apart -/
theorem perm_one {α : Type} (ρ : α → Int) : ∀ (l m : List α), l.Perm m → l.Pairwise (fun x y => ρ x ≤ ρ y) → m.Pairwise (fun x y => ρ x ≤ ρ y) → (∀ x ∈ l, ∀ y ∈ l, ρ x = ρ y → x = y) → l = m
  | [], m, p, _, _, _ => by rw [List.nil_perm.mp p]
  | x :: l, m, p, h1, h2, hi => by
    cases m with
    | nil => exact absurd p.length_eq (by simp)
    | cons y m =>
      have hy : y ∈ x :: l := p.mem_iff.mpr List.mem_cons_self
      have hx : x ∈ y :: m := p.mem_iff.mp List.mem_cons_self
      have e : x = y := by
        refine hi x List.mem_cons_self y hy (Int.le_antisymm ?_ ?_)
        · rcases List.mem_cons.mp hy with e | h
          · rw [e]; exact Int.le_refl _
          · exact (List.pairwise_cons.mp h1).1 y h
        · rcases List.mem_cons.mp hx with e | h
          · rw [e]; exact Int.le_refl _
          · exact (List.pairwise_cons.mp h2).1 x h
      subst e
      rw [perm_one ρ l m (List.Perm.cons_inv p) (List.pairwise_cons.mp h1).2 (List.pairwise_cons.mp h2).2 fun a ha b hb => hi a (List.mem_cons_of_mem _ ha) b (List.mem_cons_of_mem _ hb)]
/-- sorted(d) -/
abbrev P2 := List Nat × List Nat
abbrev key2 (e : P2) : Str × Str := (tx e.1, tx e.2)
def lexL (e f : P2) : Bool := if e.1 = f.1 then decide (e.2 < f.2) else decide (e.1 < f.1)
theorem lex_key (e f : P2) : lex2 (key2 e) (key2 f) = lexL e f := by
  unfold lex2 lexL
  have h : (key2 e).1 = (key2 f).1 ↔ e.1 = f.1 := ⟨fun h => by
    have h2 : (tx e.1).cps.toList = (tx f.1).cps.toList := congrArg (fun x : Str => x.cps.toList) h
    simpa using h2, fun h => by show tx e.1 = tx f.1; rw [h]⟩
  by_cases z : e.1 = f.1
  · rw [if_pos z, if_pos (h.mpr z)]
  · rw [if_neg z, if_neg (fun y => z (h.mp y))]
section
variable {K : PySem.W.Frag} {B H : Hp} {G G1 : List (Option Sl)} {M M1 M2 M3 : List MO} {te td ty : TE} {ta : TA}
theorem ev_sort2 {kvs : Tb} {ks so : List P2} (rk : P2 → Int) (hd : EvE K td G M (.d (dicD kvs)) M1) (hk : kvs.map (·.1) = ks.map fun e => [e.1, e.2]) (hl : ks.length < 64) (hr : ∀ e ∈ ks, ∀ f ∈ ks, lexL e f = decide (rk e < rk f)) (hp : so.Perm ks)
    (hs : so.Pairwise fun e f => rk e ≤ rk f) (hi : ∀ e ∈ ks, ∀ f ∈ ks, rk e = rk f → e = f) : EvE K (tCB rSort2 (tCons td tNil)) G M (.d (.lst (so.map fun e => .tup [.str e.1, .str e.2]))) M1 := fun F B as σ H ow sl Q q =>
  hd F B as σ H ow sl _ fun v B1 as1 H1 g1 p1 o1 r1 => by
    obtain ⟨a, rfl, ha⟩ := r1 B1 (Same.refl _)
    have un : ∀ e : P2, rk ((key2 e).1.cps.toList, (key2 e).2.cps.toList) = rk e := fun e => by
      show rk (e.1.toArray.toList, e.2.toArray.toList) = rk e
      rw [List.toList_toArray, List.toList_toArray]
    refine ⟨a, encTb kvs, ks.map key2, fun k => rk (k.1.cps.toList, k.2.cps.toList), rfl, o1.bb _ _ ha, ?_, by rw [List.length_map]; exact hl, fun x hx y hy => ?_, fun l ps hn hperm hsort hz => ?_⟩
    · have e1 : (encTb kvs).map (·.1) = (kvs.map (·.1)).map fun k => k.map fun x => (Sum.inr (tx x) : Key) := by rw [List.map_map, List.map_map] <;> rfl
      rw [e1, hk, List.map_map, List.map_map] <;> rfl
    · obtain ⟨e, he, rfl⟩ := List.mem_map.mp hx
      obtain ⟨f, hf, rfl⟩ := List.mem_map.mp hy
      show _ = decide (rk ((key2 e).1.cps.toList, (key2 e).2.cps.toList) < rk ((key2 f).1.cps.toList, (key2 f).2.cps.toList))
      rw [lex_key, un e, un f]
      exact hr e he f hf
    · have eq : ps.map (·.2) = so.map key2 := by
        refine perm_one (fun k : Str × Str => rk (k.1.cps.toList, k.2.cps.toList)) _ _ (hperm.trans (hp.map key2).symm) hsort ?_ fun x hx y hy e => ?_
        · rw [List.pairwise_map]
          refine hs.imp fun {e f} h => ?_
          show rk ((key2 e).1.cps.toList, (key2 e).2.cps.toList) ≤ rk ((key2 f).1.cps.toList, (key2 f).2.cps.toList)
          rw [un e, un f]
          exact h
        · obtain ⟨e1, he, rfl⟩ := List.mem_map.mp (hperm.mem_iff.mp hx)
          obtain ⟨f1, hf, rfl⟩ := List.mem_map.mp (hperm.mem_iff.mp hy)
          have e : rk ((key2 e1).1.cps.toList, (key2 e1).2.cps.toList) = rk ((key2 f1).1.cps.toList, (key2 f1).2.cps.toList) := e
          rw [un e1, un f1] at e
          rw [hi e1 he f1 hf e]
      obtain ⟨B2, g2, o2, hB⟩ := o1.tups (ps.map fun z => (z.1, [V.str z.2.1, V.str z.2.2])) fun z hz' => by
        obtain ⟨y, hy, rfl⟩ := List.mem_map.mp hz'
        exact hz y hy
      have g3 := o2.gr hn (.lst (ps.map fun z => V.ref z.1))
      refine q _ _ as1 _ ((g1.trans g2).trans g3) p1 (o2.new hn _) ⟨l, _, rfl, .inl (.inl upd_same), ?_⟩
      have all : ∀ (ps : List (Addr × Str × Str)) (so : List P2), ps.map (·.2) = so.map key2 → (∀ z ∈ ps, B2 z.1 = some (.tup [V.str z.2.1, V.str z.2.2])) → RpL K B2 (so.map fun e => Dt.tup [.str e.1, .str e.2]) (ps.map fun z => V.ref z.1) := by
        intro ps
        induction ps with
        | nil =>
          intro so e _
          cases so with
          | nil => rfl
          | cons x xs => cases e
        | cons z ps ih =>
          intro so e hb
          cases so with
          | nil => cases e
          | cons x xs =>
            rw [List.map_cons, List.map_cons] at e
            injection e with e1 e2
            refine ⟨_, _, rfl, ⟨z.1, _, rfl, .inl (.inl (hb z List.mem_cons_self)), ?_⟩, ih xs e2 fun y hy => hb y (List.mem_cons_of_mem _ hy)⟩
            rw [e1]
            exact ⟨_, _, rfl, rfl, _, _, rfl, rfl, rfl⟩
      exact RpL.mono g3.1 _ _ (all ps so eq fun z hz' => hB (z.1, [V.str z.2.1, V.str z.2.2]) (List.mem_map.mpr ⟨z, hz', rfl⟩))
end
end DJ
namespace DJ
open PySem PySem.Spec PyProof.Rows L2
/-! ### two arguments by names, the last one first -/
abbrev gRev (us ws : List Value) : List Value := us ++ ws.reverse
abbrev gRevV (us ws : List V) : List V := us ++ ws.reverse
structure CalR2 (P : Program) (w : World) (K : PySem.W.Frag) (mg : Str → Option Value) (base : Heap) (k : Nat) (x : Str) (ks : List Str) (sp : Sp) : Prop where
  ex : ∃ (f : Addr) (fd : FuncData) (ps : List Str), FnOk P w K mg base CX0 k f fd ps sp ∧ mg x = some (.ref f) ∧ PySem.W.keepIn K (.ref f) = true ∧ KBinds K fd ps ks gRev gRevV
theorem vals_rev {vs : List V} {us : List Value} (r : Vals vs us) : Vals vs.reverse us.reverse := by
  induction r with
  | nil => exact .nil
  | @cons a b as bs h t ih =>
    rw [List.reverse_cons, List.reverse_cons]
    exact Vals.append ih (.cons h .nil)
section
variable {P : Program} {w : World} {K : PySem.W.Frag} {mg : Str → Option Value} {base : Heap}
theorem CalF.kw2 {k : Nat} {x y z : Str} {st : Stmt} {sp : Sp} (c : CalF P w K mg base k x st [y, z] sp)
    (h1 : ∀ (kV doc pm : Value) (an : Option Addr) (cdv ct u v : Value), bindArgs (PySem.W.fnOf x x (defArgs st) (defBody st) (defScope st) .none kV doc pm an cdv ct) ⟨[u], [(z, v)]⟩ = pure [(y, u), (z, v)])
    (h2 : ∀ (kV doc pm : Value) (an : Option Addr) (cdv ct u v : Value), bindArgs (PySem.W.fnOf x x (defArgs st) (defBody st) (defScope st) .none kV doc pm an cdv ct) ⟨[], [(z, v), (y, u)]⟩ = pure [(y, u), (z, v)]) : CalR2 P w K mg base k x [z, y] sp := by
  obtain ⟨f, fd, F, U, hm, b⟩ := c.ex
  refine ⟨f, fd, [y, z], F, hm, U.kp, ⟨fun s us ws hK hl => ?_, fun r1 r2 => Vals.append r1 (vals_rev r2)⟩⟩
  have hl : us.length + ws.length = 2 := by
    have : (us ++ ws.reverse).length = 2 := hl
    rw [List.length_append, List.length_reverse] at this
    exact this
  obtain ⟨oc, od, kV, doc, pm, an, cdv, ct, osl, e, lk, hcd⟩ := U.ex
  match us, ws, hl with
  | [u, v], [], _ => exact b s [u, v] hK rfl
  | [u], [v], _ => subst e; exact .of_eq (h1 kV doc pm an cdv ct u v)
  | [], [v, u], _ => subst e; exact .of_eq (h2 kV doc pm an cdv ct u v)
  | a :: b :: c :: d, _, hl => simp at hl; omega
  | a :: b :: [], _ :: _, hl => simp at hl
  | [_], _ :: _ :: _, hl => simp at hl; omega
  | [_], [], hl => simp at hl
  | [], [], hl => simp at hl
  | [], [_], hl => simp at hl
  | [], _ :: _ :: _ :: _, hl => simp at hl
end
section
variable {X : Cx} {k j : Nat} {x : Str} {ks : List Str} {sp : Sp} {p pos : Pos} {kws : List Keyword} {tk : TA}
theorem pe_cKr (c : CalR2 X.prog X.w X.K X.mg X.base k x ks sp) (hr : Room j X.A) (hk : k ≤ j) (hg : Gl X x) (hkw : PK X kws tk)
    (hall : (backToKw pos (keywordEach kws X.env)).all (·.1.isSome) = true := by rfl) (hks : (backToKw pos (keywordEach kws X.env)).filterMap (·.1) = ks := by rfl) (hdb : (x == ("__debug__" : Str)) = false := by decide)
    (hpl : ((backTo pos (starEach [] X.env)).any (·.1) || (backToKw pos (keywordEach kws X.env)).any (·.1.isNone)) = false := by rfl) : PE X (.Call (.Name x p) [] kws pos) (tCallK sp gRevV L2.E0 tNil tk) := by
  obtain ⟨f, fd, ps, F, hm, kp, hb⟩ := c.ex
  refine ⟨fun pins s σ H Q I h => ?_⟩
  refine wpAny_Call_Name_kw (ld_glob I hg hm ?_ hdb)
  refine PySem.W.callWith_KW0 (h₀ := X.base) I.ok.mod.kin kp hall (thn (hkw.run pos pins s σ H _ I h) fun ws s2 r2 => ?_) hpl
  obtain ⟨zs, H2, I2, rz, q2⟩ := r2
  refine ⟨I2.kIn, ?_⟩
  rw [hks]
  exact run_fnk (us := []) (vs := []) F (hr.mono hk) hb L2.pass0 I2 .nil rz q2
end
section
variable {K : PySem.W.Frag} {G : List (Option Sl)} {M M1 : List MO} {E : XK} {tk : TA} {a b z : Dt}
theorem ev_kwr {R : List Sl → List MO → Sl → List MO → Prop} (h : EvA K tk G M [.d b, .d a] M1) (hR : R [.d a, .d b] [] (.d z) []) : EvE K (tCallK (SpR K 2 R) gRevV E tNil tk) G M (.d z) M1 := fun F B as σ H ow sl Q q =>
  h F B as σ H ow sl _ fun vs B1 as1 H1 g1 p1 o1 r1 => by
    obtain ⟨v, r, e, h1, u, r', e', h2, e3⟩ := r1
    have e3 : r' = [] := e3
    subst e3; subst e'; subst e
    refine call_core (ds := [a, b]) (vs := [u, v]) hR rfl o1 ⟨u, _, rfl, h2, v, _, rfl, h1, rfl⟩ fun v B' as' H' g o' r' => ?_
    obtain ⟨g2, o2⟩ := back0 o1 g o'
    exact q v B' as1 H' (g1.trans g2) p1 o2 r'
end
theorem es_nxM {K : PySem.W.Frag} {G G1 : List (Option Sl)} {M M1 M2 : List MO} {t : TS} (h : EvS K t G M (.nx G1 M1)) (e : M1 = M2) : EvS K t G M (.nx G1 M2) := e ▸ h
end DJ
namespace DJ
open PySem PySem.Spec PyProof.Rows L2
/-! ### isinstance(x, str), of things of many kinds -/
/-- a dict without entries -/
def dic0 : Dt := .ext fun H v => ∃ a, v = .ref a ∧ H a = some (.dK [])
/-- what is looked at: texts, and things that are none -/
inductive Kd : Dt → Bool → Prop where
  | non : Kd .non false
  | bl (b : Bool) : Kd (.bl b) false
  | int (i : Int) : Kd (.int i) false
  | str (x : List Nat) : Kd (.str x) true
  | lst (xs : List Dt) : Kd (.lst xs) false
  | tup (xs : List Dt) : Kd (.tup xs) false
  | dic : Kd dic0 false
abbrev tyStr : Dt := .raw (.ty "str")
section
variable {K : PySem.W.Frag} {B : Hp} {d : Dt} {b : Bool}
theorem Kd.at (k : Kd d b) {F : Hp} {as : List Addr} {M : List MO} {H : Hp} {v : V} (ow : Ow K F B as M H) (r : Rp K B d v) : ∃ t : String, TyX K H v (.type t) ∧ kitB t "str" = some b := by
  cases k with
  | non =>
    have r : v = .non := r
    subst r
    exact ⟨"NoneType", .base .non, by decide +kernel⟩
  | bl x =>
    have r : v = .bl x := r
    subst r
    exact ⟨"bool", .base (.bl x), by decide +kernel⟩
  | int x =>
    have r : v = .int x := r
    subst r
    exact ⟨"int", .base (.int x), by decide +kernel⟩
  | str x =>
    have r : v = .str (tx x) := r
    subst r
    exact ⟨"str", .base (.str _), by decide +kernel⟩
  | lst xs =>
    obtain ⟨a, vs, rfl, h1, h2⟩ := r
    refine ⟨"list", ?_, by decide +kernel⟩
    rcases h1 with (h | ⟨o, h⟩) | ⟨o, its, n, h, hc, _⟩
    · exact .base (.lst (ow.bb _ _ h))
    · exact .base (.frz (ow.bb _ _ h))
    · exact .kList h hc
  | tup xs =>
    obtain ⟨a, vs, rfl, h1, h2⟩ := r
    refine ⟨"tuple", ?_, by decide +kernel⟩
    rcases h1 with (h | ⟨o, h⟩) | ⟨o, its, n, h, hc, _⟩
    · exact .base (.tup (ow.bb _ _ h))
    · exact .fTuple (ow.bb _ _ h)
    · exact .kTuple h hc
  | dic =>
    obtain ⟨a, rfl, h⟩ := r B (Same.refl B)
    exact ⟨"dict", .base (.dK (ow.bb _ _ h)), by decide +kernel⟩
theorem rc_isStr (k : Kd d b) : RC K (rIsi K) [d, tyStr] (.bl b) := fun F B as M H vs Q ow r q => by
  obtain ⟨v, r1, e1, h1, w, r2, e2, h2, e3⟩ := r
  have h2 : w = V.ty "str" := h2
  have e3 : r2 = [] := e3
  subst e3; subst e2; subst e1; subst h2
  obtain ⟨t, ht, hb⟩ := k.at ow h1
  exact ⟨v, _, _, _, b, rfl, .ty "str", ht, kit_ty hb, q _ B H (Gr.refl F B) ow rfl⟩
theorem ev_ty {G : List (Option Sl)} {M : List MO} {n : String} : EvE K (tC (.ty n)) G M (.d (.raw (.ty n))) M := fun F B as σ H ow sl Q q => q _ B as H (Gr.refl F B) (Px.refl as) ow rfl
theorem ev_dic0 {G : List (Option Sl)} {M : List MO} : EvE K tDNewK G M (.d dic0) M := fun F B as σ H ow sl Q q p hp =>
  q _ _ as _ (ow.gr hp _) (Px.refl as) (ow.new hp _) fun H' s => ⟨p, rfl, s _ _ upd_same⟩
end
end DJ
namespace DJ
open PySem PySem.Spec PyProof.Rows L2
/-! ### is, is not of truth values -/
theorem is_bools (a b : Bool) : compareOp .Is (.bool a) (.bool b) = pure (.bool (decide (a = b))) := by cases a <;> cases b <;> rfl
theorem isnot_bools (a b : Bool) : compareOp .IsNot (.bool a) (.bool b) = pure (.bool (!decide (a = b))) := by cases a <;> cases b <;> rfl
def rIsB (n : Bool) : R2 := fun x y H Q => ∃ a b, x = .bl a ∧ y = .bl b ∧ Q (.bl (if n = true then !decide (a = b) else decide (a = b))) H
section
variable {X : Cx}
theorem op_isB : OpR X (compareOp .Is) (rIsB false) := by
  intro pins s σ H x y v u Q I rx ry h
  obtain ⟨a, b, rfl, rfl, q⟩ := h
  cases rx
  cases ry
  exact wpAny_of_eq (is_bools a b) ⟨.bl (decide (a = b)), H, I, rfl, q⟩
theorem op_notB : OpR X (compareOp .IsNot) (rIsB true) := by
  intro pins s σ H x y v u Q I rx ry h
  obtain ⟨a, b, rfl, rfl, q⟩ := h
  cases rx
  cases ry
  exact wpAny_of_eq (isnot_bools a b) ⟨.bl (!decide (a = b)), H, I, rfl, q⟩
end
section
variable {K : PySem.W.Frag} {a b : Bool}
theorem ro_isB : RO K (rIsB false) (.bl a) (.bl b) (.bl (decide (a = b))) := fun F B as M H v u Q ow r1 r2 q => ⟨a, b, r1, r2, q _ B H (Gr.refl F B) ow rfl⟩
theorem ro_notB : RO K (rIsB true) (.bl a) (.bl b) (.bl (!decide (a = b))) := fun F B as M H v u Q ow r1 r2 q => ⟨a, b, r1, r2, q _ B H (Gr.refl F B) ow rfl⟩
end
/-! ### text * number -/
def rRepS : R2 := fun x y H Q => ∃ (l : List Nat) (n : Nat), x = .str (tx l) ∧ y = .int (n : Int) ∧ 2 ≤ n ∧ n ≤ 1000 ∧ l ≠ [] ∧ l.length ≤ 1000 ∧ Q (.str (tx (List.replicate n l).flatten)) H
theorem fold_rep (l : List Nat) : ∀ (n : Nat) (a : Array Nat), ((List.replicate n l.toArray).foldl (· ++ ·) a).toList = a.toList ++ (List.replicate n l).flatten
  | 0, a => by simp
  | n + 1, a => by
    rw [List.replicate_succ, List.replicate_succ, List.foldl_cons, fold_rep l n, List.flatten_cons, Array.toList_append, List.append_assoc]
theorem op_repS {X : Cx} : OpR X (binaryOp .Mult) rRepS := by
  intro pins s σ H x y v u Q I rx ry h
  obtain ⟨l, n, rfl, rfl, h1, h2, hne, hl, q⟩ := h
  obtain ⟨t, rfl⟩ := rx
  obtain ⟨t', rfl⟩ := ry
  have hp : 0 < l.length := List.length_pos_iff.mpr hne
  have hm : l.length * n ≤ 1000000 := Nat.le_trans (Nat.mul_le_mul hl h2) (by decide)
  have e1 : ((n : Int) == 1 || (tx l).length == 0) = false := by
    rw [tx_len]
    refine Bool.or_eq_false_iff.mpr ⟨beq_eq_false_iff_ne.mpr (by omega), beq_eq_false_iff_ne.mpr (by omega)⟩
  have er : (⟨(List.replicate (n : Int).toNat (tx l).cps).foldl (· ++ ·) #[]⟩ : Str) = tx (List.replicate n l).flatten := by
    rw [Int.toNat_natCast]
    show (⟨_⟩ : Str) = ⟨_⟩
    congr 1
    apply Array.toList_inj.mp
    rw [fold_rep] <;> simp
  refine P.mul_str (Bool.or_eq_false_iff.mpr ⟨decide_eq_false (by omega), decide_eq_false (by omega)⟩) (fun _ _ => ?_) (fun _ _ => ?_) ?_
  · rw [tx_len]
    rw [show (2 ^ 63 - 1 : Int) = 9223372036854775807 by decide]
    have : (9223372036854775807 : Int) / (n : Int) ≥ 1000 := by
      rw [ge_iff_le, Int.le_ediv_iff_mul_le (by omega)]
      omega
    omega
  · rw [tx_len, Int.toNat_natCast]
    unfold Builtin.Str.tooLong
    refine decide_eq_false ?_
    rw [sizeLine_eq]
    omega
  · rw [if_neg (by omega), if_neg (by rw [e1]; exact Bool.false_ne_true), er]
    refine ⟨?_, .str _, H, I.tok _, ⟨_, rfl⟩, q⟩
    have el : ∀ n : Nat, (List.replicate n l).flatten.length = l.length * n := fun n => by
      induction n with
      | zero => rfl
      | succ n ih => rw [List.replicate_succ, List.flatten_cons, List.length_append, ih, Nat.mul_succ, Nat.add_comm]
    rw [tx_len, el, sizeLine_eq]
    omega
theorem ro_repS {K : PySem.W.Frag} {l : List Nat} {n : Nat} (h1 : 2 ≤ n) (h2 : n ≤ 1000) (hne : l ≠ []) (hl : l.length ≤ 1000) : RO K rRepS (.str l) (.int (n : Int)) (.str (List.replicate n l).flatten) := fun F B as M H v u Q ow r1 r2 q => ⟨l, n, r1, r2, h1, h2, hne, hl, q _ B H (Gr.refl F B) ow rfl⟩
end DJ
namespace DJ
open PySem PySem.Spec PyProof.Rows L2
/-! ### == of plain data of any kind -/
mutual
def toP : Dt → PyData
  | .non => .none
  | .bl b => .bool b
  | .int i => .int i
  | .str x => .str (tx x)
  | .lst xs => .list (toPs xs)
  | .tup xs => .tuple (toPs xs)
  | .raw _ => .none
  | .ext _ => .none
def toPs : List Dt → List PyData
  | [] => []
  | d :: ds => toP d :: toPs ds
end
mutual
def plD : Dt → Bool
  | .non => true
  | .bl _ => true
  | .int _ => true
  | .str x => x.all (· < 128)
  | .lst xs => plDs xs
  | .tup xs => plDs xs
  | .raw _ => false
  | .ext _ => false
def plDs : List Dt → Bool
  | [] => true
  | d :: ds => plD d && plDs ds
end
mutual
def dpD : Dt → Nat
  | .lst xs => dpDs xs + 1
  | .tup xs => dpDs xs + 1
  | _ => 0
def dpDs : List Dt → Nat
  | [] => 0
  | d :: ds => max (dpD d) (dpDs ds)
end
section
variable {K : PySem.W.Frag} {H : Hp}
mutual
theorem dp_of : ∀ (d : Dt) (v : V), plD d = true → Rp K H d v → Dp K H v (toP d)
  | .non, v, _, h => by rw [show v = .non from h]; exact .non
  | .bl b, v, _, h => by rw [show v = .bl b from h]; exact .bl b
  | .int i, v, _, h => by rw [show v = .int i from h]; exact .int i
  | .str x, v, _, h => by rw [show v = .str (tx x) from h]; exact .str _
  | .lst xs, v, p, h => by
    obtain ⟨a, vs, rfl, h1, h2⟩ := h
    exact .lst h1 (dp_ofs xs vs p h2)
  | .tup xs, v, p, h => by
    obtain ⟨a, vs, rfl, h1, h2⟩ := h
    exact .tup h1 (dp_ofs xs vs p h2)
  | .raw _, _, p, _ => nomatch p
  | .ext _, _, p, _ => nomatch p
theorem dp_ofs : ∀ (ds : List Dt) (vs : List V), plDs ds = true → RpL K H ds vs → DpAll K H vs (toPs ds)
  | [], vs, _, h => by rw [show vs = [] from h]; exact .nil
  | d :: ds, vs, p, h => by
    obtain ⟨v, r, rfl, h1, h2⟩ := h
    have p : (plD d && plDs ds) = true := p
    rw [Bool.and_eq_true] at p
    exact .cons (dp_of d v p.1 h1) (dp_ofs ds r p.2 h2)
end
end
theorem strOk_asc {x : List Nat} (h : x.all (· < 128) = true) : (PyData.str (tx x)).canLay0 = true := by
  have := (lay_strs [x] (fun y hy c hc => by
    rw [List.mem_singleton] at hy
    subst hy
    exact of_decide_eq_true (List.all_eq_true.mp h c hc))).1
  simpa [PyData.canLayAll0] using this
mutual
theorem lay_of : ∀ d : Dt, plD d = true → (toP d).canLay0 = true ∧ (toP d).depth = dpD d
  | .non, _ => ⟨by simp [toP, PyData.canLay0], by simp [toP, PyData.depth, dpD]⟩
  | .bl b, _ => ⟨by simp [toP, PyData.canLay0], by simp [toP, PyData.depth, dpD]⟩
  | .int i, _ => ⟨by simp [toP, PyData.canLay0], by simp [toP, PyData.depth, dpD]⟩
  | .str x, p => ⟨strOk_asc p, by simp [toP, PyData.depth, dpD]⟩
  | .lst xs, p => by
    obtain ⟨h1, h2⟩ := lay_ofs xs p
    exact ⟨by simpa [toP, PyData.canLay0] using h1, by simp [toP, PyData.depth, dpD, h2]⟩
  | .tup xs, p => by
    obtain ⟨h1, h2⟩ := lay_ofs xs p
    exact ⟨by simpa [toP, PyData.canLay0] using h1, by simp [toP, PyData.depth, dpD, h2]⟩
  | .raw _, p => nomatch p
  | .ext _, p => nomatch p
theorem lay_ofs : ∀ ds : List Dt, plDs ds = true → PyData.canLayAll0 (toPs ds) = true ∧ PyData.depthAll (toPs ds) = dpDs ds
  | [], _ => ⟨by simp [toPs, PyData.canLayAll0], by simp [toPs, PyData.depthAll, dpDs]⟩
  | d :: ds, p => by
    have p : (plD d && plDs ds) = true := p
    rw [Bool.and_eq_true] at p
    obtain ⟨h1, h2⟩ := lay_of d p.1
    obtain ⟨h3, h4⟩ := lay_ofs ds p.2
    exact ⟨by simp [toPs, PyData.canLayAll0, h1, h3], by simp [toPs, PyData.depthAll, dpDs, h2, h4]⟩
end
theorem shp_of {d : Dt} (h : plD d = true) (hd : dpD d ≤ 64) : SeqAt.shaped (toP d) = true := by
  obtain ⟨h1, h2⟩ := lay_of d h
  unfold SeqAt.shaped
  rw [Bool.and_eq_true]
  exact ⟨h1, decide_eq_true (by rw [h2]; exact hd)⟩
def eqD (d e : Dt) : Bool := PyData.eqv (toP d) (toP e)
def eqDs (d e : List Dt) : Bool := PyData.eqvAll (toPs d) (toPs e)
mutual
theorem eqD_self : ∀ d : Dt, plD d = true → eqD d d = true
  | .non, _ => rfl
  | .bl b, _ => by simp [eqD, toP, PyData.eqv]
  | .int i, _ => by simp [eqD, toP, PyData.eqv]
  | .str x, _ => by
    show (tx x == tx x) = true
    rw [tx_beq, decide_eq_true rfl]
  | .lst xs, p => by
    have := eqDs_self xs p
    simpa [eqD, toP, PyData.eqv, eqDs] using this
  | .tup xs, p => by
    have := eqDs_self xs p
    simpa [eqD, toP, PyData.eqv, eqDs] using this
  | .raw _, p => nomatch p
  | .ext _, p => nomatch p
theorem eqDs_self : ∀ ds : List Dt, plDs ds = true → eqDs ds ds = true
  | [], _ => by simp [eqDs, toPs, PyData.eqvAll]
  | d :: ds, p => by
    have p : (plD d && plDs ds) = true := p
    rw [Bool.and_eq_true] at p
    have h1 := eqD_self d p.1
    have h2 := eqDs_self ds p.2
    unfold eqD at h1
    unfold eqDs at h2 ⊢
    simp [toPs, PyData.eqvAll, h1, h2]
end
section
variable {K : PySem.W.Frag} {d e : Dt}
theorem ro_eqDt (h1 : plD d = true) (h2 : plD e = true) (n1 : dpD d ≤ 64) (n2 : dpD e ≤ 64) : RO K (rEqD K) d e (.bl (eqD d e)) := fun F B as M H v u Q ow r1 r2 q =>
  ⟨_, _, dp_of d v h1 (Rp.mono ow.bb _ _ r1), dp_of e u h2 (Rp.mono ow.bb _ _ r2), shp_of h1 n1, shp_of h2 n2, q _ B H (Gr.refl F B) ow rfl⟩
theorem ro_neDt (h1 : plD d = true) (h2 : plD e = true) (n1 : dpD d ≤ 64) (n2 : dpD e ≤ 64) : RO K (rNeD K) d e (.bl (!eqD d e)) := fun F B as M H v u Q ow r1 r2 q =>
  ⟨_, _, dp_of d v h1 (Rp.mono ow.bb _ _ r1), dp_of e u h2 (Rp.mono ow.bb _ _ r2), shp_of h1 n1, shp_of h2 n2, q _ B H (Gr.refl F B) ow rfl⟩
theorem ro_eqSelf (h1 : plD d = true) (n1 : dpD d ≤ 64) : RO K (rEqD K) d d (.bl true) := by
  have := ro_eqDt (K := K) h1 h1 n1 n1
  rw [eqD_self d h1] at this
  exact this
theorem ro_neSelf (h1 : plD d = true) (n1 : dpD d ≤ 64) : RO K (rNeD K) d d (.bl false) := by
  have := ro_neDt (K := K) h1 h1 n1 n1
  rw [eqD_self d h1] at this
  exact this
end
/-! ### four arguments by names, the last one first -/
section
variable {P : Program} {w : World} {K : PySem.W.Frag} {mg : Str → Option Value} {base : Heap}
theorem CalF.kw4 {k : Nat} {x a b c d : Str} {st : Stmt} {sp : Sp} (cf : CalF P w K mg base k x st [a, b, c, d] sp)
    (h1 : ∀ (kV doc pm : Value) (an : Option Addr) (cdv ct u v y z : Value), bindArgs (PySem.W.fnOf x x (defArgs st) (defBody st) (defScope st) .none kV doc pm an cdv ct) ⟨[u, v, y], [(d, z)]⟩ = pure [(a, u), (b, v), (c, y), (d, z)])
    (h2 : ∀ (kV doc pm : Value) (an : Option Addr) (cdv ct u v y z : Value), bindArgs (PySem.W.fnOf x x (defArgs st) (defBody st) (defScope st) .none kV doc pm an cdv ct) ⟨[u, v], [(d, z), (c, y)]⟩ = pure [(a, u), (b, v), (c, y), (d, z)])
    (h3 : ∀ (kV doc pm : Value) (an : Option Addr) (cdv ct u v y z : Value), bindArgs (PySem.W.fnOf x x (defArgs st) (defBody st) (defScope st) .none kV doc pm an cdv ct) ⟨[u], [(d, z), (c, y), (b, v)]⟩ = pure [(a, u), (b, v), (c, y), (d, z)])
    (h4 : ∀ (kV doc pm : Value) (an : Option Addr) (cdv ct u v y z : Value), bindArgs (PySem.W.fnOf x x (defArgs st) (defBody st) (defScope st) .none kV doc pm an cdv ct) ⟨[], [(d, z), (c, y), (b, v), (a, u)]⟩ = pure [(a, u), (b, v), (c, y), (d, z)]) : CalR2 P w K mg base k x [d, c, b, a] sp := by
  obtain ⟨f, fd, F, U, hm, bb⟩ := cf.ex
  refine ⟨f, fd, [a, b, c, d], F, hm, U.kp, ⟨fun s us ws hK hl => ?_, fun r1 r2 => Vals.append r1 (vals_rev r2)⟩⟩
  have hl : us.length + ws.length = 4 := by
    have : (us ++ ws.reverse).length = 4 := hl
    rw [List.length_append, List.length_reverse] at this
    exact this
  obtain ⟨oc, od, kV, doc, pm, an, cdv, ct, osl, e, lk, hcd⟩ := U.ex
  rcases us with _ | ⟨u, _ | ⟨v, _ | ⟨y, _ | ⟨z, _ | ⟨o, us⟩⟩⟩⟩⟩
  · rcases ws with _ | ⟨z, _ | ⟨y, _ | ⟨v, _ | ⟨u, _ | ⟨o, ws⟩⟩⟩⟩⟩ <;> first | (exfalso; simp at hl; done) | (exfalso; simp at hl; omega) | skip
    · subst e; exact .of_eq (h4 kV doc pm an cdv ct u v y z)
  · rcases ws with _ | ⟨z, _ | ⟨y, _ | ⟨v, _ | ⟨o, ws⟩⟩⟩⟩ <;> first | (exfalso; simp at hl; done) | (exfalso; simp at hl; omega) | skip
    · subst e; exact .of_eq (h3 kV doc pm an cdv ct u v y z)
  · rcases ws with _ | ⟨z, _ | ⟨y, _ | ⟨o, ws⟩⟩⟩ <;> first | (exfalso; simp at hl; done) | (exfalso; simp at hl; omega) | skip
    · subst e; exact .of_eq (h2 kV doc pm an cdv ct u v y z)
  · rcases ws with _ | ⟨z, _ | ⟨o, ws⟩⟩ <;> first | (exfalso; simp at hl; done) | (exfalso; simp at hl; omega) | skip
    · subst e; exact .of_eq (h1 kV doc pm an cdv ct u v y z)
  · rcases ws with _ | ⟨o, ws⟩ <;> first | (exfalso; simp at hl; done) | (exfalso; simp at hl; omega) | skip
    · exact bb s [u, v, y, z] hK rfl
  · first | (simp at hl; done) | (simp at hl; omega)
end
section
variable {K : PySem.W.Frag} {G : List (Option Sl)} {M M1 : List MO} {E : XK} {tk : TA} {a b c d z : Dt}
theorem ev_kwr4 {R : List Sl → List MO → Sl → List MO → Prop} (h : EvA K tk G M [.d d, .d c, .d b, .d a] M1) (hR : R [.d a, .d b, .d c, .d d] [] (.d z) []) : EvE K (tCallK (SpR K 4 R) gRevV E tNil tk) G M (.d z) M1 := fun F B as σ H ow sl Q q =>
  h F B as σ H ow sl _ fun vs B1 as1 H1 g1 p1 o1 r1 => by
    obtain ⟨v1, r1, e1, h1, v2, r2, e2, h2, v3, r3, e3, h3, v4, r4, e4, h4, e5⟩ := r1
    have e5 : r4 = [] := e5
    subst e5; subst e4; subst e3; subst e2; subst e1
    refine call_core (ds := [a, b, c, d]) (vs := [v4, v3, v2, v1]) hR rfl o1 ⟨v4, _, rfl, h4, v3, _, rfl, h3, v2, _, rfl, h2, v1, _, rfl, h1, rfl⟩ fun v B' as' H' g o' r' => ?_
    obtain ⟨g2, o2⟩ := back0 o1 g o'
    exact q v B' as1 H' (g1.trans g2) p1 o2 r'
end
end DJ
namespace DJ
open PySem PySem.Spec PyProof.Rows L2
/-! ### enumerate(text) -/
def Itx (x : Str) : It := ⟨fun i _ => i < x.cps.size, fun i H v H' => ∃ T c, v = .ref T ∧ H T = none ∧ H' = upd H T (.tup [.int (i : Nat), .str ⟨#[c]⟩]) ∧ x.cps[i]? = some c, fun i _ => x.cps.size ≤ i⟩
section
variable {prog : Program} {w : World} {A : Around} {E : Value → Shared → Prop} {s : Shared}
theorem nextOf_text_end {it : Addr} {x : Str} {t : Tok} {i : Nat} {Q : Value → Shared → Prop} (hh : A.handled = none)
    (hit : s.heap.IsStrIter it (strIterType x) x t i) (hx : x.cps[i]? = none)
    (hE : ∀ h' e, Heap.ExtBut it s.heap h' → (∃ o, h'.get? e = some o ∧ o.cls = .type "StopIteration") → E (.ref e) { s with heap := h' }) :
    wpAny (model prog w) A (Builtin.SmallTypes.nextOf (.ref it)) Q E s := by
  cases ha : x.cps.all (· < 128) with
  | true =>
    have e : strIterType x = "str_ascii_iterator" := by simp [strIterType, ha]
    rw [e] at hit
    exact wpAny_nextOf_ascii_end hh hit hx hE
  | false =>
    have e : strIterType x = "str_iterator" := by simp [strIterType, ha]
    rw [e] at hit
    exact wpAny_nextOf_wide_end hh hit hx hE
theorem pyNext_enum_text_end {e it : Addr} {x : Str} {t : Tok} {i : Nat} {old : Value} {Q : Option Value → Shared → Prop} (hh : A.handled = none)
    (he : IsEnum s.heap e it ((i : Nat) : Int) old) (hit : s.heap.IsStrIter it (strIterType x) x t i) (hx : x.cps[i]? = none)
    (hQ : ∀ h', Heap.ExtBut it s.heap h' → Q none { s with heap := h' }) : wpAny (model prog w) A (pyNext (.ref e)) Q E s := by
  have hT : s.TypeIs (.ref e) "enumerate" := ⟨_, he, rfl⟩
  unfold pyNext
  refine wpAny_bind (wpAny_attempt (wpAny_callSpecial?_slot (name := Str.ofString "__next__") hT F.slot_enumerate_next
    (wpAny_call_entry F.slot_enumerate_next hT F.entry_enumerate_next ?_ (F.args_enumerate_next_1 _))))
  show wpAny _ _ (field (.ref e) 2 >>= _) _ _ _
  refine wpAny_bind (wpAny_field he rfl (x := .ref it) rfl ?_)
  refine wpAny_bind (nextOf_text_end (show A.in1.handled = none from hh) hit hx fun h' x he' hx' => ?_)
  obtain ⟨o, ho, hc⟩ := hx'
  refine wpAny_bind (wpAny_isInstance (T := "StopIteration") (b := true) ⟨o, ho, hc⟩ isSubtype_stop ?_)
  exact wpAny_pure (hQ _ he')
end
theorem turn_enumS {P : Program} {w : World} {K : PySem.W.Frag} {elts : List Expr} {kk : Nat} {tpos : Pos} (x : Str) (t : Tok) (e it : Addr) :
    Turn P w K (.Tuple elts kk tpos) (Itx x) [e, it] e (fun i h => (∃ old, IsEnum h e it ((i : Nat) : Int) old) ∧ h.IsStrIter it (strIterType x) x t i ∧ e ≠ it) where
  mem := by simp
  obj := fun i h st b hb => by
    obtain ⟨⟨old, he⟩, ⟨o, ho, hc, hd⟩, _⟩ := st
    have e' : b = e ∨ b = it := by simpa using hb
    rcases e' with z | z
    · rw [z]; exact ⟨_, he, fun v q => nomatch q⟩
    · rw [z]; exact ⟨o, ho, fun v q => by rw [hd] at q; cases q⟩
  keep := fun i h h' st k => let ⟨⟨old, he⟩, ⟨o, ho, r⟩, hne⟩ := st; ⟨⟨old, k e (by simp) _ he⟩, ⟨o, k it (by simp) o ho, r⟩, hne⟩
  item := by
    intro X hP hw hK hc i pins s σ H E I hf st hg
    subst hP hw hK
    obtain ⟨⟨old, he⟩, hit, hne⟩ := st
    have hlt : i < x.cps.size := hg
    have hel : e < s.heap.objs.size := Heap.lt_size he
    have hil : it < s.heap.objs.size := by obtain ⟨_, q, _⟩ := hit; exact Heap.lt_size q
    refine wpAny_pyNext_enum_itemD (PySem.Draws.text (show X.A.in1.handled = none from I.ok.hd hc) it x t) he hit hlt hne (by simp [hne]) fun v h' tk hv ho hit' hT hsz hk => ?_
    obtain ⟨c, u, hx, rfl⟩ := hv
    refine ⟨_, rfl, wpAny_letOwnedTupleGo_enum (s := { s with heap := h', toks := tk + 1 }) ho fun h'' he' sb => ?_⟩
    have hT2 : h''.get? s.heap.objs.size = some { cls := .type "tuple", data := .seq #[.int i tk, .str ⟨#[c]⟩ u] } := (sb.2 _ (Nat.ne_of_gt hel)).trans hT
    have new : ObjOk X.prog X.w (upd H s.heap.objs.size (.tup [.int (i : Nat), .str ⟨#[c]⟩])) h'' s.heap.objs.size (.tup [.int (i : Nat), .str ⟨#[c]⟩]) :=
      ⟨by show 2 ≤ sizeLine; decide, [.int i tk, .str ⟨#[c]⟩ u], .cons ⟨_, rfl⟩ (.cons ⟨_, rfl⟩ .nil), ⟨_, hT2, rfl, _, rfl⟩⟩
    have I1 : Inv X pins σ (upd H s.heap.objs.size (.tup [.int (i : Nat), .str ⟨#[c]⟩])) { s with heap := h'', toks := tk + 1 } :=
      I.turnedNew (ch := [e, it]) (fun b ob hb q => (sb.2 b (fun z => hb (by simp [z]))).trans (hk b ob (fun z => hb (by simp [z])) (fun z => hb (by simp [z])) q)) hf (Nat.le_refl _) new
    refine ⟨.ref s.heap.objs.size, _, I1, rfl, ⟨_, c, rfl, I.hok.fresh (Nat.le_refl _), rfl, hx⟩, ⟨⟨.str ⟨#[c]⟩ u, ?_⟩, ?_, hne⟩, fun b hb => ?_⟩
    · have e1 : ((i + 1 : Nat) : Int) = (i : Int) + 1 := by omega
      rw [e1]; exact he'
    · obtain ⟨o, ho2, r⟩ := hit'
      exact ⟨o, (sb.2 it (Ne.symm hne)).trans ho2, r⟩
    · have hb' : b < s.heap.objs.size := by
        have e' : b = e ∨ b = it := by simpa using hb
        rcases e' with z | z
        · rw [z]; exact hel
        · rw [z]; exact hil
      rw [upd_ne (Nat.ne_of_lt hb')]
      exact (hf b hb).1
  done := by
    intro X hP hw hK hc i pins s σ H E I hf st hg
    subst hP hw hK
    obtain ⟨⟨old, he⟩, hit, hne⟩ := st
    have hx : x.cps.size ≤ i := hg
    obtain ⟨f0, f1, f2, f3, f4, f5⟩ := hf it (by simp)
    exact pyNext_enum_text_end (I.ok.hd hc) he hit (by simp; omega) fun h' eb => ⟨rfl, I.turned (t' := s.toks) (fun b o hb q => eb b o hb q) f0 f1 f3 f4 f5⟩
  self := fun A i s Q E st h => let ⟨⟨_, he⟩, _⟩ := st; wpAny_pyIter_enum he h
def iEnumS (ta : TA) : TI := fun σ H R => ta σ H fun vs H1 => ∃ x, vs = [.str x] ∧ R (Itx x) H1
theorem pi_enumS {X : Cx} {e : Expr} {ta : TA} {p pos tpos : Pos} {elts : List Expr} {kk : Nat} (hg : Gl X "enumerate") (hm : X.mg "enumerate" = none) (ha : PA X [e] ta) (hs : starEach [e] X.env = [(false, eval e X.env)] := by rfl) :
    PI X (.Tuple elts kk tpos) (.Call (.Name "enumerate" p) [e] [] pos) (iEnumS ta) := by
  refine ⟨fun pins s σ H R I h => ?_⟩
  refine Call_ (ld_blt I hg hm boot_enumerate (PyProof.Rows.callWith_type1 (thn (ha.run pos pins s σ H _ I h) fun us s1 ⟨vs, H1, I1, r1, q1⟩ => ?_) hs rfl))
  obtain ⟨x, ex, q⟩ := q1
  subst ex
  obtain ⟨u, rfl, t, rfl⟩ := vals1 r1
  refine call_enumerate_str fun h' he hit hsz hk => wpAny_pyIter_enum he ?_
  have I2 : Inv X pins σ H1 { s1 with heap := h' } := I1.kept (t' := s1.toks) hk
  refine ⟨s1.heap.objs.size + 1, [s1.heap.objs.size + 1, s1.heap.objs.size], _, _, H1, rfl, I2, turn_enumS x t (s1.heap.objs.size + 1) s1.heap.objs.size, ⟨⟨.none, he⟩, hit, Nat.succ_ne_self _⟩, fun b hb => ?_, q⟩
  have e' : b = s1.heap.objs.size + 1 ∨ b = s1.heap.objs.size := by simpa using hb
  have hle : s1.heap.objs.size ≤ b := by
    rcases e' with z | z
    · rw [z]; exact Nat.le_add_right _ _
    · rw [z]; exact Nat.le_refl _
  exact I1.fpOk hle (I1.hok.fresh hle)
section
variable {K : PySem.W.Frag} {B : Hp} {G G1 : List (Option Sl)} {M M1 M2 M3 : List MO} {te ta tb : TE} {tr : TA} {i j : Int} {l m : List Nat} {b : Bool} {x z : Dt}
theorem yl_enumS {l : List Nat} : Yl K B (Itx (tx l)) (enumD 0 (l.map fun c => .str [c])) := fun F B' as M H i e ow => by
  refine ⟨fun x hx => ?_, fun hi => ?_⟩
  · rw [enumD_get, List.getElem?_map] at hx
    cases hc : l[i]? with
    | none => rw [hc] at hx; cases hx
    | some c =>
      rw [hc] at hx
      have hx : Dt.tup [.int ((0 + i : Nat) : Nat), .str [c]] = x := Option.some.inj hx
      subst hx
      refine ⟨?_, fun v H' y => ?_⟩
      · show i < l.toArray.size
        rw [List.size_toArray]
        exact (List.getElem?_eq_some_iff.mp hc).1
      · obtain ⟨T, c', rfl, hT, rfl, h1⟩ := y
        have h2 : l[i]? = some c' := by
          rw [show (tx l).cps = l.toArray from rfl, List.getElem?_toArray] at h1
          exact h1
        rw [hc] at h2
        cases h2
        have hg := ow.gr hT (.tup [.int (i : Nat), .str ⟨#[c]⟩])
        refine ⟨_, hg, ow.new hT _, T, _, rfl, .inl (.inl upd_same), _, _, rfl, ?_, _, _, rfl, rfl, rfl⟩
        rw [Nat.zero_add]
        rfl
  · show l.toArray.size ≤ i
    rw [List.size_toArray]
    rw [enumD_len, List.length_map] at hi
    exact hi
theorem ei_enumS (h : EvA K tr G M [.d (.str l)] M1) : EvI K (iEnumS tr) G M (enumD 0 (l.map fun c => .str [c])) M1 := fun F B as σ H ow sl R q =>
  h F B as σ H ow sl _ fun vs B' as' H' g p o' r => ⟨tx l, two_str (SlL.data (ds := [.str l]) r), q _ B' as' H' g p o' yl_enumS⟩
/-! ### slices of lists -/
theorem ev_slL {tl th : TO} {lo hi : Option Int} {xs : List Dt} (h : EvE K te G M (.d (.lst xs)) M1) (h1 : EvO K tl G M1 lo M2) (h2 : EvO K th G M2 hi M3) : EvE K (tSl (rSlL K) te tl th) G M (.d (lstX K (cutL xs lo hi))) M3 := fun F B as σ H ow sl Q q =>
  h F B as σ H ow sl _ fun v B1 as1 H1 g1 p1 o1 r1 => h1 F B1 as1 σ H1 o1 (sl.mono g1.1 p1) _ fun B2 as2 H2 g2 p2 o2 => h2 F B2 as2 σ H2 o2 ((sl.mono g1.1 p1).mono g2.1 p2) _ fun B3 as3 H3 g3 p3 o3 => by
    obtain ⟨a, vs, e, h3, h4⟩ := r1
    refine ⟨a, vs, e, o3.bb.seq (g3.1.seq (g2.1.seq h3)), fun p hp => ?_⟩
    have g4 := o3.gr hp (.lst (L2.cutV vs lo hi))
    refine q _ _ as3 _ (g1.trans (g2.trans (g3.trans g4))) (p1.trans (p2.trans p3)) (o3.new hp _) fun H' s => ⟨p, _, rfl, s _ _ upd_same, ?_⟩
    have r := RpL.mono (g2.1.trans (g3.1.trans (g4.1.trans s))) _ _ h4
    unfold L2.cutV cutL
    rw [h4.len]
    exact RpL.take _ (RpL.drop _ r)
/-! ### xs.extend(ys) -/
theorem es_extO {to : TE} {k : Nat} {xs ys : List Dt} (ho : EvE K to G M (.o k) M1) (h : EvE K te G M1 (.d (lstX K ys)) M2) (hk : ∃ zs, M1[k]? = some (.lst zs)) (hm : M2[k]? = some (.lst xs)) (hz : xs.length + ys.length < 1000000) :
    EvS K (tDrop (tBM K "list" rExtend to (tCons te tNil))) G M (.nx G (M2.set k (.lst (xs ++ ys)))) := fun F B as σ H ow sl D gd =>
  ho F B as σ H ow sl _ fun w B1 as1 H1 g1 p1 o1 r1 => by
    obtain ⟨a, ha, rfl⟩ := r1
    obtain ⟨zs, hy⟩ := hk
    obtain ⟨_, _, vs1, hv1, _⟩ := o1.own k a _ ha hy (fun z => nomatch z)
    refine ⟨.inl ⟨rfl, vs1, .inl (.inl hv1)⟩, h F B1 as1 σ H1 o1 (sl.mono g1.1 p1) _ fun v B2 as2 H2 g2 p2 o2 r2 => ?_⟩
    obtain ⟨b, us, rfl, hb, hu⟩ := r2 B2 (Same.refl _)
    have ha := p2.get ha
    obtain ⟨_, _, vs, hv, hr⟩ := o2.own k a _ ha hm (fun z => nomatch z)
    refine ⟨a, b, vs, us, rfl, rfl, hv, o2.bb _ _ hb, by rw [hr.len, hu.len]; exact Nat.le_trans (Nat.le_of_lt hz) (by decide), gd B2 as2 σ _ (g1.trans g2) (p1.trans p2) (o2.put ha hm (fun z => nomatch z) ⟨_, upd_same, RpL.append hr hu⟩) ((sl.mono g1.1 p1).mono g2.1 p2)⟩
/-! ### repr of truth values -/
def rReprB : List V → Hp → VK → Prop := fun xs H Q => ∃ b, xs = [.bl b] ∧ Q (.str (if b = true then "True" else "False")) H
theorem call_repr_bool {X : Cx} : CallR X (.builtin "repr") rReprB := by
  intro pins s σ H xs us Q I r h
  obtain ⟨b, rfl, q⟩ := h
  obtain ⟨u, rfl, ru⟩ := vals1 r
  cases ru
  cases b with
  | true => exact PySem.P.repr_of_bool ⟨.str _, H, I.tok _, ⟨_, rfl⟩, q⟩
  | false => exact PySem.P.repr_of_bool ⟨.str _, H, I.tok _, ⟨_, rfl⟩, q⟩
abbrev boolL (b : Bool) : List Nat := if b = true then [84, 114, 117, 101] else [70, 97, 108, 115, 101]
theorem rc_reprB : RC K rReprB [.bl b] (.str (boolL b)) := fun F B as M H vs Q ow r q => by
  obtain ⟨v, r1, e, h1, h2⟩ := r
  have h1 : v = V.bl b := h1
  have h2 : r1 = [] := h2
  subst h2; subst h1; subst e
  refine ⟨b, rfl, q _ B H (Gr.refl F B) ow ?_⟩
  cases b <;> rfl
theorem boolL_inj (a b : Bool) : decide (boolL a = boolL b) = decide (a = b) := by cases a <;> cases b <;> rfl
/-! ### split -/
abbrev splL (m l : List Nat) : List (List Nat) := TL.spl m 0 [] l
theorem RpL.strsX {H : Hp} (xs : List (List Nat)) : RpL K H (xs.map Dt.str) ((xs.map tx).map V.str) := RpL.strs_of xs
theorem rm_split (h : l.length ≤ 1000000) (hm : m ≠ []) (hk : m.all (· < 256) = true) : RM K (fun x xs H Q => ∃ a b, x = .str a ∧ xs = [.str b] ∧ (b.length == 0) = false ∧ a.length + 2 ≤ sizeLine ∧ rNewStrs (Txt.split a b) H Q) (.str l) [.str m] (lstX K ((splL m l).map Dt.str)) := fun F B as M H v vs Q ow r1 r2 q =>
  ⟨tx l, tx m, r1, two_str r2, by rw [tx_len]; exact beq_eq_false_iff_ne.mpr (fun e => hm (List.length_eq_zero_iff.mp e)), by rw [tx_len]; exact Nat.le_trans (Nat.add_le_add_right h 2) (by decide), fun p hp => by
    refine q _ _ _ (ow.gr hp _) (ow.new hp _) fun H' s => ⟨p, _, rfl, s _ _ upd_same, ?_⟩
    rw [show Txt.split (tx l) (tx m) = (splL m l).map tx from SX.split_S hm hk]
    exact RpL.strs_of _⟩
/-! ### in, not in of lists of texts, of truth values -/
theorem ro_inL {xs : List (List Nat)} : RO K (rIn K false) (.str l) (.lst (xs.map Dt.str)) (.bl (decide (l ∈ xs))) := fun F B as M H v u Q ow r1 r2 q => by
  obtain ⟨a, vs, e, h1, h2⟩ := r2
  have e2 := h2.strs
  subst e2; subst e
  have r1 : v = .str (tx l) := r1
  subst r1
  refine ⟨a, _, rfl, .inl (ow.bb.seq h1), rfl, flat_strs xs, q _ B H (Gr.refl F B) ow ?_⟩
  show V.bl (inV _ _) = _
  rw [inV_strs]
theorem ro_ninL {xs : List (List Nat)} : RO K (rIn K true) (.str l) (.lst (xs.map Dt.str)) (.bl (!decide (l ∈ xs))) := fun F B as M H v u Q ow r1 r2 q => by
  obtain ⟨a, vs, e, h1, h2⟩ := r2
  have e2 := h2.strs
  subst e2; subst e
  have r1 : v = .str (tx l) := r1
  subst r1
  refine ⟨a, _, rfl, .inl (ow.bb.seq h1), rfl, flat_strs xs, q _ B H (Gr.refl F B) ow ?_⟩
  show V.bl (!inV _ _) = _
  rw [inV_strs]
theorem flat_bls : ∀ xs : List Bool, (xs.map V.bl).all flatV = true
  | [] => rfl
  | x :: xs => by rw [List.map_cons, List.all_cons, flat_bls xs] <;> rfl
theorem inV_bls (b : Bool) : ∀ xs : List Bool, inV (.bl b) (xs.map V.bl) = decide (b ∈ xs)
  | [] => rfl
  | x :: xs => by
    show (eqV (.bl x) (.bl b) || inV (.bl b) (xs.map V.bl)) = _
    rw [inV_bls b xs]
    cases x <;> cases b <;> simp [eqV]
theorem ro_ninB {xs : List Bool} : RO K (rIn K true) (.bl b) (.lst (xs.map Dt.bl)) (.bl (!decide (b ∈ xs))) := fun F B as M H v u Q ow r1 r2 q => by
  obtain ⟨a, vs, e, h1, h2⟩ := r2
  have e2 := h2.bls
  subst e2; subst e
  have r1 : v = .bl b := r1
  subst r1
  refine ⟨a, _, rfl, .inl (ow.bb.seq h1), rfl, flat_bls xs, q _ B H (Gr.refl F B) ow ?_⟩
  show V.bl (!inV _ _) = _
  rw [inV_bls]
end
/-! ### dicts with text keys, values any data -/
abbrev Dk := List (List Nat × Dt)
def RpK (K : PySem.W.Frag) (H : Hp) : Dk → List (Key × V) → Prop
  | [], ks => ks = []
  | d :: ds, ks => ∃ v r, ks = (Sum.inr (tx d.1), v) :: r ∧ Rp K H d.2 v ∧ RpK K H ds r
def putD (ds : Dk) (k : List Nat) (x : Dt) : Dk := if (ds.any fun d => decide (d.1 = k)) = true then ds.map (fun d => if d.1 = k then (d.1, x) else d) else ds ++ [(k, x)]
def getD' (ds : Dk) (k : List Nat) : Option Dt := (ds.find? fun d => decide (d.1 = k)).map (·.2)
section
variable {K : PySem.W.Frag} {B H : Hp}
theorem RpK.mono {H' : Hp} (e : Same H H') : ∀ {ds : Dk} {ks : List (Key × V)}, RpK K H ds ks → RpK K H' ds ks
  | [], _, h => h
  | d :: ds, _, ⟨v, r, e1, h1, h2⟩ => ⟨v, r, e1, Rp.mono e _ _ h1, RpK.mono e h2⟩
theorem RpK.len : ∀ {ds : Dk} {ks : List (Key × V)}, RpK K H ds ks → ks.length = ds.length
  | [], _, h => by rw [show _ = [] from h]; rfl
  | d :: ds, _, ⟨v, r, e, _, h⟩ => by rw [e, List.length_cons, List.length_cons, RpK.len h]
theorem keyd (a b : List Nat) : decide ((Sum.inr (tx a) : Key) = Sum.inr (tx b)) = decide (a = b) := by
  by_cases h : a = b
  · subst h; rw [decide_eq_true rfl, decide_eq_true rfl]
  · rw [decide_eq_false h, decide_eq_false fun e => h (tx_inj (Sum.inr.inj e))]
theorem RpK.any {k : List Nat} : ∀ {ds : Dk} {ks : List (Key × V)}, RpK K H ds ks → (ks.any fun kv => decide (kv.1 = Sum.inr (tx k))) = ds.any fun d => decide (d.1 = k)
  | [], _, h => by rw [show _ = [] from h]; rfl
  | d :: ds, _, ⟨v, r, e, _, h⟩ => by
    subst e
    rw [List.any_cons, List.any_cons, RpK.any h]
    congr 1
    exact keyd d.1 k
theorem RpK.app {k : List Nat} {x : Dt} {u : V} (hx : Rp K H x u) : ∀ {ds : Dk} {ks : List (Key × V)}, RpK K H ds ks → RpK K H (ds ++ [(k, x)]) (ks ++ [(Sum.inr (tx k), u)])
  | [], _, h => by rw [show _ = [] from h]; exact ⟨u, [], rfl, hx, rfl⟩
  | d :: ds, _, ⟨v, r, e, h1, h⟩ => by subst e; exact ⟨v, _, rfl, h1, RpK.app hx h⟩
theorem RpK.mp {k : List Nat} {x : Dt} {u : V} (hx : Rp K H x u) : ∀ {ds : Dk} {ks : List (Key × V)}, RpK K H ds ks → RpK K H (ds.map fun d => if d.1 = k then (d.1, x) else d) (ks.map fun kv => if kv.1 = Sum.inr (tx k) then (kv.1, u) else kv)
  | [], _, h => by rw [show _ = [] from h]; rfl
  | d :: ds, _, ⟨v, r, e, h1, h⟩ => by
    subst e
    by_cases z : d.1 = k
    · refine ⟨u, _, ?_, ?_, RpK.mp hx h⟩
      · show (if (Sum.inr (tx d.1) : Key) = Sum.inr (tx k) then _ else _) :: _ = (Sum.inr (tx (if d.1 = k then (d.1, x) else d).1), u) :: _
        rw [if_pos z, if_pos (by rw [z])]
      · show Rp K H (if d.1 = k then (d.1, x) else d).2 u
        rw [if_pos z]; exact hx
    · have z2 : ¬ (Sum.inr (tx d.1) : Key) = Sum.inr (tx k) := fun e => z (tx_inj (Sum.inr.inj e))
      refine ⟨v, _, ?_, ?_, RpK.mp hx h⟩
      · show (if (Sum.inr (tx d.1) : Key) = Sum.inr (tx k) then _ else _) :: _ = (Sum.inr (tx (if d.1 = k then (d.1, x) else d).1), v) :: _
        rw [if_neg z, if_neg z2]
      · show Rp K H (if d.1 = k then (d.1, x) else d).2 v
        rw [if_neg z]; exact h1
theorem RpK.put {k : List Nat} {x : Dt} {u : V} (hx : Rp K H x u) {ds : Dk} {ks : List (Key × V)} (h : RpK K H ds ks) : RpK K H (putD ds k x) (putK ks (Sum.inr (tx k)) u) := by
  unfold putD putK
  rw [RpK.any h]
  split
  · exact RpK.mp hx h
  · exact RpK.app hx h
theorem RpK.get {k : List Nat} {x : Dt} : ∀ {ds : Dk} {ks : List (Key × V)}, RpK K H ds ks → getD' ds k = some x → ∃ v, valV ks (Sum.inr (tx k)) = some v ∧ Rp K H x v
  | [], _, _, e => by cases e
  | d :: ds, _, ⟨v, r, e, h1, h⟩, g => by
    subst e
    by_cases z : d.1 = k
    · have e1 : getD' (d :: ds) k = some d.2 := by
        unfold getD'
        rw [List.find?_cons_of_pos (by exact decide_eq_true z)] <;> rfl
      rw [e1] at g
      cases g
      exact ⟨v, valV_pos (by rw [z]), h1⟩
    · have e1 : getD' (d :: ds) k = getD' ds k := by
        unfold getD'
        rw [List.find?_cons_of_neg (by rw [decide_eq_true_eq]; exact z)]
      rw [e1] at g
      obtain ⟨v', h2, h3⟩ := RpK.get h g
      exact ⟨v', (valV_neg fun e => z (tx_inj (Sum.inr.inj e))).trans h2, h3⟩
end
def dkO (K : PySem.W.Frag) (ds : Dk) : MO := .box fun B o => ∃ ks, o = .dK ks ∧ RpK K B ds ks
def dkD (K : PySem.W.Frag) (ds : Dk) : Dt := .ext fun H v => ∃ a ks, v = .ref a ∧ H a = some (.dK ks) ∧ RpK K H ds ks
section
variable {K : PySem.W.Frag} {F B H : Hp} {as : List Addr} {G G1 : List (Option Sl)} {M M1 M2 M3 : List MO} {te td ty : TE} {x : Dt}
theorem mor_dk {ds : Dk} {a : Addr} {ks : List (Key × V)} (e : H a = some (.dK ks)) (r : RpK K B ds ks) : MoR K B H a (dkO K ds) := ⟨_, e, fun _ z => (nomatch z), fun B' s => ⟨ks, rfl, RpK.mono s r⟩⟩
theorem ev_dnewK : EvE K tDNewK G M (.o M.length) (M ++ [dkO K []]) := fun F B as σ H ow sl Q q p hp => by
  refine q _ B (as ++ [p]) _ (Gr.refl F B) ⟨[p], rfl⟩ (ow.newO hp (mor_dk upd_same rfl)) ⟨p, ?_, rfl⟩
  rw [← ow.len, List.getElem?_append_right (Nat.le_refl _), Nat.sub_self] <;> rfl
theorem es_putK {k : Nat} {ds : Dk} {kk : List Nat} (hv : EvE K te G M (.d x) M1) (hd : EvE K td G M1 (.o k) M2) (hk : EvE K ty G M2 (.d (.str kk)) M3) (hm : M3[k]? = some (dkO K ds)) (hl : ds.length < 100000) :
    EvS K (sDPut td ty te) G M (.nx G (M3.set k (dkO K (putD ds kk x)))) := fun F B as σ H ow sl D gd =>
  hv F B as σ H ow sl _ fun w B1 as1 H1 g1 p1 o1 r1 => hd F B1 as1 σ H1 o1 (sl.mono g1.1 p1) _ fun y B2 as2 H2 g2 p2 o2 r2 => hk F B2 as2 σ H2 o2 ((sl.mono g1.1 p1).mono g2.1 p2) _ fun z B3 as3 H3 g3 p3 o3 r3 => by
    obtain ⟨a, ha, rfl⟩ := r2
    have r3 : z = .str (tx kk) := r3
    subst r3
    have ha3 : as3[k]? = some a := p3.get ha
    obtain ⟨f0, b0, o, hH, _, hb⟩ := o3.own k a _ ha3 hm (fun z => nomatch z)
    obtain ⟨ks, rfl, hr⟩ := hb B3 (Same.refl _)
    refine ⟨a, _, rfl, .inl ⟨ks, Sum.inr (tx kk), hH, rfl, by rw [hr.len, sizeLine_eq]; omega, rfl⟩, ?_⟩
    exact gd B3 as3 σ _ ((g1.trans g2).trans g3) ((p1.trans p2).trans p3) (o3.put ha3 hm (fun z => nomatch z) (mor_dk upd_same (RpK.put (Rp.mono (g2.1.trans g3.1) _ _ r1) hr))) (((sl.mono g1.1 p1).mono g2.1 p2).mono g3.1 p3)
theorem ev_atKO {k : Nat} {ds : Dk} {kk : List Nat} (hd : EvE K td G M (.o k) M1) (hk : EvE K ty G M1 (.d (.str kk)) M2) (hm : M2[k]? = some (dkO K ds)) (hz : getD' ds kk = some x) : EvE K (tDGet td ty) G M (.d x) M2 := fun F B as σ H ow sl Q q =>
  hd F B as σ H ow sl _ fun v B1 as1 H1 g1 p1 o1 r1 => hk F B1 as1 σ H1 o1 (sl.mono g1.1 p1) _ fun z B2 as2 H2 g2 p2 o2 r2 => by
    obtain ⟨a, ha, rfl⟩ := r1
    have r2 : z = .str (tx kk) := r2
    subst r2
    obtain ⟨f0, b0, o, hH, _, hb⟩ := o2.own k a _ (p2.get ha) hm (fun z => nomatch z)
    obtain ⟨ks, rfl, hr⟩ := hb B2 (Same.refl _)
    obtain ⟨v, h1, h2⟩ := RpK.get hr hz
    exact ⟨a, v, rfl, .inl ⟨ks, Sum.inr (tx kk), .inl hH, rfl, h1.symm⟩, q v B2 as2 H2 (g1.trans g2) (p1.trans p2) o2 h2⟩
theorem ev_atKD {ds : Dk} {kk : List Nat} (hd : EvE K td G M (.d (dkD K ds)) M1) (hk : EvE K ty G M1 (.d (.str kk)) M2) (hz : getD' ds kk = some x) : EvE K (tDGet td ty) G M (.d x) M2 := fun F B as σ H ow sl Q q =>
  hd F B as σ H ow sl _ fun v B1 as1 H1 g1 p1 o1 r1 => hk F B1 as1 σ H1 o1 (sl.mono g1.1 p1) _ fun z B2 as2 H2 g2 p2 o2 r2 => by
    obtain ⟨a, ks, rfl, ha, hr⟩ := r1 B2 g2.1
    have r2 : z = .str (tx kk) := r2
    subst r2
    obtain ⟨v, h1, h2⟩ := RpK.get hr hz
    exact ⟨a, v, rfl, .inl ⟨ks, Sum.inr (tx kk), .inl (o2.bb _ _ ha), rfl, h1.symm⟩, q v B2 as2 H2 (g1.trans g2) (p1.trans p2) o2 h2⟩
end
end DJ
namespace DJ
open PySem PySem.Spec PyProof.Rows L2
section
variable {K : PySem.W.Frag} {G : List (Option Sl)} {M M1 M2 M3 : List MO} {ta tb tc : TE} {x y z : Dt} {r r' : R2} {a b : Bool}
/-- a op b op c -/
theorem ev_chain (ha : EvE K ta G M (.d x) M1) (hb : EvE K tb G M1 (.d y) M2) (hr : RO K r x y (.bl a)) (hc : a = true → EvE K tc G M2 (.d z) M3) (hr' : a = true → RO K r' y z (.bl b)) (hf : a = false → M2 = M3) :
    EvE K (tChain r r' ta tb tc) G M (.d (.bl (a && b))) M3 := fun F B as σ H o sl Q q =>
  ha F B as σ H o sl _ fun v B1 as1 H1 g1 p1 o1 r1 => hb F B1 as1 σ H1 o1 (sl.mono g1.1 p1) _ fun u B2 as2 H2 g2 p2 o2 r2 =>
    hr F B2 as2 M2 H2 v u _ o2 (Rp.mono g2.1 _ _ r1) r2 fun w B3 H3 g3 o3 r3 => ⟨a, r3, by
      cases a with
      | true =>
        rw [if_pos rfl]
        exact hc rfl F B3 as2 σ H3 o3 (((sl.mono g1.1 p1).mono g2.1 p2).mono g3.1 (Px.refl as2)) _ fun w' B4 as4 H4 g4 p4 o4 r4 =>
          hr' rfl F B4 as4 M3 H4 u w' Q o4 (Rp.mono (g3.1.trans g4.1) _ _ r2) r4 fun w2 B5 H5 g5 o5 r5 => q w2 B5 as4 H5 (g1.trans (g2.trans (g3.trans (g4.trans g5)))) ((p1.trans p2).trans p4) o5 r5
      | false =>
        rw [if_neg Bool.false_ne_true]
        exact q _ B3 as2 H3 (g1.trans (g2.trans g3)) (p1.trans p2) (hf rfl ▸ o3) rfl⟩
theorem ro_eqBl : RO K rEq (.bl a) (.bl b) (.bl (decide (a = b))) := fun F B as M H v u Q ow r1 r2 q => by
  subst r1; subst r2
  exact ⟨rfl, q _ B H (Gr.refl F B) ow (by cases a <;> cases b <;> rfl)⟩
theorem ro_neBl : RO K rNe (.bl a) (.bl b) (.bl (!decide (a = b))) := fun F B as M H v u Q ow r1 r2 q => by
  subst r1; subst r2
  exact ⟨rfl, q _ B H (Gr.refl F B) ow (by cases a <;> cases b <;> rfl)⟩
end
/-- the signs of a text with their places -/
def plc : Nat → List Nat → List (Nat × Nat)
  | _, [] => []
  | n, c :: l => (n, c) :: plc (n + 1) l
abbrev plcD (p : Nat × Nat) : Dt := .tup [.int (p.1 : Nat), .str [p.2]]
theorem plc_enum : ∀ (l : List Nat) (n : Nat), enumD n (l.map fun c => .str [c]) = (plc n l).map plcD
  | [], _ => rfl
  | c :: l, n => by
    rw [List.map_cons, enumD, plc, List.map_cons, plc_enum l (n + 1)]
theorem plc_at : ∀ {l : List Nat} {n : Nat} {p : Nat × Nat}, p ∈ plc n l → ∃ i, p.1 = n + i ∧ l[i]? = some p.2
  | [], _, _, h => nomatch h
  | c :: l, n, p, h => by
    rcases List.mem_cons.mp h with e | h
    · subst e; exact ⟨0, rfl, rfl⟩
    · obtain ⟨i, h1, h2⟩ := plc_at h
      exact ⟨i + 1, by rw [h1]; omega, h2⟩
/-! ### three arguments by names, the last one first -/
section
variable {P : Program} {w : World} {K : PySem.W.Frag} {mg : Str → Option Value} {base : Heap}
theorem CalF.kw3 {k : Nat} {x a b c : Str} {st : Stmt} {sp : Sp} (cf : CalF P w K mg base k x st [a, b, c] sp)
    (h1 : ∀ (kV doc pm : Value) (an : Option Addr) (cdv ct u v y : Value), bindArgs (PySem.W.fnOf x x (defArgs st) (defBody st) (defScope st) .none kV doc pm an cdv ct) ⟨[u, v], [(c, y)]⟩ = pure [(a, u), (b, v), (c, y)])
    (h2 : ∀ (kV doc pm : Value) (an : Option Addr) (cdv ct u v y : Value), bindArgs (PySem.W.fnOf x x (defArgs st) (defBody st) (defScope st) .none kV doc pm an cdv ct) ⟨[u], [(c, y), (b, v)]⟩ = pure [(a, u), (b, v), (c, y)])
    (h3 : ∀ (kV doc pm : Value) (an : Option Addr) (cdv ct u v y : Value), bindArgs (PySem.W.fnOf x x (defArgs st) (defBody st) (defScope st) .none kV doc pm an cdv ct) ⟨[], [(c, y), (b, v), (a, u)]⟩ = pure [(a, u), (b, v), (c, y)]) : CalR2 P w K mg base k x [c, b, a] sp := by
  obtain ⟨f, fd, F, U, hm, bb⟩ := cf.ex
  refine ⟨f, fd, [a, b, c], F, hm, U.kp, ⟨fun s us ws hK hl => ?_, fun r1 r2 => Vals.append r1 (vals_rev r2)⟩⟩
  have hl : us.length + ws.length = 3 := by
    have : (us ++ ws.reverse).length = 3 := hl
    rw [List.length_append, List.length_reverse] at this
    exact this
  obtain ⟨oc, od, kV, doc, pm, an, cdv, ct, osl, e, lk, hcd⟩ := U.ex
  rcases us with _ | ⟨u, _ | ⟨v, _ | ⟨y, _ | ⟨o, us⟩⟩⟩⟩
  · rcases ws with _ | ⟨y, _ | ⟨v, _ | ⟨u, _ | ⟨o, ws⟩⟩⟩⟩ <;> first | (exfalso; simp at hl; done) | (exfalso; simp at hl; omega) | skip
    · subst e; exact .of_eq (h3 kV doc pm an cdv ct u v y)
  · rcases ws with _ | ⟨y, _ | ⟨v, _ | ⟨o, ws⟩⟩⟩ <;> first | (exfalso; simp at hl; done) | (exfalso; simp at hl; omega) | skip
    · subst e; exact .of_eq (h2 kV doc pm an cdv ct u v y)
  · rcases ws with _ | ⟨y, _ | ⟨o, ws⟩⟩ <;> first | (exfalso; simp at hl; done) | (exfalso; simp at hl; omega) | skip
    · subst e; exact .of_eq (h1 kV doc pm an cdv ct u v y)
  · rcases ws with _ | ⟨o, ws⟩ <;> first | (exfalso; simp at hl; done) | (exfalso; simp at hl; omega) | skip
    · exact bb s [u, v, y] hK rfl
  · exfalso
    first | (simp at hl; done) | (simp at hl; omega)
end
section
variable {K : PySem.W.Frag} {G : List (Option Sl)} {M M1 : List MO} {E : XK} {tk : TA} {a b c z : Dt}
theorem ev_kwr3 {R : List Sl → List MO → Sl → List MO → Prop} (h : EvA K tk G M [.d c, .d b, .d a] M1) (hR : R [.d a, .d b, .d c] [] (.d z) []) : EvE K (tCallK (SpR K 3 R) gRevV E tNil tk) G M (.d z) M1 := fun F B as σ H ow sl Q q =>
  h F B as σ H ow sl _ fun vs B1 as1 H1 g1 p1 o1 r1 => by
    obtain ⟨v1, r1, e1, h1, v2, r2, e2, h2, v3, r3, e3, h3, e5⟩ := r1
    have e5 : r3 = [] := e5
    subst e5; subst e3; subst e2; subst e1
    refine call_core (ds := [a, b, c]) (vs := [v3, v2, v1]) hR rfl o1 ⟨v3, _, rfl, h3, v2, _, rfl, h2, v1, _, rfl, h1, rfl⟩ fun v B' as' H' g o' r' => ?_
    obtain ⟨g2, o2⟩ := back0 o1 g o'
    exact q v B' as1 H' (g1.trans g2) p1 o2 r'
end
end DJ
namespace DJ
open PySem PySem.Spec PyProof.Rows L2
section
variable {K : PySem.W.Frag} {G G1 : List (Option Sl)} {M M' X : List MO} {t : TS}
/-- what was made for a turn is let go, what is owned stays -/
theorem es_nxU (h : EvS K t G M (.nx G1 (M' ++ X))) (hl : M.length = M'.length) (hg : ∀ k, some (Sl.o k) ∈ G1 → k < M'.length) : EvS K t G M (.nx G1 M') := fun F B as σ H ow sl D gd =>
  h F B as σ H ow sl D fun B' as' σ' H' g p o' s' => by
    obtain ⟨tl, rfl⟩ := p
    refine gd B' as σ' H' g (Px.refl as) ⟨o'.fb, o'.bb, ow.len.trans hl, ow.nd, fun a ha => o'.al a (List.mem_append_left _ ha), fun a ha => o'.fa a (List.mem_append_left _ ha), fun k a m e1 e2 hm => ?_⟩ ⟨s'.1, fun i s e => ?_⟩
    · refine o'.own k a m ?_ ?_ hm
      · rw [List.getElem?_append_left (List.getElem?_eq_some_iff.mp e1).1]
        exact e1
      · rw [List.getElem?_append_left (List.getElem?_eq_some_iff.mp e2).1]
        exact e2
    · obtain ⟨v, e1, r⟩ := s'.2 i s e
      refine ⟨v, e1, ?_⟩
      cases s with
      | d x => exact r
      | o k =>
        obtain ⟨a, ha, rfl⟩ := r
        have hk := hg k (List.mem_of_getElem? e)
        rw [List.getElem?_append_left (by rw [ow.len, hl]; exact hk)] at ha
        exact ⟨a, ha, rfl⟩
end
theorem get_putD (ds : Dk) (k : List Nat) (x : Dt) : getD' (putD ds k x) k = some x := by
  unfold getD' putD
  split
  · rename_i h
    induction ds with
    | nil => cases h
    | cons d ds ih =>
      by_cases z : d.1 = k
      · rw [List.map_cons, List.find?_cons_of_pos (by rw [if_pos z]; exact decide_eq_true z), if_pos z] <;> rfl
      · rw [List.any_cons, decide_eq_false z, Bool.false_or] at h
        rw [List.map_cons, List.find?_cons_of_neg (by rw [if_neg z, decide_eq_true_eq]; exact z)]
        exact ih h
  · rename_i h
    induction ds with
    | nil => rw [List.nil_append, List.find?_cons_of_pos (by exact decide_eq_true rfl)] <;> rfl
    | cons d ds ih =>
      rw [List.any_cons] at h
      have z : ¬ d.1 = k := fun e => h (by rw [decide_eq_true e] <;> rfl)
      rw [List.cons_append, List.find?_cons_of_neg (by rw [decide_eq_true_eq]; exact z)]
      exact ih (fun e => h (by rw [e, Bool.or_true]))
theorem map_take {α β : Type} (f : α → β) (l : List α) (n : Nat) : (l.map f).take n = (l.take n).map f := (List.map_take).symm
end DJ
namespace DJ
open PySem PySem.Spec PyProof.Rows L2
/-! ### text * number, any number -/
theorem rep_len (l : List Nat) : ∀ n : Nat, (List.replicate n l).flatten.length = l.length * n
  | 0 => rfl
  | n + 1 => by rw [List.replicate_succ, List.flatten_cons, List.length_append, rep_len l n, Nat.mul_succ, Nat.add_comm]
def rRepN : R2 := fun x y H Q => ∃ (l : List Nat) (n : Int), x = .str (tx l) ∧ y = .int n ∧ -100000 ≤ n ∧ n ≤ 100000 ∧ l.length * n.toNat ≤ 1000000 ∧ Q (.str (tx (List.replicate n.toNat l).flatten)) H
theorem rep_made (l : List Nat) (n : Nat) : (⟨(List.replicate n (tx l).cps).foldl (· ++ ·) #[]⟩ : Str) = tx (List.replicate n l).flatten := by
  show (⟨_⟩ : Str) = ⟨_⟩
  congr 1
  apply Array.toList_inj.mp
  rw [fold_rep] <;> simp
theorem op_repN {X : Cx} : OpR X (binaryOp .Mult) rRepN := by
  intro pins s σ H x y v u Q I rx ry h
  obtain ⟨l, n, rfl, rfl, h1, h2, hm, q⟩ := h
  obtain ⟨t, rfl⟩ := rx
  obtain ⟨t', rfl⟩ := ry
  have size : (tx (List.replicate n.toNat l).flatten).length ≤ sizeLine := by
    rw [tx_len, rep_len, sizeLine_eq]
    omega
  refine P.mul_str (Bool.or_eq_false_iff.mpr ⟨decide_eq_false (by omega), decide_eq_false (by omega)⟩) (fun z1 z2 => ?_) (fun z1 z2 => ?_) ?_
  · rw [tx_len, Bool.or_eq_false_iff] at *
    have hn1 : n ≠ 1 := by simpa using z2.1
    rw [show (2 ^ 63 - 1 : Int) = 9223372036854775807 by decide]
    have hl0 : (l.length : Int) ≤ 1000000 := by
      have : 1 ≤ n.toNat := by omega
      have : l.length * 1 ≤ l.length * n.toNat := Nat.mul_le_mul_left _ this
      omega
    have : (9223372036854775807 : Int) / n ≥ 1000000 := by
      rw [ge_iff_le, Int.le_ediv_iff_mul_le (by omega)]
      omega
    omega
  · rw [tx_len]
    unfold Builtin.Str.tooLong
    refine decide_eq_false ?_
    rw [sizeLine_eq]
    omega
  · by_cases z : n < 1
    · rw [if_pos z]
      have e : n.toNat = 0 := by omega
      rw [e] at q
      exact ⟨by decide, .str _, H, I.tok _, ⟨_, rfl⟩, q⟩
    · rw [if_neg z]
      by_cases y : (n == 1 || (tx l).length == 0) = true
      · rw [if_pos y]
        have e : (List.replicate n.toNat l).flatten = l := by
          rw [Bool.or_eq_true, tx_len] at y
          rcases y with y | y
          · have : n = 1 := by simpa using y
            subst this
            simp
          · have : l = [] := List.length_eq_zero_iff.mp (by simpa using y)
            subst this
            simp
        rw [e] at q
        exact ⟨.str _, H, I, ⟨t, rfl⟩, q⟩
      · rw [if_neg y, rep_made]
        exact ⟨size, .str _, H, I.tok _, ⟨_, rfl⟩, q⟩
theorem ro_repN {K : PySem.W.Frag} {l : List Nat} {n : Int} (h1 : -100000 ≤ n) (h2 : n ≤ 100000) (hm : l.length * n.toNat ≤ 1000000) : RO K rRepN (.str l) (.int n) (.str (List.replicate n.toNat l).flatten) := fun F B as M H v u Q ow r1 r2 q => ⟨l, n, r1, r2, h1, h2, hm, q _ B H (Gr.refl F B) ow rfl⟩
section
variable {K : PySem.W.Frag} {G G1 : List (Option Sl)} {M M1 : List MO} {te : TE}
/-- a comprehension whose list is joined on -/
theorem ev_lcX {μ β : Type} {wi : TI} {g : TG} {tt : TT} {vs : List Nat} (xs : List β) (en : β → Dt) (encM : μ → List MO) (p : μ → β → Option (Dt × μ)) (q : μ → β → μ) (m0 : μ)
    (hI : EvI K wi G M (xs.map en) (encM m0)) (hx : xs.length ≤ 100000) (hw : ∀ v σ H Q, g v (wipe σ vs) H (fun σ2 H2 => wipe σ2 vs = wipe σ vs → Q σ2 H2) → g v (wipe σ vs) H Q)
    (turn : ∀ m x, x ∈ xs → ∃ G1, EvG K g (wipeG G vs) (.d (en x)) G1 ∧ (match p m x with
      | some (y, m') => ∃ M1, EvT K tt G1 (encM m) true M1 ∧ EvE K te G1 M1 (.d y) (encM m')
      | none => EvT K tt G1 (encM m) false (encM (q m x)))) :
    EvE K (tLc wi g tt te vs) G M (.d (lstX K (mapS p q xs m0).1)) (encM (mapS p q xs m0).2) := fun F B as σ H ow sl Q k =>
  ev_lcAny xs en encM p q m0 hI hx hw turn F B as σ H ow sl Q fun D us B' as' H' g' p' fD bD o' hD r' => by
    have sm : Same B' (upd B' D (.lst us)) := fun c u e => by rw [upd_ne (ne_of_none e bD)]; exact e
    refine k _ (upd B' D (.lst us)) as' H' ⟨g'.1.trans sm, fun c z n => ?_⟩ p' ⟨?_, ?_, o'.len, o'.nd, o'.al, ?_, ?_⟩ (fun H2 s2 => ⟨D, us, rfl, s2 _ _ upd_same, RpL.mono (sm.trans s2) _ _ r'⟩)
    · rw [upd_ne (fun e : c = D => z.1 (by rw [e]; exact fD))]; exact g'.2 c z n
    · exact fun c u e => o'.fb c u (by rw [upd_ne (ne_of_none e fD)]; exact e)
    · intro c u e
      by_cases z : c = D
      · rw [z, upd_same] at e; rw [z, ← e]; exact hD
      · rw [upd_ne z] at e; exact o'.bb c u e
    · intro c hc
      have q1 := o'.fa c hc
      rw [upd_ne (fun e : c = D => o'.out (e ▸ hc))] at q1
      exact q1
    · intro k a m e1 e2 hm
      obtain ⟨q1, q2, q3⟩ := o'.own k a m e1 e2 hm
      have ne : a ≠ D := fun e => by rw [e, upd_same] at q1; cases q1
      rw [upd_ne ne] at q1
      exact ⟨q1, by rw [upd_ne ne]; exact q2, MoR.mono sm rfl q3⟩
theorem ev_lcAX {μ β γ : Type} {wi : TI} {g : TG} {vs : List Nat} (xs : List β) (en : β → Dt) (ec : γ → Dt) (encM : μ → List MO) (f : μ → β → γ × μ) (m0 : μ) (hI : EvI K wi G M (xs.map en) (encM m0)) (hx : xs.length ≤ 100000)
    (hw : ∀ v σ H Q, g v (wipe σ vs) H (fun σ2 H2 => wipe σ2 vs = wipe σ vs → Q σ2 H2) → g v (wipe σ vs) H Q) (turn : ∀ m x, x ∈ xs → ∃ G1, EvG K g (wipeG G vs) (.d (en x)) G1 ∧ EvE K te G1 (encM m) (.d (ec (f m x).1)) (encM (f m x).2)) :
    EvE K (tLc wi g tYes te vs) G M (.d (lstX K ((mapA f xs m0).1.map ec))) (encM (mapA f xs m0).2) := by
  have h := ev_lcX (te := te) xs en encM (fun m x => some (ec (f m x).1, (f m x).2)) (fun m _ => m) m0 hI hx hw fun m x hm => by
    obtain ⟨G1, h1, h2⟩ := turn m x hm
    exact ⟨G1, h1, encM m, et_yes, h2⟩
  rw [mapS_acc] at h
  exact h
end
/-! ### repr of data, where no guard is up -/
def rReprD (K : PySem.W.Frag) : List V → Hp → VK → Prop := fun xs H Q => ∃ (a : Addr) (d : PyData), xs = [.ref a] ∧ Dp K H (.ref a) d ∧ d.showable = true ∧ d.canLay0 = true ∧ d.depth ≤ 64 ∧ d.shown.length ≤ sizeLine ∧ Q (.str d.shown) H
theorem call_repr_data {X : Cx} (hg : X.A.guards = some []) (hu : X.A.units + 66 < cLine) : CallR X (.builtin "repr") (rReprD X.K) := by
  intro pins s σ H xs us Q I r h
  obtain ⟨a, d, rfl, hd, h1, h2, h3, h4, q⟩ := h
  obtain ⟨u, rfl, ru⟩ := vals1 r
  obtain ⟨as, hr⟩ := Dp.reads I d (.ref a) u hd ru
  cases ru
  exact repr_of_reads' hr h1 (PyData.noDict_hsm (PyData.hasDict_of_canLay d h2)) hg (by omega) (fun _ _ e => e) (fun h' u tk hk => ⟨.str _, H, I.kept hk, ⟨u, rfl⟩, q⟩) h4
def shL (d : Dt) : List Nat := (toP d).shown.cps.toList
theorem tx_shL (d : Dt) : tx (shL d) = (toP d).shown := by
  show (⟨_⟩ : Str) = _
  unfold shL
  rw [Array.toArray_toList]
theorem rc_reprD {K : PySem.W.Frag} {xs : List Dt} (h1 : plD (.lst xs) = true) (h2 : (toP (.lst xs)).showable = true) (h3 : dpD (.lst xs) ≤ 64) (h4 : (toP (.lst xs)).shown.length ≤ sizeLine) : RC K (rReprD K) [.lst xs] (.str (shL (.lst xs))) := fun F B as M H vs Q ow r q => by
  obtain ⟨v, r1, e, hv, h5⟩ := r
  have h5 : r1 = [] := h5
  subst h5; subst e
  have hv2 := Rp.mono ow.bb _ _ hv
  obtain ⟨a, us, rfl, _⟩ := hv
  obtain ⟨l1, l2⟩ := lay_of (.lst xs) h1
  refine ⟨a, toP (.lst xs), rfl, dp_of (.lst xs) _ h1 hv2, h2, l1, by rw [l2]; exact h3, h4, q _ B H (Gr.refl F B) ow ?_⟩
  show V.str _ = V.str _
  rw [tx_shL]
/-! ### the outermost call: no guard is up there -/
structure FnA (P : Program) (w : World) (K : PySem.W.Frag) (mg : Str → Option Value) (base : Heap) (f : Addr) (fd : FuncData) (ps : List Str) (sp : Sp) : Prop where
  go : ∀ (outer : List Env) (s : Shared) (H : Hp) (args : Args) (us : List Value) (vs : List V) (Q : VK) (E : XK), Env0 P w K mg base callerA outer s H → BindsTo s fd args (ps.zip us) → Vals vs us → sp vs H Q E →
    codeAny (model P w) callerA (.call (.ref f) args) (CR CX0 outer P w H s Q E) s
section
variable {P : Program} {w : World} {K : PySem.W.Frag} {mg : Str → Option Value} {base : Heap}
theorem fn_outer {k : Nat} {f : Addr} {nm ql : Str} {pr : Arguments} {bd : List Stmt} {sc : Scope} {dV kV dc pm cv ct oc : Value} {an od : Option Addr} {sl : Array (Option Value)} {N ps : List Str} {sp : Sp}
    (lk : K.lookup f = some ⟨oc, od, .func (PySem.W.fnOf nm ql pr bd sc dV kV dc pm an cv ct), sl⟩) (hcd : PySem.W.codeIn K cv ql = true) (S : FnScope N ps sc) (hrm : Room (k + 1) callerA) (len : ∀ vs H Q E, sp vs H Q E → vs.length = ps.length)
    (body : ∀ (outer : List Env) (s : Shared) (H : Hp) (vs : List V) (Q : VK) (E : XK), Room k (callerA.deeper (envOfC ql sc s.heap.objs.size f cv)) → sp vs H Q E →
      ∃ t, PSs (cxOf CX0 P w K mg base N ql sc f cv callerA outer s H E) bd t ∧ t { nx := fun _ H' => Q .non H', rt := Q } (L2.start N vs) H) :
    FnA P w K mg base f (PySem.W.fnOf nm ql pr bd sc dV kV dc pm an cv ct) ps sp := by
  constructor
  intro outer s H args us vs Q E e0 bnd rel want
  have nvs := len _ _ _ _ want
  have inH : K.In s.heap := e0.mod.kin.keeps fun b o z => (e0.bs b o z).1
  have noLim : s.heap.NoLimit := e0.mod.nolimit.keeps fun b o z => (e0.bs b o z).1
  have kinds : ∀ y ∈ ps.zip us, sc.names.lookup y.1 = some .local ∨ (sc.names.lookup y.1 = some .cell ∧ ((cellsFrom (s.heap.objs.size + 1) sc.names []).lookup y.1).isSome = true) := by
    rintro ⟨n, v⟩ hy
    rcases S.par n (List.of_mem_zip hy).1 with z | z
    · exact Or.inl z
    · exact Or.inr ⟨z, PySem.W.cellsFrom_some _ _ _ (Or.inl z)⟩
  refine codeAny_call_function hrm.depth (inH _ _ lk) rfl S.co S.gen rfl (PySem.W.codeRec_of inH hcd) (bnd _ _ _ _ (wpAny_newFunctionEnv_cells S.kind kinds fun env henv s1 st => ?_))
  subst henv
  obtain ⟨t, ht, run⟩ := body outer s H vs Q E (hrm.deeper _) want
  have inv0 : L2.Inv (cxOf CX0 P w K mg base N ql sc f cv callerA outer s H E) [] (L2.start N vs) H s1 := inv_start S hrm.hd e0 nvs rel st
  refine ⟨noLim.keeps st.toInCall.keep, codeAny_func (wpAny_mono (ht.run [] s1 (L2.start N vs) H _ inv0 run) (fun fl s2 hs => ?_) fun _ _ z => z)⟩
  cases fl with
  | ret u =>
    obtain ⟨v, σ', H', J, rv, q⟩ := hs
    exact ⟨v, H', J.os, J.bare, J.base, J.hok, rv, q⟩
  | next =>
    obtain ⟨σ', H', J, q⟩ := hs
    exact ⟨.non, H', J.os, J.bare, J.base, J.hok, rfl, q⟩
  | brk => exact (let ⟨_, _, _, q⟩ := hs; q.elim)
  | cont => exact (let ⟨_, _, _, q⟩ := hs; q.elim)
end
theorem outer_call {P : Program} {w : World} {K : PySem.W.Frag} {mg mb : Str → Option Value} {fa a : Addr} {fd : FuncData} {x : Str} {sp : Sp} {s1 : Shared} {vs : List Value} {ns : List Int}
    (inS : K.In s1.heap) (nsM : s1.heap.Ns mainGlobals mg) (nsB : s1.heap.Ns builtinsNs mb) (boot : ∀ y : Str, y ≠ "__name__" → mb y = bootBuiltins y) (noLim : s1.heap.NoLimit) (gens : s1.gens = #[])
    (obj : s1.heap.get? a = some { cls := .type "list", data := .seq vs.toArray }) (rin : IntsAre vs ns) (few : ns.length ≤ sizeLine)
    (F : ∀ base : Heap, K.In base → base.Ns mainGlobals mg → FnA P w K mg base fa fd [x] sp) (bind : ∀ (s : Shared) (u : Value), BindsTo s fd ⟨[u], []⟩ [(x, u)])
    (want : ∀ H : Hp, Only H → SqL K H a (ns.map V.int) → sp [.ref a] H (fun v _ => v = .bl true) fun _ _ _ => False) :
    codeAny (model P w) callerA (.call (.ref fa) ⟨[.ref a], []⟩) (fun r s' => r = .ok (.ret (.bool true)) ∧ OldK s1.heap s'.heap ∧ s'.os = s1.os ∧ AllBare s'.gens) s1 := by
  have rel := vals_ints rin
  have nv := rin.length
  have main : ∀ H : Hp, Only H → SqL K H a (ns.map V.int) → HOk P w H s1.heap → (∀ b, H b ≠ none → b = a) → (H a ≠ none → K.lookup a = none) →
      codeAny (model P w) callerA (.call (.ref fa) ⟨[.ref a], []⟩) (fun r s' => r = .ok (.ret (.bool true)) ∧ OldK s1.heap s'.heap ∧ s'.os = s1.os ∧ AllBare s'.gens) s1 := by
    intro H only sq ok onlyA outK
    have keep : ∀ {b : Addr} {o : Obj}, s1.heap.get? b = some o → H b = none → (hidT s1.heap H).get? b = some o := fun z n => hidT_get z n
    have dictFree : ∀ {b : Addr} {o : Obj} {es : Array DictEntry} {ep : Nat}, s1.heap.get? b = some o → o.data = .dict es ep → H b = none := by
      intro b o es ep z hd
      rcases hq : H b with _ | u
      · rfl
      · have z2 := onlyA b (by rw [hq]; simp)
        subst z2
        rw [obj] at z
        cases z
        exact absurd hd (fun y => nomatch y)
    have space : ∀ {b : Addr} {m : Str → Option Value}, s1.heap.Ns b m → (hidT s1.heap H).Ns b m := by
      rintro b m ⟨o, es, ep, z, hd, r⟩
      exact ⟨o, es, ep, keep z (dictFree z hd), hd, r⟩
    have inB : K.In (hidT s1.heap H) := by
      intro b o z
      refine keep (inS b o z) ?_
      rcases hq : H b with _ | u
      · rfl
      · have z2 := onlyA b (by rw [hq]; simp)
        subst z2
        rw [outK (by rw [hq]; simp)] at z
        cases z
    have modl : Mod K mg (hidT s1.heap H) := by
      refine ⟨inB, space nsM, ⟨mb, space nsB, boot⟩, ?_⟩
      obtain ⟨mc, y1, y2⟩ := noLim
      exact ⟨mc, space y1, y2⟩
    have env : Env0 P w K mg (hidT s1.heap H) callerA [] s1 H := ⟨rfl, modl, fun b o z => of_hidT z, Nat.le_of_eq (hidT_size _ _), trivial, fun b hb => (nomatch hb), ok, .of_eq gens⟩
    refine codeAny_mono ((F _ inB (space nsM)).go [] s1 H ⟨[.ref a], []⟩ [.ref a] [.ref a] _ _ env (bind s1 (.ref a)) (.cons rfl .nil) (want H only sq)) fun r s' res => ?_
    rcases r with e | fl
    · exact absurd res (fun y => y)
    · cases fl with
      | next => exact res.elim
      | brk => exact res.elim
      | cont => exact res.elim
      | ret u =>
        obtain ⟨v, H', os, bare, un, ok', rv, qv⟩ := res
        have qv : v = .bl true := qv
        subst qv
        have ru : u = Value.bool true := rv
        subst ru
        refine ⟨rfl, OldK.of_keep fun b o z => ?_, os, bare⟩
        rcases hq : H b with _ | u
        · exact un.keep b o z hq (fun y => nomatch y) (by simp)
        · rcases only b with y | ⟨ob, xs, y⟩
          · rw [hq] at y; cases y
          · obtain ⟨e1, _⟩ := ok b _ y
            obtain ⟨e2, _⟩ := ok' b _ (un.frzs b ob _ y)
            rw [z] at e1
            cases e1
            exact e2
  rcases hk : K.lookup a with _ | o
  · have at1 : ∀ b : Addr, b = a → (if b = a then some (HO.frz { cls := .type "list", data := .seq vs.toArray } (.lst (ns.map V.int))) else none) = some (HO.frz { cls := .type "list", data := .seq vs.toArray } (.lst (ns.map V.int))) := fun b z => if_pos z
    have at0 : ∀ b : Addr, b ≠ a → (if b = a then some (HO.frz { cls := .type "list", data := .seq vs.toArray } (.lst (ns.map V.int))) else none) = none := fun b z => if_neg z
    refine main (fun b => if b = a then some (.frz { cls := .type "list", data := .seq vs.toArray } (.lst (ns.map V.int))) else none) (fun b => ?_) (.inl (.inr ⟨_, at1 a rfl⟩)) (fun b u z => ?_) (fun b z => ?_) fun _ => hk
    · by_cases y : b = a
      · exact .inr ⟨_, _, at1 b y⟩
      · exact .inl (at0 b y)
    · by_cases y : b = a
      · have z2 := (at1 b y).symm.trans z
        cases z2
        subst y
        exact ⟨obj, by rw [List.length_map]; exact few, vs, _, rel, obj⟩
      · have z2 := (at0 b y).symm.trans z
        cases z2
    · by_cases y : b = a
      · exact y
      · exact absurd (at0 b y) z
  · have z := inS a o hk
    rw [obj] at z
    cases z
    exact main (fun _ => none) (fun _ => .inl rfl) (.inr ⟨_, vs.toArray, _, hk, rfl, rfl, rfl, by rw [List.size_toArray, nv]; exact few, by simpa using rel⟩) (fun b u z => by have z2 : (none : Option HO) = some u := z; cases z2) (fun b z => absurd rfl z) fun z => absurd rfl z
theorem walk_outer {l : PySem.W.OpenLaw} {n : Nat} {q : Program} {loose : List Str} {XP : (Str → Option Value) → Heap → Prop} {YP : World → Heap → Prop} {d : DefRec} {K : Params → PySem.W.Frag} {sp : World → Sp} {x : Str}
    (hn : l.most = some n) (hn2 : n ≤ sizeLine) (hdf : d.params.defaults = []) (hY : ∀ (w : World) (h : Heap), YP w h → (K w.params).In h)
    (F : ∀ (w : World) (mg : Str → Option Value) (fa : Addr) (h : Heap), (K w.params).In h → h.Ns mainGlobals mg → mg d.name = some (.ref fa) →
      ∃ fd : FuncData, (∀ (s : Shared) (u : Value), BindsTo s fd ⟨[u], []⟩ [(x, u)]) ∧ ∀ base : Heap, (K w.params).In base → base.Ns mainGlobals mg → FnA l.prog w (K w.params) mg base fa fd [x] (sp w))
    (hsp : ∀ (w : World) (H : Hp) (a : Addr) (ns : List Int), ns.length ≤ n → Only H → SqL (K w.params) H a (ns.map V.int) → sp w [.ref a] H (fun v _ => v = .bl true) fun _ _ _ => False) :
    PySem.W.WalkO q loose XP YP l.row.toRowW d [] (fun f vs => PySem.call f vs) := by
  refine Att.attach_call hn hdf fun w s0 s1 mg mb fa o pm cd doc a vs ns G Y ho hd hcd hmg hobj hints hlen hg => ?_
  have inS := hY w _ Y
  obtain ⟨fd, hb, hF⟩ := F w mg fa _ inS G.T.g hmg
  exact outer_call inS G.T.g G.T.b G.T.builtins G.T.nolimit hg hobj hints (Nat.le_trans hlen hn2) hF hb (fun H hO hS => hsp w H a ns hlen hO hS)
/-- a law's own def, at the outermost call -/
structure CalA (P : Program) (w : World) (K : PySem.W.Frag) (mg : Str → Option Value) (base : Heap) (x : Str) (st : Stmt) (ps : List Str) (sp : Sp) : Prop where
  ex : ∃ (f : Addr) (fd : FuncData), FnA P w K mg base f fd ps sp ∧ L2.Fun K x x st f fd ∧ mg x = some (.ref f)
theorem cal_mkA {P : Program} {w : World} {K : PySem.W.Frag} {mg : Str → Option Value} {base : Heap} {x : Str} {st : Stmt} {N ps : List Str} {k n : Nat} {R : List Sl → List MO → Sl → List MO → Prop} (D : Df K mg x st ps) (S : FnScope N ps (defScope st)) (hn : ps.length = n) (hrm : Room (k + 1) callerA)
    (hb : ∀ (f : Addr) (cdv : Value) (outer : List Env) (s : Shared) (H : Hp) (E : XK), Room k (callerA.deeper (envOfC x (defScope st) s.heap.objs.size f cdv)) → ∀ ss M r M', R ss M r M' →
      ∃ t X, PSs (cxOf CX0 P w K mg base N x (defScope st) f cdv callerA outer s H E).nox (defBody st) t ∧ EvS K t (start N.length ss) M (.rt r (M' ++ X)) ∧ M.length ≤ M'.length ∧ ∀ j, r = .o j → j < M'.length) :
    CalA P w K mg base x st ps (SpR K n R) := by
  obtain ⟨f, fd, F, hm, b⟩ := D.ex
  obtain ⟨oc, od, kV, doc, pm, an, cdv, ct, osl, rfl, lk, hcd⟩ := F.ex
  refine ⟨f, _, fn_outer lk hcd S hrm (fun vs H Q E h => ?_) (fun outer s H vs Q E hr h => ?_), F, hm⟩
  · obtain ⟨_, _, _, _, _, _, _, _, _, _, e, _⟩ := h
    rw [e, hn]
  · obtain ⟨F', B, as, ss, M, r, M', hR, ow, sl, _, q⟩ := h
    obtain ⟨t, X, ht, he, hl, hr'⟩ := hb f cdv outer s H E hr ss M r M' hR
    exact ⟨t, ht.nox, run_body (X := X) he hl hr' ow sl q⟩
end DJ
namespace DJ
open PySem PySem.Spec PyProof.Rows L2
section
variable {K : PySem.W.Frag} {F B H : Hp} {as : List Addr} {G G1 : List (Option Sl)} {M M1 : List MO} {te : TE}
/-! ### two clauses in one comprehension, nothing owned changes -/
theorem flat_take {β γ : Type} (f : β → List γ) (xs : List β) (i : Nat) (h : i < xs.length) : (xs.take (i + 1)).flatMap f = (xs.take i).flatMap f ++ f xs[i] := by
  rw [← List.take_append_getElem h, List.flatMap_append, List.flatMap_cons, List.flatMap_nil, List.append_nil]
theorem flat_len {β γ : Type} (f : β → List γ) (xs : List β) (i : Nat) : ((xs.take i).flatMap f).length ≤ (xs.flatMap f).length := by
  have h : xs.flatMap f = (xs.take i).flatMap f ++ (xs.drop i).flatMap f := by rw [← List.flatMap_append, List.take_append_drop]
  rw [h, List.length_append]
  omega
theorem yes_ite {σ : L2.St} {H : Hp} {p q : Hp → Prop} (h : p H) : tYes σ H (fun b H' => if b = true then p H' else q H') := h
theorem ev_lc2 {β γ : Type} {wi wi1 : TI} {g g1 : TG} {vs vs1 : List Nat} (xs : List β) (en : β → Dt) (ys : β → List γ) (en1 : γ → Dt) (f : β → γ → Dt) (hI : EvI K wi G M (xs.map en) M) (hx : (xs.flatMap fun x => (ys x).map (f x)).length ≤ 100000)
    (hw : ∀ v σ H Q, g v (wipe σ vs) H (fun σ2 H2 => wipe σ2 vs = wipe σ vs → Q σ2 H2) → g v (wipe σ vs) H Q) (hw1 : ∀ v σ H Q, g1 v (wipe σ vs1) H (fun σ2 H2 => wipe σ2 vs1 = wipe σ vs1 → Q σ2 H2) → g1 v (wipe σ vs1) H Q)
    (turn : ∀ x, x ∈ xs → ∃ G1, EvG K g (wipeG G vs) (.d (en x)) G1 ∧ EvI K wi1 G1 M ((ys x).map en1) M ∧ ∀ y, y ∈ ys x → ∃ G2, EvG K g1 (wipeG G1 vs1) (.d (en1 y)) G2 ∧ EvE K te G2 M (.d (f x y)) M) :
    EvE K (tLc2 wi g tYes wi1 g1 tYes te vs vs1) G M (.d (.lst (xs.flatMap fun x => (ys x).map (f x)))) M := fun F B as σ H ow sl Q k => by
  refine hI F B as σ H ow sl _ fun J B1 as1 H1 g1' p1 o1 yl => fun D hD => ?_
  obtain ⟨fD, bD, aD⟩ := o1.fresh hD
  have kD : ∀ us : List V, Kp ((upd F D (.lst us)) D) := fun us => by rw [upd_same]; exact kp_lst
  have ow0 : Ow K (upd F D (.lst [])) B1 as1 M (upd H1 D (.lst [])) := o1.frame hD _
  refine ⟨fun i n H' => ∃ B' as' us, n = xs.length - i ∧ i ≤ xs.length ∧ Gr F B1 B' ∧ B' D = none ∧ Px as1 as' ∧ Ow K (upd F D (.lst us)) B' as' M H' ∧ H' D = some (.lst us) ∧ RpL K B' ((xs.take i).flatMap fun x => (ys x).map (f x)) us,
    ⟨xs.length, B1, as1, [], by simp, Nat.zero_le _, Gr.refl F B1, bD, Px.refl as1, ow0, upd_same, rfl⟩, fun i n H' w => ?_⟩
  obtain ⟨B', as', us, rfl, hi, g', bD', p', o', hD', r'⟩ := w
  obtain ⟨y1, y2⟩ := yl _ B' as' _ H' i g'.1 o'
  by_cases hlt : i < xs.length
  · have hxi : xs[i]? = some xs[i] := List.getElem?_eq_getElem hlt
    obtain ⟨go, yld⟩ := y1 (en xs[i]) (by rw [List.getElem?_map, hxi] <;> rfl)
    refine .inr ⟨go, fun H2 => ∃ B' as' us, i + 1 ≤ xs.length ∧ Gr F B1 B' ∧ B' D = none ∧ Px as1 as' ∧ Ow K (upd F D (.lst us)) B' as' M H2 ∧ H2 D = some (.lst us) ∧ RpL K B' ((xs.take (i + 1)).flatMap fun x => (ys x).map (f x)) us, fun H2 n2 => ?_, fun v H2 yv => ?_⟩
    · obtain ⟨B2, as2, us2, q1, q2, q3, q4, q5, q6, q7⟩ := n2
      exact ⟨xs.length - (i + 1), by omega, B2, as2, us2, rfl, q1, q2, q3, q4, q5, q6, q7⟩
    · obtain ⟨B2, g2, o2, r2⟩ := yld v H2 yv
      obtain ⟨G1, hg, hI1, ht⟩ := turn xs[i] (List.getElem_mem hlt)
      have bD2 : B2 D = none := g2.2 D (kD us) bD'
      refine hw v σ H2 _ ?_
      refine hg _ B2 as' M (wipe σ vs) H2 v o2 ((slt_wipe (sl.mono ((g1'.1.trans g'.1).trans g2.1) (p1.trans p')) vs)) r2 _ fun B3 as3 σ3 H3 g3 p3 o3 s3 => fun hwp => ⟨hwp, ?_⟩
      refine yes_ite ?_
      have bD3 : B3 D = none := g3.2 D (kD us) bD2
      refine hI1 _ B3 as3 σ3 H3 o3 s3 _ fun J1 B4 as4 H4 g4 p4 o4 yl4 => ?_
      have bD4 : B4 D = none := g4.2 D (kD us) bD3
      have gg : Gr F B' B4 := (g2.trans (g3.trans g4)).of_side
      refine ⟨fun j m H' => ∃ B' as' us', m = (ys xs[i]).length - j ∧ j ≤ (ys xs[i]).length ∧ Gr F B4 B' ∧ B' D = none ∧ Px as4 as' ∧ Ow K (upd F D (.lst us')) B' as' M H' ∧ H' D = some (.lst us') ∧ RpL K B' (((xs.take i).flatMap fun x => (ys x).map (f x)) ++ ((ys xs[i]).take j).map (f xs[i])) us',
        ⟨(ys xs[i]).length, B4, as4, us, by simp, Nat.zero_le _, Gr.refl F B4, bD4, Px.refl as4, o4, o4.fb D _ upd_same, by rw [List.take_zero, List.map_nil, List.append_nil]; exact RpL.mono gg.1 _ _ r'⟩, fun j m H5 w5 => ?_⟩
      obtain ⟨B5, as5, us5, rfl, hj, g5, bD5, p5, o5, hD5, r5⟩ := w5
      obtain ⟨z1, z2⟩ := yl4 _ B5 as5 _ H5 j g5.1 o5
      by_cases hjl : j < (ys xs[i]).length
      · have hyj : (ys xs[i])[j]? = some (ys xs[i])[j] := List.getElem?_eq_getElem hjl
        obtain ⟨go1, yld1⟩ := z1 (en1 (ys xs[i])[j]) (by rw [List.getElem?_map, hyj] <;> rfl)
        refine .inr ⟨go1, fun H2 => ∃ B' as' us', j + 1 ≤ (ys xs[i]).length ∧ Gr F B4 B' ∧ B' D = none ∧ Px as4 as' ∧ Ow K (upd F D (.lst us')) B' as' M H2 ∧ H2 D = some (.lst us') ∧ RpL K B' (((xs.take i).flatMap fun x => (ys x).map (f x)) ++ ((ys xs[i]).take (j + 1)).map (f xs[i])) us', fun H2 n2 => ?_, fun v5 H6 yv5 => ?_⟩
        · obtain ⟨B2, as2, us2, q1, q2, q3, q4, q5, q6, q7⟩ := n2
          exact ⟨(ys xs[i]).length - (j + 1), by omega, B2, as2, us2, rfl, q1, q2, q3, q4, q5, q6, q7⟩
        · obtain ⟨B6, g6, o6, r6⟩ := yld1 v5 H6 yv5
          obtain ⟨G2, hg1, hte⟩ := ht (ys xs[i])[j] (List.getElem_mem hjl)
          have bD6 : B6 D = none := g6.2 D (kD us5) bD5
          refine hw1 v5 σ3 H6 _ ?_
          refine hg1 _ B6 as5 M (wipe σ3 vs1) H6 v5 o6 (slt_wipe (s3.mono ((g4.1.trans g5.1).trans g6.1) (p4.trans p5)) vs1) r6 _ fun B7 as7 σ7 H7 g7 p7 o7 s7 => fun hwp1 => ⟨hwp1, ?_⟩
          refine yes_ite ?_
          have bD7 : B7 D = none := g7.2 D (kD us5) bD6
          refine hte _ B7 as7 σ7 H7 o7 s7 _ fun w8 B8 as8 H8 g8 p8 o8 r8 => ?_
          have bD8 : B8 D = none := g8.2 D (kD us5) bD7
          have sm := (g6.1.trans g7.1).trans g8.1
          have hl : us5.length < sizeLine := by
            rw [r5.len, List.length_append, List.length_map, List.length_take]
            have e1 := flat_len (fun x => (ys x).map (f x)) xs (i + 1)
            rw [flat_take _ xs i hlt, List.length_append, List.length_map] at e1
            exact Nat.lt_of_le_of_lt (show _ ≤ 100000 by omega) (by decide)
          have on : Ow K F B8 as8 M (upd H8 D (.lst (us5 ++ [w8]))) := o8.aside fD bD8
          have on2 : Ow K (upd F D (.lst (us5 ++ [w8]))) B8 as8 M (upd H8 D (.lst (us5 ++ [w8]))) := on.side upd_same fD o8.out
          refine ⟨us5, o8.fb D _ upd_same, hl, B8, as8, us5 ++ [w8], hjl, g5.trans ((g6.trans (g7.trans g8)).of_side), bD8, p5.trans (p7.trans p8), on2, upd_same, ?_⟩
          rw [← List.take_append_getElem hjl, List.map_append, List.map_cons, List.map_nil, ← List.append_assoc]
          exact RpL.append (RpL.mono sm _ _ r5) (RpL.one r8)
      · have e : j = (ys xs[i]).length := by omega
        subst e
        refine .inl ⟨z2 (by rw [List.length_map]; exact Nat.le_refl _), B5, as5, us5, hlt, g'.trans (gg.trans g5), bD5, p'.trans (p3.trans (p4.trans p5)), o5, hD5, ?_⟩
        rw [flat_take _ xs i hlt]
        rw [List.take_length] at r5
        exact r5
  · have e : i = xs.length := by omega
    subst e
    rw [List.take_length] at r'
    have sm : Same B' (upd B' D (.lst us)) := fun c u e => by rw [upd_ne (ne_of_none e bD')]; exact e
    refine .inl ⟨y2 (by rw [List.length_map]; exact Nat.le_refl _), k _ (upd B' D (.lst us)) as' H' ⟨(g1'.trans g').1.trans sm, fun c z n => ?_⟩ (p1.trans p') ⟨?_, ?_, o'.len, o'.nd, o'.al, ?_, ?_⟩ ⟨D, us, rfl, .inl (.inl upd_same), RpL.mono sm _ _ r'⟩⟩
    · rw [upd_ne (fun e : c = D => z.1 (by rw [e]; exact fD))]; exact (g1'.trans g').2 c z n
    · exact fun c u e => o'.fb c u (by rw [upd_ne (ne_of_none e fD)]; exact e)
    · intro c u e
      by_cases z : c = D
      · rw [z, upd_same] at e; rw [z, ← e]; exact hD'
      · rw [upd_ne z] at e; exact o'.bb c u e
    · intro c hc
      have q1 := o'.fa c hc
      rw [upd_ne (fun e : c = D => o'.out (e ▸ hc))] at q1
      exact q1
    · intro k a m e1 e2 hm
      obtain ⟨q1, q2, q3⟩ := o'.own k a m e1 e2 hm
      have ne : a ≠ D := fun e => by rw [e, upd_same] at q1; cases q1
      rw [upd_ne ne] at q1
      exact ⟨q1, by rw [upd_ne ne]; exact q2, MoR.mono sm rfl q3⟩
/-! ### what was owned, joined on -/
theorem ev_freezeX {k : Nat} {xs : List Dt} (h : EvE K te G M (.o k) M1) (hm : M1[k]? = some (.lst xs)) : EvE K te G M (.d (lstX K xs)) (M1.set k .gone) := fun F B as σ H ow sl Q q =>
  h F B as σ H ow sl _ fun v B1 as1 H1 g p o1 r => by
    obtain ⟨a, ha, rfl⟩ := r
    obtain ⟨_, _, vs, hv, hr⟩ := o1.own k a _ ha hm (fun z => nomatch z)
    have e2 : (M1.set k (.hob (.lst vs)))[k]? = some (.hob (.lst vs)) := List.getElem?_set_self (List.getElem?_eq_some_iff.mp hm).1
    have o2 : Ow K F B1 as1 (M1.set k (.hob (.lst vs))) H1 := by
      have := o1.put (o := .lst vs) (m' := .hob (.lst vs)) ha hm (fun z => nomatch z) ⟨upd_same, fun _ z => nomatch z⟩
      rwa [show upd H1 a (.lst vs) = H1 from funext fun b => by
        by_cases e : b = a
        · rw [e, upd_same, hv]
        · rw [upd_ne e]] at this
    obtain ⟨g', ow'⟩ := o2.freezeO ha e2
    rw [List.set_set] at ow'
    exact q _ _ as1 H1 (g.trans g') p ow' fun H' s => ⟨a, vs, rfl, s _ _ upd_same, RpL.mono (g'.1.trans s) _ _ hr⟩
end
/-! ### isinstance(x, int), isinstance(x, bool), of whole numbers -/
abbrev tyInt : Dt := .raw (.ty "int")
abbrev tyBool : Dt := .raw (.ty "bool")
section
variable {K : PySem.W.Frag} {i : Int}
theorem rc_intI : RC K (rIsi K) [.int i, tyInt] (.bl true) := fun F B as M H vs Q ow r q => by
  obtain ⟨v, r1, e1, h1, w, r2, e2, h2, e3⟩ := r
  have h1 : v = V.int i := h1
  have h2 : w = V.ty "int" := h2
  have e3 : r2 = [] := e3
  subst e3; subst e2; subst e1; subst h2; subst h1
  exact ⟨_, _, _, _, true, rfl, .ty "int", .base (.int i), kit_ty (by decide +kernel), q _ B H (Gr.refl F B) ow rfl⟩
theorem rc_intNB : RC K (rIsi K) [.int i, tyBool] (.bl false) := fun F B as M H vs Q ow r q => by
  obtain ⟨v, r1, e1, h1, w, r2, e2, h2, e3⟩ := r
  have h1 : v = V.int i := h1
  have h2 : w = V.ty "bool" := h2
  have e3 : r2 = [] := e3
  subst e3; subst e2; subst e1; subst h2; subst h1
  exact ⟨_, _, _, _, false, rfl, .ty "bool", .base (.int i), kit_ty (by decide +kernel), q _ B H (Gr.refl F B) ow rfl⟩
end
/-! ### defs with defaults -/
structure DfD (K : PySem.W.Frag) (mg : Str → Option Value) (x : Str) (st : Stmt) (dvs : List V) : Prop where
  ex : ∃ (f : Addr) (fd : FuncData), L2.FunD K x x (defArgs st) (defBody st) (defScope st) dvs [] f fd ∧ mg x = some (.ref f)
theorem cal_mkD {P : Program} {w : World} {K : PySem.W.Frag} {mg : Str → Option Value} {base : Heap} {x : Str} {st : Stmt} {N ps : List Str} {dvs : List V} {k n : Nat} {R : List Sl → List MO → Sl → List MO → Prop} (D : DfD K mg x st dvs) (S : FnScope N ps (defScope st)) (hn : ps.length = n)
    (hb : ∀ (f : Addr) (cdv : Value) (A : Around) (outer : List Env) (s : Shared) (H : Hp) (E : XK), Room k (A.deeper (envOfC x (defScope st) s.heap.objs.size f cdv)) → ∀ ss M r M', R ss M r M' →
      ∃ t X, PSs (cxOf CX0 P w K mg base N x (defScope st) f cdv A outer s H E).nox (defBody st) t ∧ EvS K t (start N.length ss) M (.rt r (M' ++ X)) ∧ M.length ≤ M'.length ∧ ∀ j, r = .o j → j < M'.length)
    (j : Nat) (hj : n - (dvs.length - j) + (dvs.length - j) = n) (hd : dvs ≠ [])
    (hbind : ∀ (T : Addr) (kV doc pm : Value) (an : Option Addr) (cdv ct : Value) (us its : List Value), us.length = n - (dvs.length - j) → its.length = dvs.length →
      ∃ k, bindArgs (PySem.W.fnOf x x (defArgs st) (defBody st) (defScope st) (.ref T) kV doc pm an cdv ct) ⟨us, []⟩ = seqItems? (.ref T) >>= k ∧ k (some its.toArray) = pure (ps.zip (us ++ its.drop j))) :
    Cal P w K mg base (k + 1) x (SpR K n R) (dvs.drop j) := by
  obtain ⟨f, fd, F, hm⟩ := D.ex
  obtain ⟨ds, hv, hbb⟩ := F.binds1 (ps := ps) (n - (dvs.length - j)) j hd (by rw [hn]; exact hj) hbind
  refine ⟨f, fd, ps, ds, F.ok S (fun vs H Q E h => ?_) (fun cdv A outer s H vs Q E hr h => ?_), hm, F.kp, hbb, hv⟩
  · obtain ⟨_, _, _, _, _, _, _, _, _, _, e, _⟩ := h
    rw [e, hn]
  · obtain ⟨F', B, as, ss, M, r, M', hR, ow, sl, _, q⟩ := h
    obtain ⟨t, X, ht, he, hl, hr'⟩ := hb f cdv A outer s H E hr ss M r M' hR
    exact ⟨t, ht.nox, run_body (X := X) he hl hr' ow sl q⟩
end DJ
namespace DJ
open PySem PySem.Spec PyProof.Rows L2
/-! ### what the top leaves of a def with defaults -/
/-- these values are these whole numbers -/
def intsOf : List Int → List Value → Bool
  | [], [] => true
  | l :: ls, .int x _ :: vs => decide (x = l) && intsOf ls vs
  | _, _ => false
theorem vals_ints : ∀ {ls : List Int} {vs : List Value}, intsOf ls vs = true → Vals (ls.map V.int) vs
  | [], [], _ => .nil
  | l :: ls, .int x t :: vs, h => by
    have h : (decide (x = l) && intsOf ls vs) = true := h
    rw [Bool.and_eq_true, decide_eq_true_eq] at h
    exact .cons ⟨t, by rw [h.1]⟩ (vals_ints h.2)
  | [], _ :: _, h => by cases h
  | _ :: _, [], h => by cases h
  | _ :: _, .none :: _, h => by cases h
  | _ :: _, .bool _ :: _, h => by cases h
  | _ :: _, .str _ _ :: _, h => by cases h
  | _ :: _, .ref _ :: _, h => by cases h
theorem dfd_mk {K : PySem.W.Frag} {mg : Str → Option Value} {h : Heap} {x : Str} {st : Stmt} {f T : Addr} {oc tc : Value} {od an tod : Option Addr} {osl tsl : Array (Option Value)} {kV doc pm cdv ct : Value} {its : Array Value} {n : Nat} {ls : List Int}
    (X : K.In h) (G : h.Ns mainGlobals mg) (a : PySem.W.nsIn K mainGlobals x = some (some (.ref f)))
    (l : K.lookup f = some ⟨oc, od, .func (PySem.W.fnOf x x (defArgs st) (defBody st) (defScope st) (.ref T) kV doc pm an cdv ct), osl⟩) (c : PySem.W.codeIn K cdv x = true) (k : PySem.W.keepIn K (.ref f) = true)
    (lT : K.lookup T = some ⟨tc, tod, .seq its n, tsl⟩) (hs : intsOf ls its.toList = true) (hd : ls ≠ []) : DfD K mg x st (ls.map V.int) :=
  ⟨f, _, ⟨⟨oc, od, _, kV, doc, pm, an, cdv, ct, osl, rfl, l, c, .inr ⟨fun e => hd (List.map_eq_nil_iff.mp e), T, _, its.toList, n, rfl, lT, rfl, vals_ints hs⟩, .inl rfl⟩, k⟩, PySem.W.mg_of X G a⟩
end DJ
namespace DJ
open PySem PySem.Spec PyProof.Rows L2
/-! ### the limit on figures stands as it was: what K tells -/
abbrev DgK (K : PySem.W.Frag) : Prop := PySem.W.nsIn K cStatics "sys.int_max_str_digits" = some none
theorem mc_none {K : PySem.W.Frag} {h : Heap} {mc : Str → Option Value} {a : Addr} {n : Str} (X : K.In h) (G : h.Ns a mc) (e : PySem.W.nsIn K a n = some none) : mc n = none := by
  obtain ⟨o, es, ep, ho, hd, _, hf⟩ := G
  unfold PySem.W.nsIn at e
  split at e
  · rename_i c d es' n' sl q
    have := X _ _ q
    rw [ho] at this
    cases this
    cases hd
    split at e
    · cases e
    · rename_i he
      rw [← hf]
      unfold nsFind findBy
      rw [← Array.find?_toList, he]
      rfl
  · cases e
theorem nodig {X : Cx} {pins : List (Addr × Obj)} {σ : L2.St} {H : Hp} {s : Shared} (I : Inv X pins σ H s) (e : DgK X.K) : s.heap.NoDigits :=
  let ⟨mc, h1, _⟩ := I.nolimit
  ⟨mc, h1, mc_none I.kIn h1 e⟩
/-! ### str(n), n of at most 4,300 figures -/
def rStrL : List V → Hp → VK → Prop := fun xs H Q => ∃ i : Int, xs = [.int i] ∧ i.natAbs < 10 ^ 4300 ∧ Q (.str (toString i)) H
theorem call_str_long {X : Cx} (hc : X.calm = true) (e : DgK X.K) : CallR X (.type "str") rStrL := by
  intro pins s σ H xs us Q I r h
  obtain ⟨i, rfl, hz, q⟩ := h
  obtain ⟨u, rfl, t, rfl⟩ := vals1 r
  exact str_of_int_or (I.ok.hd hc) (nodig I e) (fun _ => ⟨.str _, H, I.tok _, ⟨_, rfl⟩, q⟩) (fun h => absurd h (Nat.not_le.mpr hz))
def intL (i : Int) : List Nat := if i < 0 then 45 :: TL.numL i.natAbs else TL.numL i.natAbs
theorem tx_int (i : Int) : (Str.ofString (toString i)) = tx (intL i) := by
  cases i with
  | ofNat n =>
    have e : intL (Int.ofNat n) = TL.numL n := if_neg (Int.not_lt.mpr (Int.natCast_nonneg n))
    rw [e]
    exact TL.ext_tl (TL.tl_num n)
  | negSucc n =>
    have e : intL (Int.negSucc n) = 45 :: TL.numL (n + 1) := if_pos (Int.negSucc_lt_zero n)
    rw [e]
    refine TL.ext_tl ?_
    have e2 : toString (Int.negSucc n) = "-" ++ toString (((n + 1 : Nat) : Int)) := rfl
    have e3 := TL.tl_num (n + 1)
    rw [TL.tl_ofString] at e3 ⊢
    rw [e2, String.toList_append, List.map_append, e3]
    rfl
section
variable {K : PySem.W.Frag} {i : Int}
theorem rc_strL (h : i.natAbs < 10 ^ 4300) : RC K rStrL [.int i] (.str (intL i)) := fun F B as M H vs Q ow r q => by
  obtain ⟨v, r1, e1, h1, e2⟩ := r
  have h1 : v = V.int i := h1
  have e2 : r1 = [] := e2
  subst e2; subst e1; subst h1
  exact ⟨i, rfl, h, q _ B H (Gr.refl F B) ow (by
    show V.str _ = V.str _
    rw [← tx_int])⟩
end
/-! ### int(text, 8) and int(text, 16) of any length -/
theorem dig_any {M : Model} {A : Around} {E : Value → Shared → Prop} {s : Shared} {Q : Nat → Shared → Prop} (hn : s.heap.NoDigits) (h : Q 4300 s) : wpAny M A Builtin.intMaxStrDigits Q E s := by
  obtain ⟨mc, hns, hnone⟩ := hn
  unfold Builtin.intMaxStrDigits
  refine wpAny_bind (wpAny_nsGet hns ?_)
  rw [hnone]
  exact wpAny_pure h
theorem wp_textL {M : Model} {A : Around} {E : Value → Shared → Prop} {s : Shared} {Q : Value → Shared → Prop} {v : Value} {text : List Nat} {B : Nat} {n : Int} (hn : s.heap.NoDigits)
    (hr : ∀ k, (int_private% "readNumeral") k B (text.takeWhile (· != 0)) = (int_private% "Numeral.value") n)
    (ha : ((text.takeWhile (· != 0)).length == text.length) = true) (h : Q (.int n s.toks) { s with toks := s.toks + 1 }) :
    wpAny M A ((int_private% "intFromText") v text B) Q E s := by
  by_cases hs : (text.takeWhile (· != 0)).length ≤ 640
  · exact Hx.wp_textB hs (hr 0) ha h
  · have hr := hr 4300
    obtain ⟨hp, g, d, tk, os⟩ := s
    repeat (any_goals (first
      | assumption
      | (with_reducible refine wpAny_ite_false (decide_eq_false hs) ?_)
      | ((with_reducible show wpAny _ _ Builtin.intMaxStrDigits _ _ _); refine dig_any hn ?_)
      | (with_reducible refine wpAny_ite_true (decide_eq_true ha) ?_)
      | wp_step))
    all_goals (try rw [hr])
    all_goals (try dsimp only)
    repeat (any_goals (first
      | assumption
      | (with_reducible refine wpAny_ite_true (decide_eq_true ha) ?_)
      | wp_step))
open PySem.NumText in
theorem read_octL (k : Nat) {cs : List Nat} (h : ∀ c ∈ cs, Oct c) (hne : cs ≠ []) : (int_private% "readNumeral") k 8 cs = (int_private% "Numeral.value") ((octNum cs : Nat) : Int) := by
  have hr : ∀ c ∈ cs.reverse, Hx.IsHex c := fun c hc => (h c (List.mem_reverse.mp hc)).hex
  have hb : based 8 cs = (8, false, cs) := based_oct h
  refine (readNumeral_eq k 8 cs).trans ?_
  rw [Hx.dropB fun c hc => (h c hc).hex, Hx.signH fun c hc => (h c hc).hex]
  show judge k false (based 8 cs).1 (based 8 cs).2.1 (digits? (based 8 cs).1 (((based 8 cs).2.2.reverse.dropWhile blank).reverse)) = _
  rw [hb]
  show judge k false 8 false (digits? 8 ((cs.reverse.dropWhile blank).reverse)) = _
  rw [Hx.dropB hr, List.reverse_reverse, digits_oct h hne]
  show (int_private% "Numeral.value") (((cs.foldl (fun acc c => acc.push (Hx.hv c)) (#[] : Array Nat)).foldl (fun acc d => acc * 8 + d) 0 : Nat) : Int) = _
  rw [push_oct]
  rfl
open PySem.NumText in
theorem read_hexL (k : Nat) {cs : List Nat} (h : ∀ c ∈ cs, Hx.IsHex c) (hne : cs ≠ []) : (int_private% "readNumeral") k 16 cs = (int_private% "Numeral.value") ((Hx.hexNum cs : Nat) : Int) := by
  have hr : ∀ c ∈ cs.reverse, Hx.IsHex c := fun c hc => h c (List.mem_reverse.mp hc)
  refine (readNumeral_eq k 16 cs).trans ?_
  rw [Hx.dropB h, Hx.signH h]
  show judge k false (based 16 cs).1 (based 16 cs).2.1 (digits? (based 16 cs).1 (((based 16 cs).2.2.reverse.dropWhile blank).reverse)) = _
  rw [Hx.basedH h]
  show judge k false 16 false (digits? 16 ((cs.reverse.dropWhile blank).reverse)) = _
  rw [Hx.dropB hr, List.reverse_reverse, Hx.digits_hex h hne]
  show (int_private% "Numeral.value") (((cs.foldl (fun acc c => acc.push (Hx.hv c)) (#[] : Array Nat)).foldl (fun acc d => acc * 16 + d) 0 : Nat) : Int) = _
  rw [Hx.push_hex]
  rfl
theorem core_based {B : Nat} {x : PySem.Str} {u t : Tok} {n : Int} (hB : B = 8 ∨ B = 16) (h : ∀ c ∈ x.cps.toList, Hx.IsHex c) (hr0 : ∀ k, (int_private% "readNumeral") k B x.cps.toList = (int_private% "Numeral.value") n)
    {M : Model} {A : Around} {E : Value → Shared → Prop} {s : Shared} {Q : Value → Shared → Prop} (hn : s.heap.NoDigits) (hQ : Q (.int n s.toks) { s with toks := s.toks + 1 }) :
    wpAny M A (Builtin.«int.__new__» ⟨[.type "int", .str x u, .int (B : Nat) t], []⟩) (fun fin s' => ∃ v, fin = .done (.ret v) ∧ Q v s') E s := by
  have g1 := F.conv_sub_int
  have g2 := F.madeHere_int
  have g6 : typeOf (.str x u) = pure (.type "str") := rfl
  have e12 := Hx.seen_hex (x := x) h
  have hr : ∀ k, (int_private% "readNumeral") k B (numSeenOf x) = (int_private% "Numeral.value") n := by
    rw [e12.2]
    exact hr0
  have ha : ((numSeenOf x).length == (numTextOf x).length) = true := by
    rw [e12.1, e12.2]
    exact beq_self_eq_true _
  have hk := Hx.Hid.mk (And.intro hn (And.intro hr ha))
  obtain ⟨hp, g, d, tk, os⟩ := s
  clear hr ha e12 hr0 h hn
  rcases hB with e | e
  all_goals
    subst e
    repeat (any_goals (first
      | assumption
      | ((with_reducible show wpAny _ _ ((int_private% "intFromText") _ _ _) _ _ _); refine wp_textL hk.out.1 hk.out.2.1 hk.out.2.2 ?_)
      | wp_step))
    all_goals first | exact ⟨_, rfl, hQ⟩ | skip
theorem meets_based {B : Nat} {x : PySem.Str} {u t : Tok} {n : Int} (hB : B = 8 ∨ B = 16) (h : ∀ c ∈ x.cps.toList, Hx.IsHex c) (hr0 : ∀ k, (int_private% "readNumeral") k B x.cps.toList = (int_private% "Numeral.value") n) :
    Meets (Builtin.«int.__new__» ⟨[.type "int", .str x u, .int (B : Nat) t], []⟩) (fun _ R s => s.heap.NoDigits ∧ R (.ok (.ret (.int n s.toks))) { s with toks := s.toks + 1 }) := fun prog w A R s hS =>
  wpAny_mono (core_based (Q := fun v s' => R (.ok (.ret v)) s') hB h hr0 hS.1 hS.2) (fun fin s' h' => by obtain ⟨v, rfl, hv⟩ := h'; exact hv) fun _ _ x => x
def rIntOctL : List V → Hp → VK → Prop := fun xs H Q => ∃ l : List Nat, xs = [.str (SX.S l), .int 8] ∧ l ≠ [] ∧ (∀ c ∈ l, Oct c) ∧ Q (.int ((octNum l : Nat) : Int)) H
def rIntHexL : List V → Hp → VK → Prop := fun xs H Q => ∃ l : List Nat, xs = [.str (SX.S l), .int 16] ∧ l ≠ [] ∧ (∀ c ∈ l, Hx.IsHex c) ∧ Q (.int ((Hx.hexNum l : Nat) : Int)) H
theorem call_int_octL {X : Cx} (e : DgK X.K) : CallR X (.type "int") rIntOctL := by
  intro pins s σ H xs us Q I r h
  obtain ⟨l, rfl, hne, hx, q⟩ := h
  obtain ⟨u, w', rfl, r1, r2⟩ := vals2 r
  obtain ⟨t1, rfl⟩ := r1
  obtain ⟨t2, rfl⟩ := r2
  exact callType_new F.called_int F.newNe_int (Hx.typeCall_int_2 _ _) (Hx.newCall_int_2 _ _) (fun obj => F.initArgs_range_2 obj _ _) F.entry_int_new
    (meets_based (B := 8) (x := SX.S l) (n := ((octNum l : Nat) : Int)) (.inl rfl) (fun c hc => (hx c hc).hex) (fun k => read_octL k hx hne)) ⟨nodig I e, rfl, ⟨.int ((octNum l : Nat) : Int), H, I.tok _, ⟨_, rfl⟩, q⟩⟩
theorem call_int_hexL {X : Cx} (e : DgK X.K) : CallR X (.type "int") rIntHexL := by
  intro pins s σ H xs us Q I r h
  obtain ⟨l, rfl, hne, hx, q⟩ := h
  obtain ⟨u, w', rfl, r1, r2⟩ := vals2 r
  obtain ⟨t1, rfl⟩ := r1
  obtain ⟨t2, rfl⟩ := r2
  exact callType_new F.called_int F.newNe_int (Hx.typeCall_int_2 _ _) (Hx.newCall_int_2 _ _) (fun obj => F.initArgs_range_2 obj _ _) F.entry_int_new
    (meets_based (B := 16) (x := SX.S l) (n := ((Hx.hexNum l : Nat) : Int)) (.inr rfl) hx (fun k => read_hexL k hx hne)) ⟨nodig I e, rfl, ⟨.int ((Hx.hexNum l : Nat) : Int), H, I.tok _, ⟨_, rfl⟩, q⟩⟩
section
variable {K : PySem.W.Frag} {l : List Nat}
theorem rc_intOctL (hne : l ≠ []) (h : ∀ c ∈ l, Oct c) : RC K rIntOctL [.str l, .int 8] (.int ((octNum l : Nat) : Int)) := fun F B as M H vs Q ow r q => by
  obtain ⟨v, r1, e1, h1, w, r2, e2, h2, e3⟩ := r
  have h1 : v = V.str (tx l) := h1
  have h2 : w = V.int 8 := h2
  have e3 : r2 = [] := e3
  subst e3; subst e2; subst e1; subst h1; subst h2
  exact ⟨l, rfl, hne, h, q _ B H (Gr.refl F B) ow rfl⟩
theorem rc_intHexL (hne : l ≠ []) (h : ∀ c ∈ l, Hx.IsHex c) : RC K rIntHexL [.str l, .int 16] (.int ((Hx.hexNum l : Nat) : Int)) := fun F B as M H vs Q ow r q => by
  obtain ⟨v, r1, e1, h1, w, r2, e2, h2, e3⟩ := r
  have h1 : v = V.str (tx l) := h1
  have h2 : w = V.int 16 := h2
  have e3 : r2 = [] := e3
  subst e3; subst e2; subst e1; subst h1; subst h2
  exact ⟨l, rfl, hne, h, q _ B H (Gr.refl F B) ow rfl⟩
end
end DJ
namespace DJ
open PySem PySem.Spec PyProof.Rows L2
section
variable {K : PySem.W.Frag} {ta tb : TE} {G : List (Option Sl)} {M M1 M2 : List MO}
/-! ### an owned list == data; an owned list joined on, owned again -/
theorem ev_eqO {k : Nat} {xs : List Dt} {e : Dt} (ha : EvE K ta G M (.o k) M1) (hb : EvE K tb G M1 (.d e) M2) (hm : M2[k]? = some (.lst xs)) (h1 : plD (.lst xs) = true) (h2 : plD e = true) (n1 : dpD (.lst xs) ≤ 64) (n2 : dpD e ≤ 64) :
    EvE K (tOp (rEqD K) ta tb) G M (.d (.bl (eqD (.lst xs) e))) M2 := fun F B as σ H ow sl Q q => ha F B as σ H ow sl _ fun v B1 as1 H1 g1 p1 o1 r1 => by
  obtain ⟨a, ha, rfl⟩ := r1
  refine hb F B1 as1 σ H1 o1 (sl.mono g1.1 p1) _ fun u B2 as2 H2 g2 p2 o2 r2 => ?_
  obtain ⟨_, _, vs, hv, hr⟩ := o2.own k a _ (p2.get ha) hm (fun z => nomatch z)
  exact ⟨_, _, dp_of (.lst xs) (.ref a) h1 ⟨a, vs, rfl, .inl (.inl hv), RpL.mono o2.bb _ _ hr⟩, dp_of e u h2 (Rp.mono o2.bb _ _ r2), shp_of h1 n1, shp_of h2 n2, q _ B2 as2 H2 (g1.trans g2) (p1.trans p2) o2 rfl⟩
theorem ev_catO {xs ys : List Dt} (ha : EvE K ta G M (.d (lstX K xs)) M1) (hb : EvE K tb G M1 (.d (lstX K ys)) M2) (h : xs.length + ys.length ≤ 100000) :
    EvE K (tOp rCat ta tb) G M (.o M2.length) (M2 ++ [.lst (xs ++ ys)]) := fun F B as σ H ow sl Q q => ha F B as σ H ow sl _ fun v B1 as1 H1 g1 p1 o1 r1 => by
  refine hb F B1 as1 σ H1 o1 (sl.mono g1.1 p1) _ fun u B2 as2 H2 g2 p2 o2 r2 => ?_
  obtain ⟨a, vs, rfl, hv, hr⟩ := r1 B2 g2.1
  obtain ⟨b, us, rfl, hu, hs⟩ := r2 B2 (Same.refl _)
  refine ⟨a, b, vs, us, rfl, rfl, o2.bb _ _ hv, o2.bb _ _ hu, by rw [hr.len, hs.len]; exact Nat.le_trans h (by decide), fun p hp => ?_⟩
  refine q _ B2 (as2 ++ [p]) _ (g1.trans g2) ((p1.trans p2).trans ⟨[p], rfl⟩) (o2.newO hp ⟨vs ++ us, upd_same, RpL.append hr hs⟩) ⟨p, ?_, rfl⟩
  rw [← o2.len, List.getElem?_append_right (Nat.le_refl _), Nat.sub_self]
  rfl
end
end DJ
namespace DJ
open PySem PySem.Spec PyProof.Rows L2
section
variable {K : PySem.W.Frag} {i j : Int}
/-! ### // by long numbers; int of 1 and noughts -/
theorem ro_fdivW (h : CDivW i j) : RO K (rI CDivW fun i j => .int (i / j)) (.int i) (.int j) (.int (i / j)) := ro_I h fun _ _ => rfl
theorem log_short {n : Int} (h0 : 0 < n) (h : n < 1073741824) : n.natAbs.log2 < 9000 := by
  have h1 : n.natAbs < 2 ^ 30 := by omega
  have h2 : n.natAbs.log2 < 30 := (Nat.log2_lt (by omega)).mpr h1
  omega
theorem ten_val (k : Nat) : NumText.digitsVal (49 :: List.replicate k 48) = 10 ^ k := by
  show (49 :: List.replicate k 48).foldl (fun acc c => acc * 10 + (c - 48)) 0 = 10 ^ k
  have key : ∀ (k a : Nat), (List.replicate k 48).foldl (fun acc c => acc * 10 + (c - 48)) a = a * 10 ^ k := by
    intro k
    induction k with
    | zero => intro a; simp
    | succ k ih =>
      intro a
      rw [List.replicate_succ, List.foldl_cons, ih, Nat.pow_succ]
      show (a * 10 + 0) * 10 ^ k = _
      rw [Nat.add_zero, Nat.mul_assoc, Nat.mul_comm 10]
  rw [List.foldl_cons, key]
  show (0 * 10 + 1) * 10 ^ k = _
  omega
theorem rc_ten {k : Nat} (h : k ≤ 639) : RC K (fun xs H Q => ∃ a n, xs = [.str a] ∧ PySem.intText? a = some n ∧ a.length ≤ 640 ∧ Q (.int n) H) [.str (49 :: List.replicate k 48)] (.int ((10 ^ k : Nat) : Int)) := by
  have := rc_intS (K := K) (l := 49 :: List.replicate k 48) (by
    rw [List.all_cons, List.all_replicate]
    cases k <;> simp) (List.cons_ne_nil _ _) (by rw [List.length_cons, List.length_replicate]; omega)
  rw [ten_val] at this
  exact this
end
end DJ
namespace DJ
open PySem PySem.Spec PyProof.Rows L2
/-! ### exceptions: what is raised, and where it leaves -/
structure Ex where
  cls : Value
  fx : Option (Str × Dt)
def XR (K : PySem.W.Frag) (B : Hp) (x : Ex) (cls : Value) (d : Option Addr) : Prop :=
  cls = x.cls ∧ match x.fx with
    | none => d = none
    | some (f, y) => ∃ dd v, d = some dd ∧ B dd = some (.xd [(f, v)]) ∧ Rp K B y v
def EvR (K : PySem.W.Frag) (t : TS) (W : WX) (G : List (Option Sl)) (M : List MO) (x : Ex) (G' : List (Option Sl)) (M' : List MO) : Prop :=
  ∀ F B as σ H, Ow K F B as M H → Slt K B as G σ → (∀ B' as' σ' H' cls d, Gr F B B' → Px as as' → Ow K F B' as' M' H' → Slt K B' as' G' σ' → XR K B' x cls d → W cls d σ' H') → ∀ D : Ends, t D σ H
def EvX (K : PySem.W.Frag) (te : TE) (W : WX) (G : List (Option Sl)) (M : List MO) (x : Ex) (M' : List MO) : Prop :=
  ∀ F B as σ H, Ow K F B as M H → Slt K B as G σ → (∀ B' as' H' cls d, Gr F B B' → Px as as' → Ow K F B' as' M' H' → XR K B' x cls d → W cls d σ H') → ∀ Q : VK, te σ H Q
section
variable {K : PySem.W.Frag} {G G1 G2 G3 : List (Option Sl)} {M M1 M2 M3 : List MO} {t u : TS} {te : TE} {tt : TT} {W : WX} {x : Ex} {b : Bool} {s : Sl} {o : Out}
theorem er_pre (l : Lg G G1) (h : EvR K t W G1 M x G2 M2) : EvR K t W G M x G2 M2 := fun F B as σ H ow sl q D => h F B as σ H ow (sl.weak l) q D
theorem er_weak (h : EvR K t W G M x G1 M1) (l : Lg G1 G2) : EvR K t W G M x G2 M1 := fun F B as σ H ow sl q D => h F B as σ H ow sl (fun B' as' σ' H' cls d g p o' s' r => q B' as' σ' H' cls d g p o' (s'.weak l) r) D
theorem er_seq1 (h : EvR K t W G M x G1 M1) : EvR K (tSeq t u) W G M x G1 M1 := fun F B as σ H ow sl q D => h F B as σ H ow sl q _
theorem er_seq2 (h : EvS K t G M (.nx G1 M1)) (h2 : EvR K u W G1 M1 x G2 M2) : EvR K (tSeq t u) W G M x G2 M2 := fun F B as σ H ow sl q D =>
  h F B as σ H ow sl { D with nx := u D } fun B1 as1 σ1 H1 g p o1 s1 => h2 F B1 as1 σ1 H1 o1 s1 (fun B' as' σ' H' cls d g' p' => q B' as' σ' H' cls d (g.trans g') (p.trans p')) D
theorem er_if (h : EvT K tt G M b M1) (h1 : b = true → EvR K t W G M1 x G2 M2) (h2 : b = false → EvR K u W G M1 x G2 M2) : EvR K (tIfS tt t u) W G M x G2 M2 := fun F B as σ H ow sl q D =>
  h F B as σ H ow sl _ fun B1 as1 H1 g p o1 => by
    cases b with
    | true => exact h1 rfl F B1 as1 σ H1 o1 (sl.mono g.1 p) (fun B' as' σ' H' cls d g' p' => q B' as' σ' H' cls d (g.trans g') (p.trans p')) D
    | false => exact h2 rfl F B1 as1 σ H1 o1 (sl.mono g.1 p) (fun B' as' σ' H' cls d g' p' => q B' as' σ' H' cls d (g.trans g') (p.trans p')) D
/-- a passed test, then what raises -/
theorem er_pass (h : EvT K tt G M false M1) (h2 : EvR K u W G M1 x G2 M2) : EvR K (tSeq (tIfS tt t tNext) u) W G M x G2 M2 := fun F B as σ H ow sl q D =>
  h F B as σ H ow sl _ fun B1 as1 H1 g p o1 => h2 F B1 as1 σ H1 o1 (sl.mono g.1 p) (fun B' as' σ' H' cls d g' p' => q B' as' σ' H' cls d (g.trans g') (p.trans p')) D
theorem er_ret (h : EvX K te W G M x M1) : EvR K (tRet te) W G M x G M1 := fun F B as σ H ow sl q D => h F B as σ H ow sl (fun B' as' H' cls d g p o' r => q B' as' σ H' cls d g p o' (sl.mono g.1 p) r) _
theorem er_asg {g : TG} (h : EvX K te W G M x M1) : EvR K (tAsg te g) W G M x G M1 := fun F B as σ H ow sl q D => h F B as σ H ow sl (fun B' as' H' cls d g p o' r => q B' as' σ H' cls d g p o' (sl.mono g.1 p) r) _
theorem er_drop (h : EvX K te W G M x M1) : EvR K (tDrop te) W G M x G M1 := fun F B as σ H ow sl q D => h F B as σ H ow sl (fun B' as' H' cls d g p o' r => q B' as' σ H' cls d g p o' (sl.mono g.1 p) r) _
theorem er_nG {G' : List (Option Sl)} (e : G = G') (h : EvR K t W G' M x G2 M2) : EvR K t W G M x G2 M2 := e ▸ h
/-- a for in which turn i raises -/
theorem er_for {β : Type} {wi : TI} {g : TG} {tb : TS} (xs : List β) (en : β → Dt) (Gn : Nat → List (Option Sl)) (Mn : Nat → List MO) (n : Nat) (y : β) (hn : xs[n]? = some y) (hI : EvI K wi G M (xs.map en) (Mn 0)) (h0 : Lg G (Gn 0))
    (turn : ∀ (i : Nat) (z : β), i < n → xs[i]? = some z → ∃ G1, EvG K g (Gn i) (.d (en z)) G1 ∧ (EvS K tb G1 (Mn i) (.nx (Gn (i + 1)) (Mn (i + 1))) ∨ EvS K tb G1 (Mn i) (.ct (Gn (i + 1)) (Mn (i + 1)))))
    (last : ∃ G1, EvG K g (Gn n) (.d (en y)) G1 ∧ EvR K tb W G1 (Mn n) x G2 M2) : EvR K (tFor wi g tb) W G M x G2 M2 := fun F B as σ H ow sl q D => by
  refine hI F B as σ H ow sl _ fun J B1 as1 H1 g1 p1 o1 yl => ?_
  have hnl : n < xs.length := (List.getElem?_eq_some_iff.mp hn).1
  refine ⟨fun i m σ' H' => ∃ B' as', m = xs.length - i ∧ i ≤ n ∧ Gr F B1 B' ∧ Px as1 as' ∧ Ow K F B' as' (Mn i) H' ∧ Slt K B' as' (Gn i) σ', ⟨xs.length, B1, as1, by simp, Nat.zero_le _, Gr.refl F B1, Px.refl as1, o1, (sl.mono g1.1 p1).weak h0⟩, fun i m σ' H' w => ?_⟩
  obtain ⟨B', as', rfl, hi, g', p', o', s'⟩ := w
  obtain ⟨y1, y2⟩ := yl F B' as' (Mn i) H' i g'.1 o'
  have hlt : i < xs.length := Nat.lt_of_le_of_lt hi hnl
  have hx : xs[i]? = some xs[i] := List.getElem?_eq_getElem hlt
  obtain ⟨go, yld⟩ := y1 (en xs[i]) (by rw [List.getElem?_map, hx] <;> rfl)
  refine .inr ⟨go, fun σ2 H2 => ∃ B' as', i + 1 ≤ n ∧ Gr F B1 B' ∧ Px as1 as' ∧ Ow K F B' as' (Mn (i + 1)) H2 ∧ Slt K B' as' (Gn (i + 1)) σ2, fun σ2 H2 n2 => ?_, fun v H2 yv => ?_⟩
  · obtain ⟨B2, as2, q1, q3, q4, q5, q6⟩ := n2
    exact ⟨xs.length - (i + 1), by omega, B2, as2, rfl, q1, q3, q4, q5, q6⟩
  · obtain ⟨B2, g2, o2, r2⟩ := yld v H2 yv
    rcases Nat.lt_or_eq_of_le hi with hlt2 | he
    · obtain ⟨G1, hg, ht⟩ := turn i xs[i] hlt2 hx
      refine hg F B2 as' (Mn i) σ' H2 v o2 (s'.mono g2.1 (Px.refl as')) r2 _ fun B3 as3 σ3 H3 g3 p3 o3 s3 => ?_
      have gg : Gr F B1 B3 := g'.trans (g2.trans g3)
      have pp : Px as1 as3 := p'.trans p3
      rcases ht with ht | ht
      · exact ht F B3 as3 σ3 H3 o3 s3 _ fun B4 as4 σ4 H4 g4 p4 o4 s4 => ⟨B4, as4, hlt2, gg.trans g4, pp.trans p4, o4, s4⟩
      · exact ht F B3 as3 σ3 H3 o3 s3 _ fun B4 as4 σ4 H4 g4 p4 o4 s4 => ⟨B4, as4, hlt2, gg.trans g4, pp.trans p4, o4, s4⟩
    · subst he
      obtain ⟨G1, hg, ht⟩ := last
      rw [hx] at hn
      cases hn
      refine hg F B2 as' (Mn i) σ' H2 v o2 (s'.mono g2.1 (Px.refl as')) r2 _ fun B3 as3 σ3 H3 g3 p3 o3 s3 => ?_
      exact ht F B3 as3 σ3 H3 o3 s3 (fun B' as' σ' H' cls d g4 p4 => q B' as' σ' H' cls d (g1.trans (g'.trans (g2.trans (g3.trans g4)))) (p1.trans (p'.trans (p3.trans p4)))) _
/-! ### raise -/
def tRaise0 (W : WX) (C : Addr) : TS := fun _ σ H => W (.ref C) none σ H
theorem er_raise0 {C : Addr} : EvR K (tRaise0 W C) W G M ⟨.ref C, none⟩ G M := fun F B as σ H ow sl q D => q B as σ H _ _ (Gr.refl F B) (Px.refl as) ow sl ⟨rfl, rfl⟩
/-! ### try, the clause without a name, and with one -/
variable {tb : WX → TS} {ts : Addr → Value → Option Addr → TS} {Wout : WX} {c : Value}
theorem es_tryO (h : ∀ W, EvS K (tb W) G M o) : EvS K (fun D σ H => tb (wOnly K c ts Wout D) D σ H) G M o := fun F B as σ H ow sl D gd => h _ F B as σ H ow sl D gd
theorem es_tryOX (h : ∀ W, EvR K (tb W) W G M x G1 M1) (e : PySem.W.exmOne K x.cls c = some true) (h2 : ∀ a d, EvS K (ts a x.cls d) G1 M1 o) : EvS K (fun D σ H => tb (wOnly K c ts Wout D) D σ H) G M o := fun F B as σ H ow sl D gd =>
  h _ F B as σ H ow sl (fun B' as' σ' H' cls d g p o' s' r => by
    obtain ⟨rfl, _⟩ := r
    exact ⟨true, e, fun _ a _ => h2 a d F B' as' σ' H' o' s' D (gd.later g p), fun z => nomatch z⟩) D
theorem es_tryA {i : Nat} (h : ∀ W, EvS K (tb W) G M o) : EvS K (fun D σ H => tb (wAs K c i ts Wout D) D σ H) G M o := fun F B as σ H ow sl D gd => h _ F B as σ H ow sl D gd
/-- what an except suite knows of its error -/
def XfR (K : PySem.W.Frag) (a : Addr) (d : Option Addr) (f : Str) (y : Dt) : Dt := .ext fun H v => v = .ref a ∧ ∃ dd u, d = some dd ∧ H dd = some (.xd [(f, u)]) ∧ Rp K H y u
theorem es_tryAX {i : Nat} {C : Value} {f : Str} {y : Dt} {r : Sl} (h : ∀ W, EvR K (tb W) W G M ⟨C, some (f, y)⟩ G1 M1) (e : PySem.W.exmOne K C c = some true)
    (h2 : ∀ a d, EvS K (ts a C d) (G1.set i (some (.d (XfR K a d f y)))) M1 (.rt r M2)) : EvS K (fun D σ H => tb (wAs K c i ts Wout D) D σ H) G M (.rt r M2) := fun F B as σ H ow sl D gd =>
  h _ F B as σ H ow sl (fun B' as' σ' H' cls d g p o' s' r => by
    obtain ⟨rfl, dd, v, ed, eb, rv⟩ := r
    refine ⟨true, e, fun _ a na => ?_, fun z => nomatch z⟩
    refine h2 a d F B' as' _ H' o' (s'.set i (s := .d (XfR K a d f y)) (v := .ref a) ?_) _ fun v' B2 as2 H2 g2 p2 => gd v' B2 as2 H2 (g.trans g2) (p.trans p2)
    exact fun H2 sm => ⟨rfl, dd, v, ed, sm _ _ eb, Rp.mono sm _ _ rv⟩) D
/-- err.f -/
theorem ev_xf {C a : Addr} {d : Option Addr} {f : Str} {y : Dt} (h : EvE K te G M (.d (XfR K a d f y)) M1) : EvE K (tXf a (.ref C) d C f te) G M (.d y) M1 := fun F B as σ H ow sl Q q =>
  h F B as σ H ow sl _ fun v B1 as1 H1 g p o1 r => by
    obtain ⟨rfl, dd, u, ed, eb, _⟩ := r H1 o1.bb
    obtain ⟨_, dd', u', ed', eb', rv⟩ := r B1 (Same.refl B1)
    rw [ed] at ed'
    cases ed'
    have : u' = u := by
      have z := (o1.bb _ _ eb').symm.trans eb
      cases z
      rfl
    subst this
    exact ⟨rfl, rfl, dd, _, u', ed, eb, by simp [List.lookup], q _ B1 as1 H1 g p o1 rv⟩
end
/-! ### defs that may raise -/
def SpX (K : PySem.W.Frag) (n : Nat) (R : List Sl → List MO → Sl → List MO → Prop) (RX : List Sl → List MO → Ex → List MO → Prop) : Sp := fun vs H Q E =>
  ∃ F B as ss M, Ow K F B as M H ∧ SlL K B as ss vs ∧ vs.length = n ∧ ((∃ r M', R ss M r M' ∧ ∀ v B' as' H', Gr F B B' → Px as as' → Ow K F B' as' M' H' → SlR K B' as' r v → Q v H') ∨
    (∃ x M', RX ss M x M' ∧ ∀ cls d B' as' H', Gr F B B' → Px as as' → Ow K F B' as' M' H' → XR K B' x cls d → E cls d H'))
structure CalX (P : Program) (w : World) (K : PySem.W.Frag) (mg : Str → Option Value) (base : Heap) (k : Nat) (x : Str) (sp : Sp) (dvs : List V) : Prop where
  ex : ∃ (f : Addr) (fd : FuncData) (ps : List Str) (ds : List Value), FnOk P w K mg base (L2.CX P w) k f fd ps sp ∧ mg x = some (.ref f) ∧ PySem.W.keepIn K (.ref f) = true ∧ Binds K fd ps ds ∧ Vals dvs ds
section
variable {K : PySem.W.Frag} {F B B1 H : Hp} {as as1 : List Addr} {G G1 G2 G' : List (Option Sl)} {M M1 M2 M' X : List MO} {te : TE} {ta tk : TA} {s r : Sl} {t : TS} {E : XK} {W : WX} {x : Ex}
theorem run_bodyX {N : List Str} {ss : List Sl} {vs : List V} {D : Ends} (h : EvR K t (fun cls d _ H => E cls d H) (start N.length ss) M x G' (M' ++ X)) (hm : M.length ≤ M'.length) (ow : Ow K F B as M H) (sl : SlL K B as ss vs)
    (q : ∀ cls d B' as' H', Gr F B B' → Px as as' → Ow K F B' as' M' H' → XR K B' x cls d → E cls d H') : t D (L2.start N vs) H := by
  have sl' : Slt K B as (start N.length ss) (L2.start N vs) := by
    have e := sl.len
    unfold start L2.start
    rw [e]
    exact slt_args sl
  refine h F B as _ H ow sl' (fun B' as' σ' H' cls d g p o' s' r' => q cls d B' (as'.take M'.length) H' g ?_ o'.drop r') D
  obtain ⟨tl, rfl⟩ := p
  refine ⟨tl.take (M'.length - as.length), ?_⟩
  rw [List.take_append, List.take_of_length_le (by rw [ow.len]; exact hm)]
theorem call_coreX {n : Nat} {R : List Sl → List MO → Sl → List MO → Prop} {RX : List Sl → List MO → Ex → List MO → Prop} {ds : List Dt} {vs : List V} {Q : VK} (hn : ds.length = n) (o : Ow K F B as M H) (r : RpL K B ds vs)
    (h : (∃ z N, R (ds.map Sl.d) [] z N ∧ ∀ v B' as' H', Gr H B B' → Ow K H B' as' N H' → SlR K B' as' z v → Q v H') ∨ (∃ x N, RX (ds.map Sl.d) [] x N ∧ ∀ cls d B' as' H', Gr H B B' → Ow K H B' as' N H' → XR K B' x cls d → E cls d H')) : SpX K n R RX vs H Q E := by
  refine ⟨H, B, [], ds.map Sl.d, [], ⟨Same.refl H, o.bb, rfl, List.nodup_nil, fun _ h => (nomatch h), fun _ h => (nomatch h), fun k a m e => by simp at e⟩, SlL.of_data r, by rw [r.len]; exact hn, ?_⟩
  rcases h with ⟨z, N, hR, q⟩ | ⟨x, N, hR, q⟩
  · exact .inl ⟨z, N, hR, fun v B' as' H' g _ o' r' => q v B' as' H' g o' r'⟩
  · exact .inr ⟨x, N, hR, fun cls d B' as' H' g _ o' r' => q cls d B' as' H' g o' r'⟩
theorem ev_callX {n : Nat} {R : List Sl → List MO → Sl → List MO → Prop} {RX : List Sl → List MO → Ex → List MO → Prop} {ds : List Dt} {z : Dt} {dvs : List V} {es : List Dt} {E : L2.St → XK} (h : EvA K ta G M (ds.map Sl.d) M1) (hR : R ((ds ++ es).map Sl.d) [] (.d z) []) (hn : (ds ++ es).length = n) (hd : ∀ B, RpL K B es dvs) :
    EvE K (tCallSD (SpX K n R RX) dvs E ta) G M (.d z) M1 := fun F B as σ H ow sl Q q =>
  h F B as σ H ow sl _ fun vs B1 as1 H1 g1 p1 o1 r1 => call_coreX hn o1 (RpL.append (SlL.data r1) (hd B1)) (.inl ⟨_, _, hR, fun v B' as' H' g o' r' => by
    obtain ⟨g2, o2⟩ := back0 o1 g o'
    exact q v B' as1 H' (g1.trans g2) p1 o2 r'⟩)
theorem ex_callX {n : Nat} {R : List Sl → List MO → Sl → List MO → Prop} {RX : List Sl → List MO → Ex → List MO → Prop} {ds : List Dt} {dvs : List V} {es : List Dt} (h : EvA K ta G M (ds.map Sl.d) M1) (hR : RX ((ds ++ es).map Sl.d) [] x []) (hn : (ds ++ es).length = n) (hd : ∀ B, RpL K B es dvs) :
    EvX K (tCallSD (SpX K n R RX) dvs (WE W) ta) W G M x M1 := fun F B as σ H ow sl q Q =>
  h F B as σ H ow sl _ fun vs B1 as1 H1 g1 p1 o1 r1 => call_coreX hn o1 (RpL.append (SlL.data r1) (hd B1)) (.inr ⟨_, _, hR, fun cls d B' as' H' g o' r' => by
    obtain ⟨g2, o2⟩ := back0 o1 g o'
    exact q B' as1 H' cls d (g1.trans g2) p1 o2 r'⟩)
end
section
variable {P : Program} {w : World} {K : PySem.W.Frag} {mg : Str → Option Value} {base : Heap}
/-- the context of a def's body, which may raise -/
abbrev cxX (P : Program) (w : World) (K : PySem.W.Frag) (mg : Str → Option Value) (base : Heap) (N : List Str) (x : Str) (st : Stmt) (f : Addr) (cdv : Value) (A : Around) (outer : List Env) (s : Shared) (H : Hp) (E : XK) : Cx := cxOf (L2.CX P w) P w K mg base N x (defScope st) f cdv A outer s H E
theorem cal_mkX {x : Str} {st : Stmt} {N ps : List Str} {k n : Nat} {R : List Sl → List MO → Sl → List MO → Prop} {RX : List Sl → List MO → Ex → List MO → Prop} (D : Df K mg x st ps) (S : FnScope N ps (defScope st)) (hn : ps.length = n)
    (hb : ∀ (f : Addr) (cdv : Value) (A : Around) (outer : List Env) (s : Shared) (H : Hp) (E : XK), Room k (A.deeper (envOfC x (defScope st) s.heap.objs.size f cdv)) → Takes (cxX P w K mg base N x st f cdv A outer s H E) (fun cls d _ H => E cls d H) → PassesOwn (model P w) (cxX P w K mg base N x st f cdv A outer s H E).A (cxX P w K mg base N x st f cdv A outer s H E).env (cxX P w K mg base N x st f cdv A outer s H E).xe →
      (∀ ss M r M', R ss M r M' → ∃ t X, PSs (cxX P w K mg base N x st f cdv A outer s H E) (defBody st) t ∧ ((EvS K t (start N.length ss) M (.rt r (M' ++ X)) ∧ ∀ j, r = .o j → j < M'.length) ∨ (∃ G1, EvS K t (start N.length ss) M (.nx G1 (M' ++ X)) ∧ r = .d .non)) ∧ M.length ≤ M'.length) ∧
      (∀ ss M x' M', RX ss M x' M' → ∃ t X G', PSs (cxX P w K mg base N x st f cdv A outer s H E) (defBody st) t ∧ EvR K t (fun cls d _ H => E cls d H) (start N.length ss) M x' G' (M' ++ X) ∧ M.length ≤ M'.length)) :
    CalX P w K mg base (k + 1) x (SpX K n R RX) [] := by
  obtain ⟨f, fd, F, hm, b⟩ := D.ex
  refine ⟨f, fd, ps, [], F.okX S (fun vs H Q E h => ?_) (fun cdv A outer s H vs Q E hr h => ?_), hm, F.kp, b, .nil⟩
  · obtain ⟨_, _, _, _, _, _, _, e, _⟩ := h
    rw [e, hn]
  · obtain ⟨F', B, as, ss, M, ow, sl, _, q⟩ := h
    obtain ⟨h1, h2⟩ := hb f cdv A outer s H E hr (takes_of rfl rfl rfl rfl) (passes_of rfl)
    rcases q with ⟨r, M', hR, q⟩ | ⟨x', M', hR, q⟩
    · obtain ⟨t, X, ht, he, hl⟩ := h1 ss M r M' hR
      rcases he with ⟨he, hr'⟩ | ⟨G1, he, hr'⟩
      · exact ⟨t, ht, run_body (X := X) he hl hr' ow sl q⟩
      · subst hr'
        exact ⟨t, ht, run_bodyN (X := X) he hl ow sl q⟩
    · obtain ⟨t, X, G', ht, he, hl⟩ := h2 ss M x' M' hR
      exact ⟨t, ht, run_bodyX (X := X) he hl ow sl q⟩
/-- .. with defaults -/
theorem cal_mkDX {x : Str} {st : Stmt} {N ps : List Str} {dvs : List V} {k n : Nat} {R : List Sl → List MO → Sl → List MO → Prop} {RX : List Sl → List MO → Ex → List MO → Prop} (D : DfD K mg x st dvs) (S : FnScope N ps (defScope st)) (hn : ps.length = n)
    (hb : ∀ (f : Addr) (cdv : Value) (A : Around) (outer : List Env) (s : Shared) (H : Hp) (E : XK), Room k (A.deeper (envOfC x (defScope st) s.heap.objs.size f cdv)) → Takes (cxX P w K mg base N x st f cdv A outer s H E) (fun cls d _ H => E cls d H) → PassesOwn (model P w) (cxX P w K mg base N x st f cdv A outer s H E).A (cxX P w K mg base N x st f cdv A outer s H E).env (cxX P w K mg base N x st f cdv A outer s H E).xe →
      (∀ ss M r M', R ss M r M' → ∃ t X, PSs (cxX P w K mg base N x st f cdv A outer s H E) (defBody st) t ∧ ((EvS K t (start N.length ss) M (.rt r (M' ++ X)) ∧ ∀ j, r = .o j → j < M'.length) ∨ (∃ G1, EvS K t (start N.length ss) M (.nx G1 (M' ++ X)) ∧ r = .d .non)) ∧ M.length ≤ M'.length) ∧
      (∀ ss M x' M', RX ss M x' M' → ∃ t X G', PSs (cxX P w K mg base N x st f cdv A outer s H E) (defBody st) t ∧ EvR K t (fun cls d _ H => E cls d H) (start N.length ss) M x' G' (M' ++ X) ∧ M.length ≤ M'.length))
    (j : Nat) (hj : n - (dvs.length - j) + (dvs.length - j) = n) (hd : dvs ≠ [])
    (hbind : ∀ (T : Addr) (kV doc pm : Value) (an : Option Addr) (cdv ct : Value) (us its : List Value), us.length = n - (dvs.length - j) → its.length = dvs.length →
      ∃ k, bindArgs (PySem.W.fnOf x x (defArgs st) (defBody st) (defScope st) (.ref T) kV doc pm an cdv ct) ⟨us, []⟩ = seqItems? (.ref T) >>= k ∧ k (some its.toArray) = pure (ps.zip (us ++ its.drop j))) :
    CalX P w K mg base (k + 1) x (SpX K n R RX) (dvs.drop j) := by
  obtain ⟨f, fd, F, hm⟩ := D.ex
  obtain ⟨ds, hv, hbb⟩ := F.binds1 (ps := ps) (n - (dvs.length - j)) j hd (by rw [hn]; exact hj) hbind
  refine ⟨f, fd, ps, ds, F.ok S (fun vs H Q E h => ?_) (fun cdv A outer s H vs Q E hr h => ?_), hm, F.kp, hbb, hv⟩
  · obtain ⟨_, _, _, _, _, _, _, e, _⟩ := h
    rw [e, hn]
  · obtain ⟨F', B, as, ss, M, ow, sl, _, q⟩ := h
    obtain ⟨h1, h2⟩ := hb f cdv A outer s H E hr (takes_of rfl rfl rfl rfl) (passes_of rfl)
    rcases q with ⟨r, M', hR, q⟩ | ⟨x', M', hR, q⟩
    · obtain ⟨t, X, ht, he, hl⟩ := h1 ss M r M' hR
      rcases he with ⟨he, hr'⟩ | ⟨G1, he, hr'⟩
      · exact ⟨t, ht, run_body (X := X) he hl hr' ow sl q⟩
      · subst hr'
        exact ⟨t, ht, run_bodyN (X := X) he hl ow sl q⟩
    · obtain ⟨t, X, G', ht, he, hl⟩ := h2 ss M x' M' hR
      exact ⟨t, ht, run_bodyX (X := X) he hl ow sl q⟩
end
section
variable {X : Cx} {k j : Nat} {x : Str} {sp : Sp} {dvs : List V} {p pos apos : Pos} {e o : Expr} {es : List Expr} {ta te to : TE} {t : TA} {W : WX}
theorem pe_cX (c : CalX X.prog X.w X.K X.mg X.base k x sp dvs) (tk : Takes X W) (hr : Room j X.A) (hk : k ≤ j) (hg : Gl X x) (ha : PA X (e :: es) t)
    (hdb : (x == ("__debug__" : Str)) = false := by decide) (he : starEach (e :: es) X.env = (false, eval e X.env) :: starEach es X.env := by rfl) (hpl : (backTo pos (starEach es X.env)).any (·.1) = false := by rfl) :
    PE X (.Call (.Name x p) (e :: es) [] pos) (tCallSD sp dvs (WE W) t) := by
  obtain ⟨f, fd, ps, ds, F, hm, kp, b, d⟩ := c.ex
  exact pe_callSD F (hr.mono hk) hg hm kp b d (fun σ => passAt tk σ) ha hdb he hpl
end
/-! ### an own class without __init__, made without arguments -/
def bmVE : List Value := [.type "ValueError", .type "Exception", .type "BaseException", .type "object"]
structure Xc (K : PySem.W.Frag) (mg : Str → Option Value) (x : Str) (C : Addr) : Prop where
  gC : mg x = some (.ref C)
  kC : PySem.W.keepIn K (.ref C) = true
  xC : PySem.W.excIn K C bmVE "ValueError.__new__" = true
  sC : PySem.W.subIn K (.ref C) (.type "BaseException") = some true
  tC : PySem.W.typeIn K (.ref C) = some (.type "type")
  te : PySem.W.exmOne K (.ref C) (.ref C) = some true
theorem ps_raise0 {X : Cx} {W : WX} {x : Str} {C : Addr} {p pos pos2 : Pos} (hc : X.calm = true) (tk : Takes X W) (T : Xc X.K X.mg x C) (hg : Gl X x) (hdb : (x == ("__debug__" : Str)) = false := by decide) :
    PS X (.Raise (some (.Call (.Name x p) [] [] pos)) none pos2) (tRaise0 W C) := by
  refine ps_raise hc tk (t := fun _ H Q => Q (.ref C) none H) ?_
  intro pins s σ H Q I h
  refine wpAny_Call_Name_kw (ld_glob I hg T.gC ?_ hdb)
  refine PySem.W.callWith_K0 I.kIn T.kC ?_
  show wpAny _ _ (call (.ref C) []) _ _ _
  obtain ⟨bm, N, nm, qn, bs, hdct, sn, sub, ab, col, dd, k0, k1, k2, k3, k5, mN, hC, hN, hni, TT⟩ := exc_obj I.kIn T.xC
  refine wpAny_call_exc_subT PySem.F.excBase_ValueError TT hC hN hni (fun h' e hm => ?_) (by rw [sizeLine_eq]; exact Nat.zero_le _)
  exact mk_of I hm (raises_own T.sC T.tC) h (I.hok.gone hm.new)
theorem exm_self {K : PySem.W.Frag} {S : Addr} (h1 : PySem.W.subIn K (.ref S) (.type "BaseException") = some true) (h2 : PySem.W.isClsIn K S = true) (h3 : PySem.W.typeIn K (.ref S) = some (.type "type")) (h4 : PySem.W.subIn K (.ref S) (.ref S) = some true) :
    PySem.W.exmOne K (.ref S) (.ref S) = some true := by
  have e1 : (PySem.W.subIn K (.ref S) (.type "BaseException") == some true) = true := by rw [h1] <;> rfl
  have e2 : ((PySem.W.clsIn K S).isSome && PySem.W.typeIn K (.ref S) == some (.type "type")) = true := by
    have h2' : (PySem.W.clsIn K S).isSome = true := h2
    rw [h2', h3] <;> rfl
  show (if (PySem.W.subIn K (.ref S) (.type "BaseException") == some true) = true then (if ((PySem.W.clsIn K S).isSome && PySem.W.typeIn K (.ref S) == some (.type "type")) = true then PySem.W.subIn K (.ref S) (.ref S) else none) else none) = some true
  rw [if_pos e1, if_pos e2]
  exact h4
end DJ
namespace DJ
open PySem PySem.Spec PyProof.Rows L2
/-! ### own errors that keep one thing -/
def spInit (K : PySem.W.Frag) (f : Str) : Sp := fun vs H Q _ => ∃ (a C : Addr) (y : V), vs = [.ref a, y] ∧ OexC K C ∧ PySem.W.findIn K (.ref C) f = some none ∧ H a = some (exo a C none) ∧ ∀ dx, H dx = none → dx ≠ a → Q .non (upd (upd H dx (exd dx [(f, y)])) a (exo a C (some dx)))
/-- the __init__ that stands in a class -/
def initS (s : Stmt) : Stmt := inClass s 0
structure Xi (P : Program) (w : World) (K : PySem.W.Frag) (mg : Str → Option Value) (base : Heap) (x f : Str) (C : Addr) : Prop where
  gC : mg x = some (.ref C)
  ox : OexC K C
  no : PySem.W.findIn K (.ref C) f = some none
  te : PySem.W.exmOne K (.ref C) (.ref C) = some true
  xf : XfC K C
  it : ∃ (fI : Addr) (fd : FuncData), PySem.W.findIn K (.ref C) "__init__" = some (some (.ref fI)) ∧ PySem.W.typeIn K (.ref fI) = some (.type "function") ∧ FnOk P w K mg base CX0 1 fI fd ["self", f] (spInit K f) ∧ Binds K fd ["self", f] []
section
variable {X : Cx} {C : Addr} {x f : Str} {j : Nat} {p pos pos2 : Pos} {e : Expr} {ta : TA} {W : WX}
theorem ps_raiseI (hc : X.calm = true) (tk : Takes X W) (T : Xi X.prog X.w X.K X.mg X.base x f C) (hr : Room j X.A) (hj : 2 ≤ j) (hg : Gl X x) (ha : PA X (e :: []) ta) (hdb : (x == ("__debug__" : Str)) = false := by decide)
    (he : starEach (e :: []) X.env = (false, eval e X.env) :: starEach [] X.env := by rfl) (hpl : (backTo pos (starEach [] X.env)).any (·.1) = false := by rfl) :
    PS X (.Raise (some (.Call (.Name x p) [e] [] pos)) none pos2) (fun _ σ H => tMkO C (spInit X.K f) [] ta σ H fun cls d H' => W cls d σ H') := by
  obtain ⟨fI, fd, h1, h2, h3, h4⟩ := T.it
  exact ps_raise hc tk (pmk_oex T.ox h1 h2 h3 (hr.mono hj) h4 .nil (fun _ _ _ _ _ _ _ z => z.elim) hg T.gC ha hdb he hpl)
end
section
variable {K : PySem.W.Frag} {G : List (Option Sl)} {M M1 : List MO} {W : WX} {ta : TA} {C : Addr} {f : Str} {y : Dt}
theorem er_raiseI (hx : OexC K C) (hn : PySem.W.findIn K (.ref C) f = some none) (h : EvA K ta G M [.d y] M1) : EvR K (fun _ σ H => tMkO C (spInit K f) [] ta σ H fun cls d H' => W cls d σ H') W G M ⟨.ref C, some (f, y)⟩ G M1 := fun F B as σ H ow sl q D => by
  refine h F B as σ H ow sl _ fun vs B1 as1 H1 g p o1 r => ?_
  obtain ⟨v, r1, e1, h1, e2⟩ := r
  have e2 : r1 = [] := e2
  subst e2; subst e1
  refine ⟨show 1 ≤ 1000 by decide, fun a na => ⟨a, C, v, rfl, hx, hn, upd_same, fun dx nd ne => ⟨rfl, dx, [(f, v)], upd_same, ?_, ?_, ?_⟩⟩⟩
  · rw [upd_ne ne, upd_same]
  · rw [upd_ne ne] at nd
    exact nd
  · rw [upd_ne ne] at nd
    have eh : upd (del (upd (upd (upd H1 a (exo a C none)) dx (exd dx [(f, v)])) a (exo a C (some dx))) a) dx (.xd [(f, v)]) = upd H1 dx (.xd [(f, v)]) := by
      funext b
      by_cases z : b = dx
      · rw [z, upd_same, upd_same]
      · rw [upd_ne z, upd_ne z]
        by_cases z2 : b = a
        · rw [z2, del_same, na]
        · rw [del_ne z2, upd_ne z2, upd_ne z, upd_ne z2]
    rw [eh]
    have g2 := o1.gr nd (.xd [(f, v)])
    exact q _ as1 σ _ _ _ (g.trans g2) p (o1.new nd _) ((sl.mono g.1 p).mono g2.1 (Px.refl as1)) ⟨rfl, dx, v, rfl, upd_same, Rp.mono g2.1 _ _ h1⟩
end
section
variable {P : Program} {w : World} {K : PySem.W.Frag} {mg : Str → Option Value} {base : Heap}
theorem init_ok {qn f : Str} {st : Stmt} {fI : Addr} {fd : FuncData} (F : FunD K "__init__" qn (defArgs st) (defBody st) (defScope st) [.non] [] fI fd) (S : FnScope ["self", f] ["self", f] (defScope st))
    (hps : ∀ (cdv : Value) (A : Around) (outer : List Env) (s : Shared) (H : Hp) (E : XK), PSs (cxOf CX0 P w K mg base ["self", f] qn (defScope st) fI cdv A outer s H E) (defBody st) (tOst K f (tVar 0) (tVar 1))) : FnOk P w K mg base CX0 1 fI fd ["self", f] (spInit K f) := by
  refine F.ok S (fun vs H Q E h => ?_) (fun cdv A outer s H vs Q E hr h => ⟨tOst K f (tVar 0) (tVar 1), hps cdv A outer s H E, ?_⟩)
  · obtain ⟨a, C, y, rfl, _⟩ := h
    rfl
  · obtain ⟨a, C, y, rfl, ho, hn, ha, q⟩ := h
    exact ⟨y, rfl, .ref a, rfl, a, C, rfl, ho, hn, .inl ⟨ha, fun dx nd ne => q dx nd ne⟩⟩
theorem xi_mk {h : Heap} {x f qn : Str} {st : Stmt} {C fI : Addr} {fd : FuncData} (X : K.In h) (G : h.Ns mainGlobals mg) (a : PySem.W.nsIn K mainGlobals x = some (some (.ref C)))
    {nm q : Str} {N : Addr} {bs bm : List Value} {sn : List Str} {sub : List Value} {ab : Bool} {col : Option Bool} {dd : Option Addr} {m0 m1 m2 m3 m5 : Option Value}
    (l : K.lookup C = some (excClassObj nm q C N bs bm true sn sub ab col dd m0 m1 m2 m3 m5 "ValueError.__new__")) (hv : PySem.HandSPX.refsVE bm = true)
    (sa : PySem.W.findIn K (.ref C) "__setattr__" = some (some (.builtin "object.__setattr__"))) (sC : PySem.W.subIn K (.ref C) (.type "BaseException") = some true) (tC : PySem.W.typeIn K (.ref C) = some (.type "type")) (kC : PySem.W.keepIn K (.ref C) = true)
    (no : PySem.W.findIn K (.ref C) f = some none) (iC : PySem.W.isClsIn K C = true) (ss : PySem.W.subIn K (.ref C) (.ref C) = some true)
    (ga : PySem.W.findIn K (.ref C) "__getattribute__" = some (some (.builtin "BaseException.__getattribute__"))) (gg : PySem.W.findIn K (.ref C) "__getattr__" = some none) (hd : PySem.W.hasDictIn K C = true)
    (i1 : PySem.W.findIn K (.ref C) "__init__" = some (some (.ref fI))) (i2 : PySem.W.typeIn K (.ref fI) = some (.type "function"))
    (F : FunD K "__init__" qn (defArgs st) (defBody st) (defScope st) [.non] [] fI fd) (S : FnScope ["self", f] ["self", f] (defScope st))
    (hps : ∀ (cdv : Value) (A : Around) (outer : List Env) (s : Shared) (H : Hp) (E : XK), PSs (cxOf CX0 P w K mg base ["self", f] qn (defScope st) fI cdv A outer s H E) (defBody st) (tOst K f (tVar 0) (tVar 1)))
    (hbind : ∀ (T : Addr) (kV doc pm : Value) (an : Option Addr) (cdv ct : Value) (us its : List Value), us.length = 2 → its.length = 1 →
      ∃ k, bindArgs (PySem.W.fnOf "__init__" qn (defArgs st) (defBody st) (defScope st) (.ref T) kV doc pm an cdv ct) ⟨us, []⟩ = seqItems? (.ref T) >>= k ∧ k (some its.toArray) = pure ((["self", f] : List Str).zip (us ++ its.drop 1))) :
    Xi P w K mg base x f C := by
  obtain ⟨ds, hv2, hbb⟩ := F.binds1 (ps := ["self", f]) 2 1 (List.cons_ne_nil _ _) rfl hbind
  have e : ds = [] := by cases hv2; rfl
  subst e
  exact ⟨PySem.W.mg_of X G a, ⟨⟨nm, q, N, bs, bm, sn, sub, ab, col, dd, m0, m1, m2, m3, m5, l, hv⟩, sa, sC, tC, kC⟩, no, exm_self sC iC tC ss, ⟨ga, gg, sC, hd⟩, fI, fd, i1, i2, init_ok F S hps, hbb⟩
end
end DJ
namespace LJ
open PySem PySem.Spec PyProof.Rows L2 LamX DJ
/-! ### a lambda is made: without parameters, or with one that has a whole number as default -/
def TbK (q : Str) (g : Addr → Option HO) (ps : Array Value) : Prop :=
  TriplesOk ps.toList ∧ ∀ (at_ : Pos) (u : Value), codeAmong at_ ps.toList = some u → ∃ c, u = .ref c ∧ g c = some (CodeO c q)
inductive LStep (q : Str) (P : Addr) (ps : Array Value) (at_ : Pos) (H : Hp) : Addr → Hp → Prop where
  | hit {c : Addr} (h : H c = some (CodeO c q)) (ha : codeAmong at_ ps.toList = some (.ref c)) : LStep q P ps at_ H c H
  | new {c : Addr} (h : H c = none) : LStep q P ps at_ H c (upd (upd H P (.tbl (ps ++ #[rawInt at_.line, rawInt at_.col, .ref c]))) c (CodeO c q))
theorem LStep.code {q : Str} {P : Addr} {ps : Array Value} {at_ : Pos} {H H1 : Hp} {c : Addr} (h : LStep q P ps at_ H c H1) : H1 c = some (CodeO c q) := by
  cases h with
  | hit h _ => exact h
  | new h => exact upd_same
theorem LStep.stay {q : Str} {P : Addr} {ps : Array Value} {at_ : Pos} {H H1 : Hp} {c b : Addr} (h : LStep q P ps at_ H c H1) (hb : H b = none) (hp : b ≠ P) (hc : b ≠ c) : H1 b = none := by
  cases h with
  | hit h _ => exact hb
  | new h => rw [upd_ne hc, upd_ne hp]; exact hb
/-- the function object -/
abbrev lamO (q : Str) (pr : Arguments) (bd : Expr) (sc : Scope) (cl : List (Str × Addr)) (dV dc pm : Value) (c : Addr) (ct : Value) : Obj := PySem.W.kdv_obj "<lambda>" q pr (.expr bd) sc cl dV dc pm c ct
/-- its default, if there is one -/
def DvAt (g : Addr → Option Obj) (H : Hp) (fr : List Addr) (dV : Value) : Option Int → Prop
  | none => dV = .none
  | some i => ∃ (T : Addr) (t : Tok), dV = .ref T ∧ g T = some (PySem.W.kdv_tup [.int i t]) ∧ H T = none ∧ T ∉ fr
section
variable {X : Cx} {pins : List (Addr × Obj)} {σ : L2.St} {H : Hp} {s : Shared} {c P : Addr} {pr : Arguments} {bd : Expr} {sc : Scope} {at_ : Pos} {ps : Array Value} {A : Around} {E Q : Value → Shared → Prop}
theorem nofr (I : Inv X pins σ H s) {f : Addr} (hf : s.heap.objs.size ≤ f) : f ∉ frs X.stack := fun z => by
  rcases List.mem_cons.mp (I.stkSub _ z) with e | e
  · have lt := I.lt
    rw [← e] at lt
    exact absurd (Nat.lt_of_lt_of_le lt hf) (Nat.lt_irrefl _)
  · exact I.nofs hf e
theorem lam_tail {dV : Value} (I : Inv X pins σ H s) (TB : TabB X.base X.mg c P) (hcode : X.env.code = .ref c) (hP : H P = some (.tbl ps)) (hk : TbK (X.env.qual ++ "<lambda>") H ps) (hfree : ∀ y ∈ sc.names, y.2 = .free → ∃ c, X.env.cells.lookup y.1 = some c)
    (h : ∀ (f c' : Addr) (dc pm ct : Value) (H1 : Hp) (s' : Shared), Inv X pins σ H1 s' → LStep (X.env.qual ++ "<lambda>") P ps at_ H c' H1 → s'.heap.get? f = some (lamO (X.env.qual ++ "<lambda>") pr bd sc (cloFrom X.env.cells sc.names []) dV dc pm c' ct) →
      s.heap.objs.size ≤ f → H1 f = none → (∀ b o, b ≠ P → s.heap.get? b = some o → s'.heap.get? b = some o ∧ b ≠ f) → (∀ b o, s.heap.get? b = some o → H b = none → H1 b = none) → Q (.ref f) s') :
    wpAny (model X.prog X.w) A (makeTail "<lambda>" (X.env.qual ++ "<lambda>") pr (.expr bd) sc X.env dV .none none at_ at_.line) Q E s := by
  obtain ⟨k1, k2⟩ := hk
  have atP : s.heap.get? P = some { cls := .none, data := .fields ps } := I.hok P _ hP
  have bmP : s.heap.BuiltinsAt X.mg P := TB.bm.keeps I.bk
  cases hc : codeAmong at_ ps.toList with
  | some u =>
    obtain ⟨c', rfl, hco⟩ := k2 at_ u hc
    refine PySem.W.kdv_makeTailHit (mg := X.mg) (c := c) (P := P) (ps := ps) (closure_ok hfree) I.ok.glob (I.mod.glob.keeps I.bk) hcode (TB.code.keeps I.bk) atP k1 hc bmP fun ct dc h' tk kp hsz => ?_
    have J : Inv X pins σ H { s with heap := h'.push (lamO (X.env.qual ++ "<lambda>") pr bd sc (cloFrom X.env.cells sc.names []) dV dc ((X.mg "__name__").getD .none) c' ct), toks := tk } := I.kept fun b o e => Heap.get?_push_of_some _ (kp b o e)
    exact h _ c' dc _ ct H _ J (.hit hco hc) (Heap.get?_push_size _ rfl) hsz (I.hok.fresh hsz) (fun b o _ e => ⟨Heap.get?_push_of_some _ (kp b o e), Nat.ne_of_lt (Nat.lt_of_lt_of_le (Heap.lt_size e) hsz)⟩) fun _ _ _ n => n
  | none =>
    refine PySem.W.kdv_makeTail (mg := X.mg) (c := c) (P := P) (ps := ps) (closure_ok hfree) I.ok.glob (I.mod.glob.keeps I.bk) hcode (TB.code.keeps I.bk) atP k1 hc TB.gP bmP fun c' ct dc h' tk xb ge lt rec tb => ?_
    obtain ⟨c2, oc, vs, t, e2, hoc, hd, hv⟩ := rec
    cases e2
    have sz : s.heap.objs.size ≤ h'.objs.size := Nat.le_trans ge (Nat.le_of_lt lt)
    have nC : H c' = none := I.hok.fresh ge
    have J := inv_table (q := X.env.qual ++ "<lambda>") (t' := tk) (more := #[rawInt at_.line, rawInt at_.col, .ref c']) (h' := h'.push (lamO (X.env.qual ++ "<lambda>") pr bd sc (cloFrom X.env.cells sc.names []) dV dc ((X.mg "__name__").getD .none) c' ct)) I hP
      (fun b o hb e => Heap.get?_push_of_some _ (xb b o hb e)) (Heap.get?_push_of_some _ tb) ge ⟨oc, vs, t, Heap.get?_push_of_some _ hoc, hd, hv⟩
    have neP : h'.objs.size ≠ P := Nat.ne_of_gt (Nat.lt_of_lt_of_le (Heap.lt_size atP) sz)
    have st : LStep (X.env.qual ++ "<lambda>") P ps at_ H c' _ := .new nC
    refine h _ c' dc _ ct _ _ J st (Heap.get?_push_size _ rfl) sz (st.stay (I.hok.fresh sz) neP (Nat.ne_of_gt lt)) (fun b o hb e => ⟨Heap.get?_push_of_some _ (xb b o hb e), Nat.ne_of_lt (Nat.lt_of_lt_of_le (Heap.lt_size e) sz)⟩) fun b o e n => st.stay n (fun z => ?_) (Nat.ne_of_lt (Nat.lt_of_lt_of_le (Heap.lt_size e) ge))
    rw [z, hP] at n
    cases n
/-- the parameters: none, or one with a default -/
inductive Dfl (pr : Arguments) (env : Env) : Option Int → Prop where
  | no (h : defaultsOf pr env = ([], [])) : Dfl pr env none
  | one {i : Int} {j : Nat} {p : Pos} (h1 : pr.defaults = [.Constant (.int i) j p]) (h2 : pr.kw_defaults = []) : Dfl pr env (some i)
theorem lam_eval {dfl : Option Int} (df : Dfl pr X.env dfl) (I : Inv X pins σ H s) (TB : TabB X.base X.mg c P) (hcode : X.env.code = .ref c) (hP : H P = some (.tbl ps)) (hk : TbK (X.env.qual ++ "<lambda>") H ps) (hfree : ∀ y ∈ sc.names, y.2 = .free → ∃ c, X.env.cells.lookup y.1 = some c)
    (h : ∀ (f c' : Addr) (dV dc pm ct : Value) (H1 : Hp) (s' : Shared), Inv X pins σ H1 s' → LStep (X.env.qual ++ "<lambda>") P ps at_ H c' H1 → s'.heap.get? f = some (lamO (X.env.qual ++ "<lambda>") pr bd sc (cloFrom X.env.cells sc.names []) dV dc pm c' ct) →
      H1 f = none → f ∉ frs X.stack → DvAt s'.heap.get? H1 (frs X.stack) dV dfl → Q (.ref f) s') :
    wpAny (model X.prog X.w) A (eval (.Lambda pr bd sc at_) X.env) Q E s := by
  cases df with
  | no hd =>
    refine PySem.W.kla_eval hd ?_
    rw [makeFunction_eq]
    simp only [List.zip_nil_right, List.filterMap_nil, List.isEmpty_nil, if_true, pure_bind]
    exact lam_tail I TB hcode hP hk hfree fun f c' dc pm ct H1 s' J st e ge n _ _ => h f c' .none dc pm ct H1 s' J st e n (nofr I ge) rfl
  | @one i j p h1 h2 =>
    refine PySem.W.kdv_lam (by rw [h1] <;> rfl) h2 ?_
    rw [h1]
    refine PySem.W.kdv_all1 (wpAny_Constant_int (PySem.W.kdv_all0 ?_))
    rw [makeFunction_eq]
    simp only [List.zip_nil_right, List.filterMap_nil, List.isEmpty_nil, if_true, pure_bind, List.isEmpty_cons, Bool.false_eq_true, if_false]
    refine wpAny_bind (wpAny_newTextTuple ?_)
    have J0 := I.tok (s.toks + 1)
    have atT : ({ s with heap := s.heap.push (PySem.W.kdv_tup [.int i s.toks]), toks := s.toks + 1 } : Shared).heap.get? s.heap.objs.size = some (PySem.W.kdv_tup [.int i s.toks]) := Heap.get?_push_size _ rfl
    have nT : H s.heap.objs.size = none := I.hok.fresh (Nat.le_refl _)
    have J1 : Inv X pins σ H { s with heap := s.heap.push (PySem.W.kdv_tup [.int i s.toks]), toks := s.toks + 1 } := I.kept fun b o e => Heap.get?_push_of_some _ e
    have neP : s.heap.objs.size ≠ P := fun z => by rw [z, hP] at nT; cases nT
    exact lam_tail J1 TB hcode hP hk hfree fun f c' dc pm ct H1 s' J st e ge n kp fr => h f c' _ dc pm ct H1 s' J st e n (nofr J1 ge) ⟨_, _, rfl, (kp _ _ neP atT).1, fr _ _ atT nT, nofr I (Nat.le_refl _)⟩
end
end LJ
namespace LJ
open PySem PySem.Spec PyProof.Rows L2 LamX DJ
/-! ### a lambda is entered: what it sees are the maker's slots -/
structure LamN (N : List Str) (o sc : Scope) : Prop where
  kind : sc.kind = .function
  co : sc.isCoroutine = false
  gen : sc.isGenerator = false
  own : ∀ y ∈ sc.names, y.2 ≠ .cell ∧ (y.2 = .local → y.1 ∉ N)
  free : ∀ y ∈ sc.names, y.2 = .free → o.names.lookup y.1 = some .cell ∨ o.names.lookup y.1 = some .free
def lamNB (N : List Str) (o sc : Scope) : Bool :=
  decide (sc.kind = .function) && (!sc.isCoroutine && (!sc.isGenerator && sc.names.all fun y => !decide (y.2 = .cell) && ((!decide (y.2 = .local) || !decide (y.1 ∈ N)) && (!decide (y.2 = .free) || (decide (o.names.lookup y.1 = some .cell) || decide (o.names.lookup y.1 = some .free))))))
theorem lamN_by {N : List Str} {o sc : Scope} (h : lamNB N o sc = true) : LamN N o sc := by
  unfold lamNB at h
  simp only [Bool.and_eq_true, Bool.or_eq_true, Bool.not_eq_true', decide_eq_true_eq, decide_eq_false_iff_not, List.all_eq_true] at h
  obtain ⟨a1, a2, a3, a4⟩ := h
  refine ⟨a1, a2, a3, fun y hy => ⟨(a4 y hy).1, fun e => ?_⟩, fun y hy e => ?_⟩
  · rcases (a4 y hy).2.1 with z | z
    · exact absurd e z
    · exact z
  · rcases (a4 y hy).2.2 with z | z
    · exact absurd e z
    · exact z
theorem LamN.has {X : Cx} {sc : Scope} (L : LamN X.N X.env.scope sc) (ok : X.Ok) : ∀ y ∈ sc.names, y.2 = .free → ∃ c, X.env.cells.lookup y.1 = some c := fun y hy e => ok.has _ (L.free y hy e)
section
variable {X : Cx} {pins : List (Addr × Obj)} {σ : L2.St} {H HZ : Hp} {s s1 : Shared} {sc : Scope}
theorem lam_enter {A : Around} {outer : List Env} {E : XK} {f c' : Addr} {h1 : Heap} {tk : Nat} {bs : List (Str × Value)} (I : Inv X pins σ H s) (L : LamN X.N X.env.scope sc) (e0 : Env0 X.prog X.w X.K X.mg X.base A outer s1 HZ) (hd : A.handled = none)
    (un : Un (frs X.stack) [] H HZ s.heap s1.heap) (hns : h1.Ns s1.heap.objs.size fun y => bs.reverse.lookup y) (kp : ∀ b o, s1.heap.get? b = some o → h1.get? b = some o) :
    Inv (lamCx X A outer s1 HZ E sc f c') [] σ HZ { s1 with heap := h1, toks := tk } := by
  have has := L.has I.ok
  have inn : ∀ {y c}, (cloFrom X.env.cells sc.names []).lookup y = some c → X.env.cells.lookup y = some c := by
    intro y c e
    rcases cloFrom_mem (PySem.mem_of_lookup e) with z | ⟨z1, z2⟩
    · cases z
    · obtain ⟨c1, hc⟩ := has _ z1 rfl
      have hc : X.env.cells.lookup y = some c1 := hc
      have : c = c1 := by rw [z2, hc] <;> rfl
      rw [this]; exact hc
  have out : ∀ {y}, sc.names.lookup y = some .free → ∃ c, (cloFrom X.env.cells sc.names []).lookup y = some c := fun {y} z =>
    mem_lookup (cloFrom_has (cells := X.env.cells) (acc := []) (show (y, NameKind.free) ∈ sc.names from PySem.mem_of_lookup z))
  have isC : ∀ {c : Addr} {v : Option Value}, H c = none → s.heap.IsCell c v → h1.IsCell c v := by
    rintro c v n ⟨o, ho, hdt⟩
    obtain ⟨sl, q⟩ := un.any ho n (by simp)
    exact ⟨_, kp _ _ q, hdt⟩
  have noX : ∀ b : Addr, b ∉ (lamCx X A outer s1 HZ E sc f c').ex := fun b z => absurd (show b ∈ ([] : List Addr) from z) (by simp)
  constructor
  · exact ⟨e0.mod, L.kind, rfl, rfl, Nat.le_refl _, fun y z c q1 q2 => I.ok.inj y z c (inn q1) (inn q2), fun y hy => by
      have hy : sc.names.lookup y = some .cell ∨ sc.names.lookup y = some .free := hy
      rcases hy with z | z
      · exact absurd rfl (L.own _ (PySem.mem_of_lookup z)).1
      · exact out z, fun y c z _ => (nomatch (show false = true from z)), fun _ => hd, Around.frames_deeper e0.frames, .inr ⟨rfl, rfl⟩, fun b z => absurd z (noX b), e0.bs, e0.bsz, fun b _ _ => noX b, fun b z => absurd z (noX b), e0.funs, e0.frf⟩
  · rfl
  · exact e0.bare
  · exact Un.kept kp
  · refine ⟨_, hns, fun i y v q1 q2 q3 => ?_⟩
    have q3 : Vis sc y := q3
    rcases q3 with k | k | k
    · exact absurd (List.mem_of_getElem? q1) ((L.own _ (PySem.mem_of_lookup k)).2 rfl)
    · exact absurd rfl (L.own _ (PySem.mem_of_lookup k)).1
    · obtain ⟨m, _, hl⟩ := I.loc
      have vis : Vis X.env.scope y := (L.free _ (PySem.mem_of_lookup k) rfl).elim (fun z => .inr (.inl z)) (fun z => .inr (.inr z))
      obtain ⟨w', r, q⟩ := hl i y v q1 q2 vis
      obtain ⟨c2, h2⟩ := out k
      refine ⟨w', r, .inr ⟨.inr k, c2, h2, ?_⟩⟩
      have c1 := inn h2
      rcases q with ⟨k', _⟩ | ⟨_, c3, e', z⟩
      · have k' : X.env.scope.names.lookup y = some .local := k'
        rcases L.free _ (PySem.mem_of_lookup k) rfl with z | z <;> rw [show X.env.scope.names.lookup y = _ from z] at k' <;> cases k'
      · rw [c1] at e'
        cases e'
        exact isC (I.freeC y _ c1) z
  · intro y c e
    obtain ⟨w', z⟩ := I.cell y c (inn e)
    exact ⟨w', isC (I.freeC y c (inn e)) z⟩
  · exact e0.hok.fresh (Nat.le_refl _)
  · intro y c e
    obtain ⟨v, o, ho, _⟩ := I.cell y c (inn e)
    exact un.free c o ho (I.freeC y c (inn e)) (by simp)
  · intro q hq
    exact absurd (show q ∈ ([] : List (Addr × Obj)) ++ [] from hq) (by simp)
  · exact e0.hok.kept kp
  · exact I.len
/-- how it binds nothing -/
inductive LamB (pr : Arguments) (bd : Expr) (sc : Scope) : Option Int → Prop where
  | no (h : ∀ (q : Str) (cl : List (Str × Addr)) (dc pm cv ct : Value), bindArgs (PySem.W.kdv_fn "<lambda>" q pr (.expr bd) sc cl .none dc pm cv ct) ⟨[], []⟩ = pure []) : LamB pr bd sc none
  | one {i : Int} {nm : Str} (hl : sc.names.lookup nm = some .local)
      (h : ∀ (q : Str) (cl : List (Str × Addr)) (T : Addr) (dc pm cv ct : Value), ∃ kk, bindArgs (PySem.W.kdv_fn "<lambda>" q pr (.expr bd) sc cl (.ref T) dc pm cv ct) ⟨[], []⟩ = seqItems? (.ref T) >>= kk ∧ ∀ v, kk (some #[v]) = pure [(nm, v)]) : LamB pr bd sc (some i)
/-- a(), in the def that got the lambda -/
theorem pe_ask {CXg : CXT} {Eg : XK} {Ng : List Str} {qg : Str} {sg : Scope} {g f c' : Addr} {cdg dV dc pm ct : Value} {pr : Arguments} {bd : Expr} {dfl : Option Int} {k i : Nat} {a : Str} {pn : List (Addr × Obj)} {xe : Value → Shared → Prop} {W : WX} {E : XK} {tb : TE} {p1 p2 : Pos}
    (I : Inv X pins σ H s) (L : LamN X.N X.env.scope sc) (hf : s.heap.get? f = some (lamO (X.env.qual ++ "<lambda>") pr bd sc (cloFrom X.env.cells sc.names []) dV dc pm c' ct)) (hfn : H f = none) (hfr : f ∉ frs X.stack) (dv : DvAt s.heap.get? H (frs X.stack) dV dfl) (hb : LamB pr bd sc dfl)
    (tk : Takes ((cxOf CXg X.prog X.w X.K X.mg X.base Ng qg sg g cdg X.A X.stack s H Eg).tr pn xe) W) (hr : Room (k + 1) (X.A.deeper (envOfC qg sg s.heap.objs.size g cdg)))
    (hbody : ∀ (A : Around) (outer : List Env) (s : Shared) (H : Hp), Room k (A.deeper (lamEnv X sc s.heap.objs.size f c')) → PE (lamCx X A outer s H E sc f c') bd tb)
    (hN : Ng[i]? = some a) (hv : Vis sg a) (hd : (a == ("__debug__" : Str)) = false := by decide) (hcd : (a == ("__classdict__" : Str)) = false := by decide) :
    PE ((cxOf CXg X.prog X.w X.K X.mg X.base Ng qg sg g cdg X.A X.stack s H Eg).tr pn xe) (.Call (.Name a p1) [] [] p2)
      (fun σZ HZ Q => σZ[i]? = some (some (.ref f)) ∧ HZ c' = some (CodeO c' (X.env.qual ++ "<lambda>")) ∧ (∀ cls d H', E cls d H' → W cls d σZ H') ∧ tb σ HZ Q) := by
  constructor
  intro pinsZ sZ σZ HZ Q IZ want
  obtain ⟨w1, w2, hW, w3⟩ := want
  refine wpAny_Call_Name_kw (thn ((pe_var (pos := p1) (i := i) hN hv hd hcd).run pinsZ sZ σZ HZ (fun v H1 => v = .ref f ∧ H1 = HZ) IZ ⟨.ref f, w1, rfl, rfl⟩) fun u s1 got => ?_)
  obtain ⟨v, H1, I1, r1, ev, eH⟩ := got
  subst ev
  rw [eH] at I1
  have eu : u = Value.ref f := r1
  subst eu
  have un : Un (frs X.stack) [] H HZ s.heap s1.heap := I1.base
  have of1 := un.keep f _ hf hfn hfr (by simp)
  refine PySem.W.callWith_F0 ⟨_, _, _, _, of1⟩ ?_
  obtain ⟨⟨oc, vs, t, hoc, hdc, hvc⟩, _, _⟩ := I1.hok c' _ w2
  have bnd : ∃ bs, BindsTo s1 (PySem.W.kdv_fn "<lambda>" (X.env.qual ++ "<lambda>") pr (.expr bd) sc (cloFrom X.env.cells sc.names []) dV dc pm (.ref c') ct) ⟨[], []⟩ bs ∧ ∀ y ∈ bs, sc.names.lookup y.1 = some .local := by
    cases hb with
    | no h =>
      have dv : dV = .none := dv
      subst dv
      exact ⟨[], .of_eq (h _ _ _ _ _ _), fun y hy => absurd hy (by simp)⟩
    | @one i0 nm hl h =>
      obtain ⟨T, t0, rfl, gT, nT, fT⟩ := dv
      obtain ⟨kk, z1, z2⟩ := h (X.env.qual ++ "<lambda>") (cloFrom X.env.cells sc.names []) T dc pm (.ref c') ct
      refine ⟨[(nm, .int i0 t0)], .of_defaults (T := T) rfl (un.keep T _ gT nT fT (by simp)) rfl z1 (z2 _), fun y hy => ?_⟩
      rw [List.mem_singleton] at hy
      subst hy
      exact hl
  obtain ⟨bs, bt, bl⟩ := bnd
  have go : codeAny (model X.prog X.w) (X.A.deeper (envOfC qg sg s.heap.objs.size g cdg)) (.call (.ref f) ⟨[], []⟩) (CR (L2.CX X.prog X.w) (envOfC qg sg s.heap.objs.size g cdg :: X.stack) X.prog X.w HZ s1 Q E) s1 := by
    refine PySem.W.kla_callFunE hr.depth of1 rfl L.co L.gen rfl ⟨c', oc, vs, t, rfl, hoc, hdc, hvc⟩ (bt _ _ _ _ ?_)
    refine wpAny_newFunctionEnv (fun y hy => (L.own y hy).1) bl (fun h1 hns hsb => ⟨I1.nolimit.fresh _ hsb, ?_⟩) L.kind
    have keep1 : ∀ b o, s1.heap.get? b = some o → h1.get? b = some o := fun b o e => hsb.extBut b o (Nat.ne_of_lt (Heap.lt_size e)) (Heap.get?_push_of_some _ e)
    have J := lam_enter (E := E) (f := f) (c' := c') (tk := s1.toks + bs.length) I L I1.env0 hr.hd un hns keep1
    refine PySem.W.kla_codeExpr (wpAny_mono ((hbody _ _ s1 HZ (hr.deeper _)).run [] _ _ HZ Q J w3) (fun v s' res => ?_) fun _ _ z => z)
    obtain ⟨w', H', J', rv, q⟩ := res
    exact ⟨w', H', J'.os, J'.bare, J'.base, J'.hok, rv, q⟩
  refine wpAny_call (codeAny_mono go fun r s' res => ?_)
  cases r with
  | error e => exact tk e s' (XE.of_call (X := (cxOf CXg X.prog X.w X.K X.mg X.base Ng qg sg g cdg X.A X.stack s H Eg).tr pn xe) I1 (fun cls d H' z => hW cls d H' z) res)
  | ok fl =>
    cases fl with
    | ret u => exact I1.after res
    | next => exact (show False from res).elim
    | brk => exact (show False from res).elim
    | cont => exact (show False from res).elim
end
/-! ### x(lambda: body, ..) -/
/-- the def that calls what it got -/
def GivesG (X : Cx) (Ng : List Str) (x : Str) (sg : Scope) (g : Addr) (cdg : Value) (bg : List Stmt) (a : Str) (q : Str) (TT : (XK → Hp → VK → Prop) → Addr → List V → Hp → VK → Prop) : Prop :=
  ∀ (f c' : Addr) (s : Shared) (H : Hp) (Q : VK) (vs : List V) (tl : XK → Hp → VK → Prop),
    (∀ (W : WX) (pn : List (Addr × Obj)) (xe : Value → Shared → Prop) (E : XK) (p1 p2 : Pos), Takes ((cxOf CX0 X.prog X.w X.K X.mg X.base Ng x sg g cdg X.A X.stack s H E0).tr pn xe) W →
      PE ((cxOf CX0 X.prog X.w X.K X.mg X.base Ng x sg g cdg X.A X.stack s H E0).tr pn xe) (.Call (.Name a p1) [] [] p2) (fun σZ HZ Q => σZ[0]? = some (some (.ref f)) ∧ HZ c' = some (CodeO c' q) ∧ (∀ cls d H', E cls d H' → W cls d σZ H') ∧ tl E HZ Q)) →
    TT tl c' vs H Q → ∃ t, PSs (cxOf CX0 X.prog X.w X.K X.mg X.base Ng x sg g cdg X.A X.stack s H E0) bg t ∧ t { nx := fun _ H' => Q .non H', rt := Q } (L2.start Ng (.ref f :: vs)) H
def tLamG (q : Str) (P : Addr) (at_ : Pos) (TT : (XK → Hp → VK → Prop) → Addr → List V → Hp → VK → Prop) (ta : TA) (t : XK → TE) : TE := fun σ H Q =>
  ∃ ps, H P = some (.tbl ps) ∧ TbK q H ps ∧ ∀ c' H1, LStep q P ps at_ H c' H1 → ta σ H1 fun vs H2 => TT (fun E H' Q' => t E σ H' Q') c' vs H2 Q
/-- what stays is pinned -/
theorem pinned {pins : List (Addr × Obj)} {σ : L2.St} {H : Hp} {s : Shared} {o : Obj} {b : Addr} (I : Inv X pins σ H s) (e : s.heap.get? b = some o) (n : H b = none) (fr : b ∉ frs X.stack) (nd : ∀ es ep, o.data ≠ .dict es ep) (nc : ∀ v, o.data ≠ .cell v) : Inv X ((b, o) :: pins) σ H s := by
  refine ⟨I.ok, I.os, I.bare, I.base, I.loc, I.cell, I.free, I.freeC, fun q hq => ?_, I.hok, I.len⟩
  have hq : q = (b, o) ∨ q ∈ X.pn ++ pins := by
    rcases List.mem_append.mp hq with z | z
    · exact .inr (List.mem_append_left _ z)
    · rcases List.mem_cons.mp z with z | z
      · exact .inl z
      · exact .inr (List.mem_append_right _ z)
  rcases hq with rfl | hq
  · refine ⟨e, n, fun z => ?_, fun z => fr ?_, nc⟩
    · obtain ⟨m, ⟨ob, es, ep, ho, hd, _⟩, _⟩ := I.loc
      have z : b = X.env.locals := z
      rw [← z, e] at ho
      cases ho
      exact nd _ _ hd
    · rcases I.ok.stk with k | ⟨k, _⟩
      · rw [k]; exact z
      · rw [k]
        obtain ⟨en, h1, h2⟩ := List.mem_filterMap.mp z
        exact List.mem_filterMap.mpr ⟨en, List.mem_cons_of_mem _ h1, h2⟩
  · exact I.pin q hq
theorem unpin {X : Cx} {pins : List (Addr × Obj)} {σ : L2.St} {H : Hp} {s : Shared} {q : Addr × Obj} (I : Inv X (q :: pins) σ H s) : Inv X pins σ H s :=
  ⟨I.ok, I.os, I.bare, I.base, I.loc, I.cell, I.free, I.freeC, fun p hp => I.pin p (by
    rcases List.mem_append.mp hp with z | z
    · exact List.mem_append_left _ z
    · exact List.mem_append_right _ (List.mem_cons_of_mem _ z)), I.hok, I.len⟩
theorem pin_at {X : Cx} {pins : List (Addr × Obj)} {σ : L2.St} {H : Hp} {s : Shared} {b : Addr} {o : Obj} (I : Inv X ((b, o) :: pins) σ H s) : s.heap.get? b = some o ∧ H b = none := by
  obtain ⟨h1, h2, _⟩ := I.pin (b, o) (List.mem_append_right _ List.mem_cons_self)
  exact ⟨h1, h2⟩
section
variable {X : Cx}
theorem pe_lamG {TT : (XK → Hp → VK → Prop) → Addr → List V → Hp → VK → Prop} {x a : Str} {g c P : Addr} {k n : Nat} {pg : Arguments} {bg : List Stmt} {sg : Scope} {dV kV doc pm cdv ct oc : Value} {an od : Option Addr} {osl : Array (Option Value)} {Ng ps : List Str}
    {pr : Arguments} {bd : Expr} {sc : Scope} {es : List Expr} {ta : TA} {t : XK → TE} {dfl : Option Int} {p lpos pos : Pos} (hg : Gl X x) (hm : X.mg x = some (.ref g)) (hk : PySem.W.keepIn X.K (.ref g) = true)
    (lk : X.K.lookup g = some ⟨oc, od, .func (PySem.W.fnOf x x pg bg sg dV kV doc pm an cdv ct), osl⟩) (hcg : PySem.W.codeIn X.K cdv x = true) (hb : L2.Binds X.K (PySem.W.fnOf x x pg bg sg dV kV doc pm an cdv ct) ps []) (Sg : FnScope Ng ps sg) (hNg : Ng[0]? = some a) (hva : Vis sg a)
    (hlen : ∀ tl c' vs H Q, TT tl c' vs H Q → (V.ref c' :: vs).length = ps.length)
    (hG : GivesG X Ng x sg g cdv bg a (X.env.qual ++ "<lambda>") TT)
    (TB : TabB X.base X.mg c P) (hcode : X.env.code = .ref c) (hr : Room (k + 2) X.A) (L : LamN X.N X.env.scope sc) (df : Dfl pr X.env dfl) (lb : LamB pr bd sc dfl) (ha : PA X es ta)
    (hbody : ∀ (A : Around) (outer : List Env) (s : Shared) (H : Hp) (E : XK) (f c' : Addr), Room k (A.deeper (lamEnv X sc s.heap.objs.size f c')) → PE (lamCx X A outer s H E sc f c') bd (t E))
    (hdb : (x == ("__debug__" : Str)) = false := by decide) (hd : (a == ("__debug__" : Str)) = false := by decide) (hcd : (a == ("__classdict__" : Str)) = false := by decide)
    (hst : starEach (.Lambda pr bd sc lpos :: es) X.env = (false, eval (.Lambda pr bd sc lpos) X.env) :: starEach es X.env := by rfl) (hpl : (backTo pos (starEach es X.env)).any (·.1) = false := by rfl)
    (hbt : backTo pos ((false, eval (.Lambda pr bd sc lpos) X.env) :: starEach es X.env) = (false, eval (.Lambda pr bd sc lpos) X.env) :: backTo pos (starEach es X.env) := by rfl) :
    PE X (.Call (.Name x p) (.Lambda pr bd sc lpos :: es) [] pos) (tLamG (X.env.qual ++ "<lambda>") P lpos TT ta t) := by
  constructor
  intro pins s σ H Q I want
  obtain ⟨tb, hP, hkn, want⟩ := want
  refine wpAny_Call_Name_kw (ld_glob I hg hm ?_ hdb)
  refine PySem.W.callWith_K (h₀ := X.base) I.ok.mod.kin hk ?_ hst hpl
  rw [hst, hbt]
  refine Calls.spliced_cons (lam_eval df I TB hcode hP hkn (L.has I.ok) fun f c' dV' dc' pm' ct' H1 s' I1 st hf hfn hfr dv => ?_)
  have fin : ∀ {pins' : List (Addr × Obj)}, Inv X pins' σ H1 s' → (∀ H2 s2, Inv X pins' σ H2 s2 → Inv X pins σ H2 s2 ∧ s2.heap.get? f = some (lamO (X.env.qual ++ "<lambda>") pr bd sc (cloFrom X.env.cells sc.names []) dV' dc' pm' c' ct') ∧ H2 f = none ∧ DvAt s2.heap.get? H2 (frs X.stack) dV' dfl) →
      wpAny (model X.prog X.w) X.A (spliced (backTo pos (starEach es X.env))) (fun us s2 => X.K.In s2.heap ∧ wpAny (model X.prog X.w) X.A (call (.ref g) ([] ++ (.ref f :: us))) (EP X pins σ Q) X.xe s2) X.xe s' := by
    intro pins' J keep
    refine wpAny_mono (ha.run pos pins' s' σ H1 _ J (want c' H1 st)) (fun us s2 res => ?_) fun _ _ z => z
    obtain ⟨vs, H2, I2, rv, tt⟩ := res
    obtain ⟨I3, gf, nf, dv2⟩ := keep H2 s2 I2
    refine ⟨I3.kIn, ?_⟩
    have ln : (Value.ref f :: us).length = ps.length := by
      have e := hlen _ _ _ _ _ tt
      rw [List.length_cons] at e ⊢
      rw [← rv.length]; exact e
    have ln2 : (V.ref f :: vs).length = ps.length := by
      have e := hlen _ _ _ _ _ tt
      rw [List.length_cons] at e ⊢
      exact e
    have run : codeAny (model X.prog X.w) X.A (.call (.ref g) ⟨.ref f :: us, []⟩) (CR CX0 X.stack X.prog X.w H2 s2 Q E0) s2 := by
      refine run_ofS (N := Ng) (ps := ps) (us := .ref f :: us) (vs := .ref f :: vs) lk hcg Sg hr I3.env0 (by
        have z := hb s2 (.ref f :: us) I3.kIn (by rw [List.append_nil]; exact ln)
        rw [List.append_nil] at z
        exact z) (.cons rfl rv) ln2 fun hr' => ?_
      exact hG f c' s2 H2 Q vs _ (fun W pn xe E p1 p2 tk => pe_ask (i := 0) I3 L gf nf hfr dv2 lb tk hr' (fun A outer s H hr2 => hbody A outer s H E f c' hr2) hNg hva hd hcd) tt
    refine wpAny_call (codeAny_mono run fun r s3 res => ?_)
    cases r with
    | error e => exact (show False from res).elim
    | ok fl =>
      cases fl with
      | ret u => exact I3.after res
      | next => exact (show False from res).elim
      | brk => exact (show False from res).elim
      | cont => exact (show False from res).elim
  have Jf := pinned I1 hf hfn hfr (fun _ _ z => nomatch z) (fun _ z => nomatch z)
  cases dfl with
  | none => exact fin Jf fun H2 s2 I2 => ⟨unpin I2, (pin_at I2).1, (pin_at I2).2, dv⟩
  | some i =>
    obtain ⟨T, t0, e1, e2, e3, e4⟩ := dv
    have JT := pinned Jf e2 e3 e4 (fun _ _ z => nomatch z) (fun _ z => nomatch z)
    exact fin JT fun H2 s2 I2 => ⟨unpin (unpin I2), (pin_at (unpin I2)).1, (pin_at (unpin I2)).2, T, t0, e1, (pin_at I2).1, (pin_at I2).2, e4⟩
end
end LJ
namespace LJ
open PySem PySem.Spec PyProof.Rows L2 LamX DJ
/-! ### the same at the layer of data -/
/-- a table of code objects, owned -/
def tabM (P : Addr) (q : Str) : MO := .abx fun B a o => a = P ∧ ∃ ps, o = .tbl ps ∧ TbK q B ps
theorem tab_gone {P : Addr} {q : Str} : tabM P q ≠ .gone := fun z => nomatch z
theorem TbK.mono {q : Str} {B B' : Hp} {ps : Array Value} (e : Same B B') (h : TbK q B ps) : TbK q B' ps := ⟨h.1, fun p u k => let ⟨c, a, b⟩ := h.2 p u k; ⟨c, a, e _ _ b⟩⟩
/-- what a lambda's reading gives, from data -/
def TlR (K : PySem.W.Frag) (tl : XK → Hp → VK → Prop) (B0 : Hp) (z : Dt) : Prop :=
  ∀ F B as M H E Q, Ow K F B as M H → Same B0 B → (∀ v B' H', Gr F B B' → Ow K F B' as M H' → Rp K B' z v → Q v H') → tl E H Q
def TlX (K : PySem.W.Frag) (tl : XK → Hp → VK → Prop) (B0 : Hp) (x : Ex) : Prop :=
  ∀ F B as M H (E : XK) Q, Ow K F B as M H → Same B0 B → (∀ cls d B' H', Gr F B B' → Ow K F B' as M H' → XR K B' x cls d → E cls d H') → tl E H Q
/-- try: return a() / except C as e: suite; what is told of an error that keeps y is okz ds y -/
def TTold (K : PySem.W.Frag) (q : Str) (C : Addr) (fld : Str) (n : Nat) (okz : List Dt → Dt → Dt → Prop) : (XK → Hp → VK → Prop) → Addr → List V → Hp → VK → Prop := fun tl c' vs H Q =>
  H c' = some (CodeO c' q) ∧ vs.length = n ∧ ∃ F B as M ds, Ow K F B as M H ∧ RpL K B ds vs ∧ ((∃ z, TlR K tl B z ∧ ∀ v B' H', Gr F B B' → Ow K F B' as M H' → Rp K B' z v → Q v H') ∨
    (∃ y z, okz ds y z ∧ TlX K tl B ⟨.ref C, some (fld, y)⟩ ∧ ∀ v B' H', Gr F B B' → Ow K F B' as M H' → Rp K B' z v → Q v H'))
section
variable {K : PySem.W.Frag} {G : List (Option Sl)} {M : List MO}
/-- the slots that hold data -/
def dO : Option Sl → Option Sl
  | some (.d x) => some (.d x)
  | _ => none
theorem slt_data {B : Hp} {as as' : List Addr} {σ : L2.St} (h : Slt K B as G σ) : Slt K B as' (G.map dO) σ := by
  refine ⟨by rw [List.length_map]; exact h.1, fun i s q => ?_⟩
  rw [List.getElem?_map] at q
  cases e : G[i]? with
  | none => rw [e] at q; cases q
  | some o =>
    rw [e] at q
    have q : dO o = some s := Option.some.inj q
    cases o with
    | none => cases q
    | some c =>
      cases c with
      | o k => cases q
      | d x =>
        cases q
        exact h.2 i _ e
theorem ev_told {q : Str} {P C : Addr} {fld : Str} {n kT : Nat} {okz : List Dt → Dt → Dt → Prop} {ta : TA} {t : XK → TE} {at_ : Pos} {ds : List Dt} {z : Dt} (hT : M[kT]? = some (tabM P q)) (ha : EvA K ta G M (ds.map Sl.d) M) (hn : ds.length = n)
    (h : (∀ E M', EvE K (t E) (G.map dO) M' (.d z) M') ∨ (∃ y, okz ds y z ∧ ∀ (E : XK) M', EvX K (t E) (fun cls d _ H => E cls d H) (G.map dO) M' ⟨.ref C, some (fld, y)⟩ M')) :
    EvE K (tLamG q P at_ (TTold K q C fld n okz) ta t) G M (.d z) M := fun F B as σ H ow sl Q qq => by
  have hk : kT < as.length := by rw [ow.len]; exact (List.getElem?_eq_some_iff.mp hT).1
  obtain ⟨a, ea⟩ : ∃ a, as[kT]? = some a := ⟨_, List.getElem?_eq_getElem hk⟩
  obtain ⟨fa, ba, o, ho, nt, hφ⟩ := ow.own kT a _ ea hT tab_gone
  obtain ⟨rfl, ps, rfl, hb⟩ := hφ B (Same.refl B)
  refine ⟨ps, ho, hb.mono ow.bb, fun c' H1 st => ?_⟩
  have nx : ∃ B1, Gr F B B1 ∧ Ow K F B1 as M H1 ∧ B1 c' = some (CodeO c' q) := by
    cases st with
    | hit h1 h2 =>
      obtain ⟨c, e1, e2⟩ := hb.2 at_ _ h2
      cases e1
      exact ⟨B, Gr.refl F B, ow, e2⟩
    | new h1 =>
      have g1 := ow.gr h1 (CodeO c' q)
      have o1 := ow.new h1 (CodeO c' q)
      refine ⟨_, g1, ?_, upd_same⟩
      have hs : M.set kT (tabM a q) = M := by
        refine List.ext_getElem? fun j => ?_
        by_cases e : kT = j
        · subst e
          rw [List.getElem?_set_self (List.getElem?_eq_some_iff.mp hT).1, hT]
        · rw [List.getElem?_set_ne e]
      have key : TbK q (upd B c' (CodeO c' q)) (ps ++ #[rawInt at_.line, rawInt at_.col, .ref c']) := by
        have eL : (ps ++ #[rawInt at_.line, rawInt at_.col, .ref c']).toList = ps.toList ++ [rawInt at_.line, rawInt at_.col, .ref c'] := by simp
        refine ⟨by rw [eL]; exact PySem.TriplesOk_snoc _ _ _ _ hb.1, fun p u k => ?_⟩
        rw [eL] at k
        rcases among_app _ hb.1 k with k | k
        · obtain ⟨c, e1, e2⟩ := hb.2 p u k
          exact ⟨c, e1, g1.1 _ _ e2⟩
        · exact ⟨c', k, upd_same⟩
      have o2 := o1.put (k := kT) (a := a) (m' := tabM a q) (o := .tbl (ps ++ #[rawInt at_.line, rawInt at_.col, .ref c'])) ea hT tab_gone ⟨_, upd_same, (fun _ z => nomatch z), fun B' e => ⟨rfl, _, rfl, key.mono e⟩⟩
      rw [hs] at o2
      have ne : a ≠ c' := fun e => by rw [e, h1] at ho; cases ho
      have eh : upd (upd H c' (CodeO c' q)) a (.tbl (ps ++ #[rawInt at_.line, rawInt at_.col, .ref c'])) = upd (upd H a (.tbl (ps ++ #[rawInt at_.line, rawInt at_.col, .ref c']))) c' (CodeO c' q) := by
        funext b
        by_cases e1 : b = a
        · rw [e1, upd_same, upd_ne ne, upd_same]
        · by_cases e2 : b = c'
          · rw [e2, upd_ne (fun z => ne z.symm), upd_same, upd_same]
          · rw [upd_ne e1, upd_ne e2, upd_ne e2, upd_ne e1]
      rw [eh] at o2
      exact o2
  obtain ⟨B1, g1, o1, b1⟩ := nx
  refine ha F B1 as σ H1 o1 (sl.mono g1.1 (Px.refl as)) _ fun vs B2 as2 H2 g2 p2 o2 r2 => ?_
  refine ⟨o2.bb _ _ (g2.1 _ _ b1), by rw [r2.len, List.length_map]; exact hn, F, B2, as2, M, ds, o2, SlL.data r2, ?_⟩
  have g12 := g1.trans g2
  rcases h with h | ⟨y, hy, h⟩
  · exact .inl ⟨z, fun F' B' as' M' H' E Q' ow' sm q' => h E M' F' B' as' σ H' ow' (slt_data ((sl.mono g12.1 p2).mono sm (Px.refl as2))) Q' fun v B3 as3 H3 g3 p3 o3 r3 => q' v B3 H3 g3 (by
        have : as3 = as' := by
          obtain ⟨tl, rfl⟩ := p3
          have e1 := o3.len
          have e2 := ow'.len
          rw [List.length_append] at e1
          have : tl = [] := List.eq_nil_of_length_eq_zero (by omega)
          rw [this, List.append_nil]
        rw [← this]; exact o3) r3, fun v B' H' g' o' r' => qq v B' as2 H' (g12.trans g') p2 o' r'⟩
  · exact .inr ⟨y, z, hy, fun F' B' as' M' H' E Q' ow' sm q' => h E M' F' B' as' σ H' ow' (slt_data ((sl.mono g12.1 p2).mono sm (Px.refl as2))) (fun B3 as3 H3 cls d g3 p3 o3 r3 => q' cls d B3 H3 g3 (by
        have : as3 = as' := by
          obtain ⟨tl, rfl⟩ := p3
          have e1 := o3.len
          have e2 := ow'.len
          rw [List.length_append] at e1
          have : tl = [] := List.eq_nil_of_length_eq_zero (by omega)
          rw [this, List.append_nil]
        rw [← this]; exact o3) r3) Q', fun v B' H' g' o' r' => qq v B' as2 H' (g12.trans g') p2 o' r'⟩
end
/-- told's own body: try: return a() / except C as e: suite (e in slot i) -/
theorem told_gives {X : Cx} {Ng : List Str} {x a e q fld : Str} {sg : Scope} {g C : Addr} {cdg : Value} {i n : Nat} {p1 p2 p3 p4 p7 p8 : Pos} {b0 : Stmt} {suite : List Stmt} {ts : Addr → Value → Option Addr → TS} {okz : List Dt → Dt → Dt → Prop} {nm : Str}
    (hge : sg.names.lookup e = some .globalImplicit) (hme : X.mg e = some (.ref C)) (hde : (e == ("__debug__" : Str)) = false) (hNd : Ng.Nodup) (hi : Ng[i]? = some nm) (hln : sg.names.lookup nm = some .local) (hl : Ng.length = n + 2) (hin : i = n + 1)
    (te : PySem.W.exmOne X.K (.ref C) (.ref C) = some true)
    (hsu : ∀ (A : Around) (s : Shared) (H : Hp) (a : Addr) (oe : Obj) (cls : Value) (d : Option Addr) (pn : List (Addr × Obj)), Zc cls d oe → (∃ vs, oe.data = .fields vs) → PSs ((cxOf CX0 X.prog X.w X.K X.mg X.base Ng x sg g cdg X.A X.stack s H E0).suite a ((a, oe) :: pn)) (b0 :: suite) (ts a cls d))
    (hst : ∀ (ds : List Dt) (y z : Dt), ds.length = n → okz ds y z → ∀ (fv : V) a d M, EvS X.K (ts a (.ref C) d) ((some (.d (.raw fv)) :: ds.map (fun d => some (.d d))) ++ [some (.d (XfR X.K a d fld y))]) M (.rt (.d z) M)) :
    GivesG X Ng x sg g cdg [.Try [.Return (some (.Call (.Name a p1) [] [] p2)) p3] [.ExceptHandler (some (.Name e p4)) (some nm) (b0 :: suite) p7] [] [] p8] a q (TTold X.K q C fld n okz) := by
  intro f c' s H Q vs tl act tt
  obtain ⟨hc, hvl, F, B, as, M, ds, ow, rds, tt⟩ := tt
  refine ⟨_, pss_one (ps_try_as (X := cxOf CX0 X.prog X.w X.K X.mg X.base Ng x sg g cdg X.A X.stack s H E0) (i := i) (c := .ref C) (ts := ts) (Wout := fun _ _ _ _ => False)
    (tb := fun W D σ H => ∃ E : XK, σ[0]? = some (some (.ref f)) ∧ H c' = some (CodeO c' q) ∧ (∀ cls d H', E cls d H' → W cls d σ H') ∧ tl E H D.rt) rfl rfl hNd hi hln ⟨hge, hde, .inl hme⟩ L2.takes0 (fun W pn xe tk _ => ?_) (fun a oe cls d pn hz hf => hsu X.A s H a oe cls d pn hz hf)), ?_⟩
  · refine ⟨fun pins s' σ H' D I h' => ?_⟩
    obtain ⟨E, w1, w2, w3, w4⟩ := h'
    exact (pss_one (ps_ret (pos := p3) (act W pn xe E p1 p2 tk))).run pins s' σ H' D I ⟨w1, w2, w3, w4⟩
  · refine ⟨fun cls d H' => wAs X.K (.ref C) i ts (fun _ _ _ _ => False) _ cls d _ H', rfl, hc, fun _ _ _ z => z, ?_⟩
    rcases tt with ⟨z, h1, h2⟩ | ⟨y, z, hy, h1, h2⟩
    · exact h1 F B as M H _ _ ow (Same.refl B) h2
    · refine h1 F B as M H _ _ ow (Same.refl B) fun cls d B' H' g o' r => ?_
      obtain ⟨rfl, dd, v, ed, eb, rv⟩ := r
      refine ⟨true, te, fun _ a na => ?_, fun z => nomatch z⟩
      have dl : ds.length = n := by rw [← rds.len]; exact hvl
      refine hst ds y z dl hy (.ref f) a d M F B' as _ H' o' ?_ _ fun v' B2 as2 H2 g2 p2 o2 r2 => h2 v' B2 H2 (g.trans g2) (by
        have : as2 = as := by
          obtain ⟨tl', rfl⟩ := p2
          have e1 := o2.len
          have e2 := o'.len
          rw [List.length_append] at e1
          have : tl' = [] := List.eq_nil_of_length_eq_zero (by omega)
          rw [this, List.append_nil]
        rw [← this]; exact o2) r2
      have sl0 : SlL X.K B' as (.d (.raw (.ref f)) :: ds.map Sl.d) (.ref f :: vs) := ⟨_, _, rfl, rfl, SlL.of_data (RpL.mono g.1 _ _ rds)⟩
      have sl1 := slt_args (n := 1) sl0
      have e1 : L2.start Ng (V.ref f :: vs) = (V.ref f :: vs).map some ++ List.replicate 1 none := by
        unfold L2.start
        congr 2
        rw [hl, List.length_cons, hvl]
        omega
      show Slt X.K B' as _ ((L2.start Ng (V.ref f :: vs)).set i (some (.ref a)))
      rw [e1]
      have key := sl1.set (s := .d (XfR X.K a d fld y)) (v := .ref a) i (fun H2 sm => ⟨rfl, dd, v, ed, sm _ _ eb, Rp.mono sm _ _ rv⟩)
      have eg : ((Sl.d (.raw (.ref f)) :: ds.map Sl.d).map some ++ List.replicate 1 none).set i (some (.d (XfR X.K a d fld y))) = (some (.d (.raw (.ref f))) :: ds.map (fun d => some (.d d))) ++ [some (.d (XfR X.K a d fld y))] := by
        subst hin
        rw [show (n + 1) = ((Sl.d (.raw (.ref f)) :: ds.map Sl.d).map some).length by simp [dl]]
        rw [List.set_append_right _ _ (Nat.le_refl _), Nat.sub_self]
        simp
      rw [eg] at key
      exact key
end LJ
namespace LJ
open PySem PySem.Spec PyProof.Rows L2 LamX DJ
/-! ### defs that may raise, with keyword-only parameters -/
structure DfK (K : PySem.W.Frag) (mg : Str → Option Value) (x : Str) (st : Stmt) (kws : List (Str × V)) : Prop where
  ex : ∃ (f : Addr) (fd : FuncData), L2.FunD K x x (defArgs st) (defBody st) (defScope st) [] kws f fd ∧ mg x = some (.ref f)
structure CalFX (P : Program) (w : World) (K : PySem.W.Frag) (mg : Str → Option Value) (base : Heap) (k : Nat) (x : Str) (st : Stmt) (ps : List Str) (kws : List (Str × V)) (sp : Sp) : Prop where
  ex : ∃ (f : Addr) (fd : FuncData), FnOk P w K mg base (L2.CX P w) k f fd ps sp ∧ L2.FunD K x x (defArgs st) (defBody st) (defScope st) [] kws f fd ∧ mg x = some (.ref f)
/-- called with n things by place and the others by their names -/
structure CalKX (P : Program) (w : World) (K : PySem.W.Frag) (mg : Str → Option Value) (base : Heap) (k : Nat) (x : Str) (n : Nat) (ks : List Str) (g : List Value → List Value → List Value) (gV : List V → List V → List V) (sp : Sp) : Prop where
  ex : ∃ (f : Addr) (fd : FuncData) (ps : List Str), FnOk P w K mg base (L2.CX P w) k f fd ps sp ∧ mg x = some (.ref f) ∧ PySem.W.keepIn K (.ref f) = true ∧ KBn K fd ps n ks g gV
section
variable {P : Program} {w : World} {K : PySem.W.Frag} {mg : Str → Option Value} {base : Heap}
theorem cal_mkKX {x : Str} {st : Stmt} {N ps : List Str} {kws : List (Str × V)} {k n : Nat} {R : List Sl → List MO → Sl → List MO → Prop} {RX : List Sl → List MO → Ex → List MO → Prop} (D : DfK K mg x st kws) (S : FnScope N ps (defScope st)) (hn : ps.length = n)
    (hb : ∀ (f : Addr) (cdv : Value) (A : Around) (outer : List Env) (s : Shared) (H : Hp) (E : XK), Room k (A.deeper (envOfC x (defScope st) s.heap.objs.size f cdv)) → Takes (cxX P w K mg base N x st f cdv A outer s H E) (fun cls d _ H => E cls d H) → PassesOwn (model P w) (cxX P w K mg base N x st f cdv A outer s H E).A (cxX P w K mg base N x st f cdv A outer s H E).env (cxX P w K mg base N x st f cdv A outer s H E).xe →
      (∀ ss M r M', R ss M r M' → ∃ t X, PSs (cxX P w K mg base N x st f cdv A outer s H E) (defBody st) t ∧ ((EvS K t (start N.length ss) M (.rt r (M' ++ X)) ∧ ∀ j, r = .o j → j < M'.length) ∨ (∃ G1, EvS K t (start N.length ss) M (.nx G1 (M' ++ X)) ∧ r = .d .non)) ∧ M.length ≤ M'.length) ∧
      (∀ ss M x' M', RX ss M x' M' → ∃ t X G', PSs (cxX P w K mg base N x st f cdv A outer s H E) (defBody st) t ∧ EvR K t (fun cls d _ H => E cls d H) (start N.length ss) M x' G' (M' ++ X) ∧ M.length ≤ M'.length)) :
    CalFX P w K mg base (k + 1) x st ps kws (SpX K n R RX) := by
  obtain ⟨f, fd, F, hm⟩ := D.ex
  refine ⟨f, fd, F.ok S (fun vs H Q E h => ?_) (fun cdv A outer s H vs Q E hr h => ?_), F, hm⟩
  · obtain ⟨_, _, _, _, _, _, _, e, _⟩ := h
    rw [e, hn]
  · obtain ⟨F', B, as, ss, M, ow, sl, _, q⟩ := h
    obtain ⟨h1, h2⟩ := hb f cdv A outer s H E hr (takes_of rfl rfl rfl rfl) (passes_of rfl)
    rcases q with ⟨r, M', hR, q⟩ | ⟨x', M', hR, q⟩
    · obtain ⟨t, X, ht, he, hl⟩ := h1 ss M r M' hR
      rcases he with ⟨he, hr'⟩ | ⟨G1, he, hr'⟩
      · exact ⟨t, ht, run_body (X := X) he hl hr' ow sl q⟩
      · subst hr'
        exact ⟨t, ht, run_bodyN (X := X) he hl ow sl q⟩
    · obtain ⟨t, X, G', ht, he, hl⟩ := h2 ss M x' M' hR
      exact ⟨t, ht, run_bodyX (X := X) he hl ow sl q⟩
theorem CalFX.pos {k n : Nat} {x : Str} {st : Stmt} {ps : List Str} {kws : List (Str × V)} {sp : Sp} (c : CalFX P w K mg base k x st ps kws sp) (hk : kws ≠ []) (hn : n + kws.length = ps.length)
    (h : ∀ (D : Addr) (doc pm : Value) (an : Option Addr) (cdv ct : Value) (us ks : List Value), us.length = n → ks.length = kws.length →
      KwChain D ((kws.map (·.1)).zip ks) (bindArgs (PySem.W.fnOf x x (defArgs st) (defBody st) (defScope st) .none (.ref D) doc pm an cdv ct) ⟨us, []⟩) (ps.zip (us ++ ks))) : CalX P w K mg base k x sp (kws.map (·.2)) := by
  obtain ⟨f, fd, F, U, hm⟩ := c.ex
  obtain ⟨ds, hv, hb⟩ := U.binds0 (ps := ps) n hk hn h
  exact ⟨f, fd, ps, ds, F, hm, U.kp, hb, hv⟩
theorem CalFX.kw {k n : Nat} {x : Str} {st : Stmt} {ps ks : List Str} {kws : List (Str × V)} {sp : Sp} {g : List Value → List Value → List Value} {gV : List V → List V → List V} (c : CalFX P w K mg base k x st ps kws sp)
    (hrel : ∀ {vs : List V} {us : List Value} {zs : List V} {ws : List Value}, Vals vs us → Vals zs ws → Vals (gV vs zs) (g us ws))
    (h : ∀ (kV doc pm : Value) (an : Option Addr) (cdv ct : Value) (us ws : List Value), us.length = n → ws.length = ks.length → bindArgs (PySem.W.fnOf x x (defArgs st) (defBody st) (defScope st) .none kV doc pm an cdv ct) ⟨us, ks.zip ws⟩ = pure (ps.zip (g us ws))) : CalKX P w K mg base k x n ks g gV sp := by
  obtain ⟨f, fd, F, U, hm⟩ := c.ex
  refine ⟨f, fd, ps, F, hm, U.kp, fun s us ws _ l1 l2 => ?_, hrel⟩
  obtain ⟨oc, od, dV, kV, doc, pm, an, cdv, ct, osl, rfl, lk, hcd, hD, hK⟩ := U.ex
  rcases hD with ⟨_, rfl⟩ | ⟨e, _⟩
  · exact .of_eq (h kV doc pm an cdv ct us ws l1 l2)
  · exact absurd rfl e
end
def tCallNX (n m : Nat) (sp : Sp) (gV : List V → List V → List V) (E : L2.St → XK) (t tk : TA) : TE := fun σ H Q => t σ H fun vs H1 => tk σ H1 fun zs H2 => vs.length = n ∧ zs.length = m ∧ sp (gV vs zs) H2 Q (E σ)
section
variable {X : Cx} {k n j : Nat} {x : Str} {ks : List Str} {sp : Sp} {g : List Value → List Value → List Value} {gV : List V → List V → List V} {p pos : Pos} {e : Expr} {es : List Expr} {kws : List Keyword} {t tk : TA} {W : WX}
theorem run_NX {CX : CXT} {f : Addr} {fd : FuncData} {ps : List Str} {E : L2.St → XK} {pins : List (Addr × Obj)} {σ : L2.St} {H : Hp} {s : Shared} {Q : VK} {us ws : List Value} {vs zs : List V} (F : FnOk X.prog X.w X.K X.mg X.base CX k f fd ps sp) (hr : Room k X.A) (hb : KBn X.K fd ps n ks g gV) (hx : PassesAt CX X σ (E σ))
    (I : Inv X pins σ H s) (r : Vals vs us) (rz : Vals zs ws) (l1 : vs.length = n) (l2 : zs.length = ks.length) (h : sp (gV vs zs) H Q (E σ)) : wpAny (model X.prog X.w) X.A (call (.ref f) us (ks.zip ws)) (EP X pins σ Q) X.xe s := by
  have run := F.run X.A X.stack s H ⟨us, ks.zip ws⟩ (g us ws) (gV vs zs) Q (E σ) hr I.env0 (hb.to s us ws I.kIn (r.length.symm.trans l1) (rz.length.symm.trans l2)) (hb.rel r rz) h
  refine wpAny_call (codeAny_mono run fun r s' res => ?_)
  rcases r with e | fl
  · exact hx pins H s e s' I res
  · cases fl with
    | ret u => exact I.after res
    | next => exact (show False from res).elim
    | brk => exact (show False from res).elim
    | cont => exact (show False from res).elim
/-- f(e, .., k = v, ..) -/
theorem pe_cNX (c : CalKX X.prog X.w X.K X.mg X.base k x n ks g gV sp) (tkW : Takes X W) (hr : Room j X.A) (hk : k ≤ j) (hg : Gl X x) (ha : PA X (e :: es) t) (hkw : PK X kws tk)
    (hall : (backToKw pos (keywordEach kws X.env)).all (·.1.isSome) = true := by rfl) (hks : (backToKw pos (keywordEach kws X.env)).filterMap (·.1) = ks := by rfl)
    (hdb : (x == ("__debug__" : Str)) = false := by decide) (he : starEach (e :: es) X.env = (false, eval e X.env) :: starEach es X.env := by rfl)
    (hpl : ((backTo pos (starEach (e :: es) X.env)).any (·.1) || (backToKw pos (keywordEach kws X.env)).any (·.1.isNone)) = false := by rfl) :
    PE X (.Call (.Name x p) (e :: es) kws pos) (tCallNX n ks.length sp gV (WE W) t tk) := by
  obtain ⟨f, fd, ps, F, hm, kp, hb⟩ := c.ex
  constructor
  intro pins s σ H Q I h
  refine wpAny_Call_Name_kw (ld_glob I hg hm ?_ hdb)
  refine PySem.W.callWith_KW (h₀ := X.base) I.ok.mod.kin kp hall (thn (ha.run pos pins s σ H _ I h) fun us s1 got => ?_) hpl he
  obtain ⟨vs, H1, I1, r, q⟩ := got
  refine thn (hkw.run pos pins s1 σ H1 _ I1 q) fun ws s2 got2 => ?_
  obtain ⟨zs, H2, I2, rz, l1, l2, q2⟩ := got2
  refine ⟨I2.kIn, ?_⟩
  rw [hks]
  exact run_NX F (hr.mono hk) hb (passAt tkW σ) I2 r rz l1 l2 q2
/-- f(k = v, ..) -/
theorem pe_cNX0 (c : CalKX X.prog X.w X.K X.mg X.base k x 0 ks g gV sp) (tkW : Takes X W) (hr : Room j X.A) (hk : k ≤ j) (hg : Gl X x) (hkw : PK X kws tk)
    (hall : (backToKw pos (keywordEach kws X.env)).all (·.1.isSome) = true := by rfl) (hks : (backToKw pos (keywordEach kws X.env)).filterMap (·.1) = ks := by rfl)
    (hdb : (x == ("__debug__" : Str)) = false := by decide) (hpl : ((backTo pos (starEach [] X.env)).any (·.1) || (backToKw pos (keywordEach kws X.env)).any (·.1.isNone)) = false := by rfl) :
    PE X (.Call (.Name x p) [] kws pos) (tCallNX 0 ks.length sp gV (WE W) tNil tk) := by
  obtain ⟨f, fd, ps, F, hm, kp, hb⟩ := c.ex
  constructor
  intro pins s σ H Q I h
  refine wpAny_Call_Name_kw (ld_glob I hg hm ?_ hdb)
  refine PySem.W.callWith_KW0 (h₀ := X.base) I.ok.mod.kin kp hall (thn (hkw.run pos pins s σ H _ I h) fun ws s2 got2 => ?_) hpl
  obtain ⟨zs, H2, I2, rz, l1, l2, q2⟩ := got2
  refine ⟨I2.kIn, ?_⟩
  rw [hks]
  exact run_NX (us := []) (vs := []) F (hr.mono hk) hb (passAt tkW σ) I2 .nil rz l1 l2 q2
end
section
variable {K : PySem.W.Frag} {G : List (Option Sl)} {M M1 M2 : List MO} {ta tk : TA} {n m N : Nat} {gV : List V → List V → List V} {R : List Sl → List MO → Sl → List MO → Prop} {RX : List Sl → List MO → Ex → List MO → Prop} {ds es cs : List Dt} {x : Ex} {W : WX}
theorem ev_callNX {E : L2.St → XK} {z : Dt} (h1 : EvA K ta G M (ds.map Sl.d) M1) (h2 : EvA K tk G M1 (es.map Sl.d) M2) (hn : ds.length = n) (hm : es.length = m) (hg : ∀ B vs zs, RpL K B ds vs → RpL K B es zs → RpL K B cs (gV vs zs)) (hc : cs.length = N) (hR : R (cs.map Sl.d) [] (.d z) []) :
    EvE K (tCallNX n m (SpX K N R RX) gV E ta tk) G M (.d z) M2 := fun F B as σ H ow sl Q q =>
  h1 F B as σ H ow sl _ fun vs B1 as1 H1 g1 p1 o1 r1 => h2 F B1 as1 σ H1 o1 (sl.mono g1.1 p1) _ fun zs B2 as2 H2 g2 p2 o2 r2 => by
    have rv := RpL.mono g2.1 _ _ (SlL.data r1)
    have rz := SlL.data r2
    refine ⟨by rw [rv.len]; exact hn, by rw [rz.len]; exact hm, call_coreX hc o2 (hg B2 vs zs rv rz) (.inl ⟨_, _, hR, fun v B' as' H' g o' r' => ?_⟩)⟩
    obtain ⟨g3, o3⟩ := back0 o2 g o'
    exact q v B' as2 H' (g1.trans (g2.trans g3)) (p1.trans p2) o3 r'
theorem ex_callNX (h1 : EvA K ta G M (ds.map Sl.d) M1) (h2 : EvA K tk G M1 (es.map Sl.d) M2) (hn : ds.length = n) (hm : es.length = m) (hg : ∀ B vs zs, RpL K B ds vs → RpL K B es zs → RpL K B cs (gV vs zs)) (hc : cs.length = N) (hR : RX (cs.map Sl.d) [] x []) :
    EvX K (tCallNX n m (SpX K N R RX) gV (WE W) ta tk) W G M x M2 := fun F B as σ H ow sl q Q =>
  h1 F B as σ H ow sl _ fun vs B1 as1 H1 g1 p1 o1 r1 => h2 F B1 as1 σ H1 o1 (sl.mono g1.1 p1) _ fun zs B2 as2 H2 g2 p2 o2 r2 => by
    have rv := RpL.mono g2.1 _ _ (SlL.data r1)
    have rz := SlL.data r2
    refine ⟨by rw [rv.len]; exact hn, by rw [rz.len]; exact hm, call_coreX hc o2 (hg B2 vs zs rv rz) (.inr ⟨_, _, hR, fun cls d B' as' H' g o' r' => ?_⟩)⟩
    obtain ⟨g3, o3⟩ := back0 o2 g o'
    exact q B' as2 H' cls d (g1.trans (g2.trans g3)) (p1.trans p2) o3 r'
end
end LJ
namespace LJ
open PySem PySem.Spec PyProof.Rows L2 LamX DJ
/-! ### a, b, c = x, y, z -/
theorem es_par3 {K : PySem.W.Frag} {G : List (Option Sl)} {M M1 : List MO} {i j l : Nat} {t : TA} {x y z : Sl} (h : EvA K t G M [x, y, z] M1) : EvS K (tPar3 i j l t) G M (.nx (((G.set i (some x)).set j (some y)).set l (some z)) M1) := fun F B as σ H ow sl D gd =>
  h F B as σ H ow sl _ fun vs B' as' H' g p o' r => by
    obtain ⟨v, r1, e1, h1, w, r2, e2, h2, u, r3, e3, h3, e4⟩ := r
    have e4 : r3 = [] := e4
    subst e4; subst e3; subst e2; subst e1
    exact ⟨v, w, u, rfl, gd B' as' _ H' g p o' ((((sl.mono g.1 p).set i h1).set j h2).set l h3)⟩
end LJ
namespace LJ
open PySem PySem.Spec PyProof.Rows L2 LamX DJ
section
variable {K : PySem.W.Frag} {G : List (Option Sl)} {M : List MO}
/-- the second owned thing is handed on -/
theorem ev_w1 {E : XK} {n : Nat} {R : List Sl → List MO → Sl → List MO → Prop} {ta : TA} {ds : List Dt} {t m m' : MO} {z : Dt} (h : EvA K ta G M (.o 1 :: ds.map Sl.d) [t, m]) (hg : m ≠ .gone) (hR : R (.o 0 :: ds.map Sl.d) [m] (.d z) [m']) (hg' : m' ≠ .gone) (hn : ds.length + 1 = n) :
    EvE K (tCall (SpR K n R) [] E ta) G M (.d z) [t, m'] := by
  have e : (.o 1 :: ds.map Sl.d : List Sl).map (to0 1) = .o 0 :: ds.map Sl.d := by
    rw [List.map_cons, List.map_map]
    congr 1
  have := ev_call1 (k := 1) (es := []) (dvs := []) (E := E) (n := n) (R := R) (z := z) h rfl hg (fun s hs j e => ?_) (by rw [e, List.map_nil, List.append_nil]; exact hR) hg' (by rw [List.length_cons, List.length_map]; exact hn) (fun _ => rfl)
  · exact this
  · rcases List.mem_cons.mp hs with z | z
    · rw [e] at z; cases z; rfl
    · obtain ⟨d, _, hd⟩ := List.mem_map.mp z
      rw [e] at hd; cases hd
end
section
variable {P : Program} {w : World} {K : PySem.W.Frag} {mg : Str → Option Value} {base : Heap}
/-- a def whose code object is known -/
theorem fn_mkT {x : Str} {st : Stmt} {N ps : List Str} {k n : Nat} {R : List Sl → List MO → Sl → List MO → Prop} {f c : Addr} {oc : Value} {od an : Option Addr} {osl : Array (Option Value)} {kV doc pm ct : Value}
    (lk : K.lookup f = some ⟨oc, od, .func (PySem.W.fnOf x x (defArgs st) (defBody st) (defScope st) .none kV doc pm an (.ref c) ct), osl⟩) (hcd : PySem.W.codeIn K (.ref c) x = true) (S : FnScope N ps (defScope st)) (hn : ps.length = n)
    (hb : ∀ (A : Around) (outer : List Env) (s : Shared) (H : Hp) (E : XK), Room k (A.deeper (envOfC x (defScope st) s.heap.objs.size f (.ref c))) → ∀ ss M r M', R ss M r M' →
      ∃ t X, PSs (cxOf CX0 P w K mg base N x (defScope st) f (.ref c) A outer s H E).nox (defBody st) t ∧ EvS K t (DJ.start N.length ss) M (.rt r (M' ++ X)) ∧ M.length ≤ M'.length ∧ ∀ j, r = .o j → j < M'.length) :
    FnOk P w K mg base CX0 (k + 1) f (PySem.W.fnOf x x (defArgs st) (defBody st) (defScope st) .none kV doc pm an (.ref c) ct) ps (SpR K n R) := by
  refine fn_of lk hcd S (fun vs H Q E h => ?_) (fun A outer s H vs Q E hr h => ?_)
  · obtain ⟨_, _, _, _, _, _, _, _, _, _, e, _⟩ := h
    rw [e, hn]
  · obtain ⟨F', B, as, ss, M, r, M', hR, ow, sl, _, q⟩ := h
    obtain ⟨t, X, ht, he, hl, hr'⟩ := hb A outer s H E hr ss M r M' hR
    exact ⟨t, PSs.nox ht, run_body (X := X) he hl hr' ow sl q⟩
end
section
variable {X : Cx}
/-- x(lambda: body, ..), x a def of the row -/
theorem pe_lamD {TT : (XK → Hp → VK → Prop) → Addr → List V → Hp → VK → Prop} {x a : Str} {st : Stmt} {c P : Addr} {k : Nat} {Ng ps : List Str} {pr : Arguments} {bd : Expr} {sc : Scope} {es : List Expr} {ta : TA} {t : XK → TE} {dfl : Option Int} {p lpos pos : Pos}
    (D : Df X.K X.mg x st ps) (hg : Gl X x) (Sg : FnScope Ng ps (defScope st)) (hNg : Ng[0]? = some a) (hva : Vis (defScope st) a) (hlen : ∀ tl c' vs H Q, TT tl c' vs H Q → (V.ref c' :: vs).length = ps.length)
    (hG : ∀ (g : Addr) (cdg : Value), GivesG X Ng x (defScope st) g cdg (defBody st) a (X.env.qual ++ "<lambda>") TT)
    (TB : TabB X.base X.mg c P) (hcode : X.env.code = .ref c) (hr : Room (k + 2) X.A) (L : LamN X.N X.env.scope sc) (df : Dfl pr X.env dfl) (lb : LamB pr bd sc dfl) (ha : PA X es ta)
    (hbody : ∀ (A : Around) (outer : List Env) (s : Shared) (H : Hp) (E : XK) (f c' : Addr), Room k (A.deeper (lamEnv X sc s.heap.objs.size f c')) → PE (lamCx X A outer s H E sc f c') bd (t E))
    (hdb : (x == ("__debug__" : Str)) = false := by decide) (hd : (a == ("__debug__" : Str)) = false := by decide) (hcd : (a == ("__classdict__" : Str)) = false := by decide)
    (hst : starEach (.Lambda pr bd sc lpos :: es) X.env = (false, eval (.Lambda pr bd sc lpos) X.env) :: starEach es X.env := by rfl) (hpl : (backTo pos (starEach es X.env)).any (·.1) = false := by rfl)
    (hbt : backTo pos ((false, eval (.Lambda pr bd sc lpos) X.env) :: starEach es X.env) = (false, eval (.Lambda pr bd sc lpos) X.env) :: backTo pos (starEach es X.env) := by rfl) :
    PE X (.Call (.Name x p) (.Lambda pr bd sc lpos :: es) [] pos) (tLamG (X.env.qual ++ "<lambda>") P lpos TT ta t) := by
  obtain ⟨f, fd, F, hm, hb⟩ := D.ex
  obtain ⟨oc, od, kV, doc, pm, an, cdv, ct, osl, rfl, lk, hcd'⟩ := F.ex
  exact pe_lamG (n := 0) hg hm F.kp lk hcd' hb Sg hNg hva hlen (hG f cdv) TB hcode hr L df lb ha hbody hdb hd hcd hst hpl hbt
theorem lam_takes {A : Around} {outer : List Env} {s : Shared} {H : Hp} {E : XK} {sc : Scope} {f c' : Addr} : Takes (lamCx X A outer s H E sc f c') (fun cls d _ H => E cls d H) := takes_of rfl rfl rfl rfl
end
/-- the law's promise from a table that it owns -/
theorem sp_ofT {K : PySem.W.Frag} {R : List Sl → List MO → Sl → List MO → Prop} {H : Hp} {a P : Addr} {q : Str} {ns : List Int} {E : XK} (hP : H P = some (.tbl #[])) (hS : SqL K H a (ns.map V.int)) (hR : R [.d (.lst (ns.map .int))] [tabM P q] (.d (.bl true)) [tabM P q]) : SpR K 1 R [.ref a] H (fun v _ => v = .bl true) E := by
  have same : Same (del H P) H := fun b o e => by
    by_cases z : b = P
    · rw [z, del_same] at e; cases e
    · rwa [del_ne z] at e
  have hS' : SqL K (del H P) a (ns.map V.int) := by
    rcases hS with h | h
    · have ne : a ≠ P := fun z => by
        rw [z] at h
        rcases h with h | ⟨o, h⟩ <;> rw [hP] at h <;> cases h
      exact .inl (h.imp (fun h => by rwa [del_ne ne]) fun ⟨o, h⟩ => ⟨o, by rwa [del_ne ne]⟩)
    · exact .inr h
  have ri : ∀ ns : List Int, RpL K (del H P) (ns.map Dt.int) (ns.map V.int) := fun ns => by
    induction ns with
    | nil => rfl
    | cons n ns ih => exact ⟨_, _, rfl, rfl, ih⟩
  refine ⟨fun _ => none, del H P, [P], _, [tabM P q], _, [tabM P q], hR, ⟨fun _ _ e => (nomatch e), same, rfl, List.nodup_cons.mpr ⟨(fun z => nomatch z), List.nodup_nil⟩, fun b hb => ?_, fun _ _ => rfl, fun k b m e1 e2 _ => ?_⟩, ⟨.ref a, [], rfl, ⟨a, _, rfl, hS', ri ns⟩, rfl⟩, rfl, fun v B' as' H' _ _ _ r => r⟩
  · rw [List.mem_singleton.mp hb, hP]; exact fun z => nomatch z
  · cases k with
    | zero =>
      cases e1; cases e2
      exact ⟨rfl, del_same, _, hP, (fun _ z => nomatch z), (fun B' _ => ⟨rfl, _, rfl, trivial, (fun p u z => nomatch z)⟩)⟩
    | succ k => cases e1
end LJ
namespace LJ
open PySem PySem.Spec PyProof.Rows L2 LamX DJ
section
variable {K : PySem.W.Frag} {mg : Str → Option Value} {h : Heap}
/-- a def with one keyword-only parameter that has a whole number as default -/
theorem dfk_int {x y : Str} {st : Stmt} {i : Int} {t : Tok} {f D : Addr} {oc : Value} {od an : Option Addr} {osl : Array (Option Value)} {doc pm cdv ct : Value} (X : K.In h) (G : h.Ns mainGlobals mg) (a : PySem.W.nsIn K mainGlobals x = some (some (.ref f)))
    (l : K.lookup f = some ⟨oc, od, .func (PySem.W.fnOf x x (defArgs st) (defBody st) (defScope st) .none (.ref D) doc pm an cdv ct), osl⟩) (c : PySem.W.codeIn K cdv x = true) (k : PySem.W.keepIn K (.ref f) = true) (kw : PySem.W.nsIn K D y = some (some (.int i t))) : DfK K mg x st [(y, .int i)] :=
  ⟨f, _, ⟨⟨oc, od, .none, .ref D, doc, pm, an, cdv, ct, osl, rfl, l, c, .inl ⟨rfl, rfl⟩, .inr ⟨D, rfl, fun q hq => by
    rw [List.mem_singleton.mp hq]
    exact ⟨_, kw, ⟨_, rfl⟩⟩⟩⟩, k⟩, PySem.W.mg_of X G a⟩
/-- a class's __init__ with the default None -/
theorem init_none {qn : Str} {st : Stmt} {fI T : Addr} {oc : Value} {od an : Option Addr} {osl qs : Array (Option Value)} {qc : Value} {qo : Option Addr} {qi : Array Value} {qk : Nat} {kV doc pm cdv ct : Value}
    (l : K.lookup fI = some ⟨oc, od, .func (PySem.W.fnOf "__init__" qn (defArgs st) (defBody st) (defScope st) (.ref T) kV doc pm an cdv ct), osl⟩) (c : PySem.W.codeIn K cdv qn = true) (k : PySem.W.keepIn K (.ref fI) = true) (r : K.lookup T = some ⟨qc, qo, .seq qi qk, qs⟩) (e : qi = #[.none]) :
    FunD K "__init__" qn (defArgs st) (defBody st) (defScope st) [.non] [] fI (PySem.W.fnOf "__init__" qn (defArgs st) (defBody st) (defScope st) (.ref T) kV doc pm an cdv ct) := by
  subst e
  exact ⟨⟨oc, od, .ref T, kV, doc, pm, an, cdv, ct, osl, rfl, l, c, .inr ⟨List.cons_ne_nil _ _, T, _, [.none], qk, rfl, r, rfl, .cons rfl .nil⟩, .inl rfl⟩, k⟩
end
end LJ
namespace LJ
open PySem PySem.Spec PyProof.Rows L2 LamX DJ
section
variable {K : PySem.W.Frag} {G : List (Option Sl)} {M M1 M2 : List MO}
/-- one owned thing of several is handed on -/
theorem ev_wG {E : XK} {n k : Nat} {R : List Sl → List MO → Sl → List MO → Prop} {ta : TA} {ds : List Dt} {m m' : MO} {z : Dt} (h : EvA K ta G M (.o k :: ds.map Sl.d) M1) (hm : M1[k]? = some m) (hg : m ≠ .gone) (hR : R (.o 0 :: ds.map Sl.d) [m] (.d z) [m']) (hg' : m' ≠ .gone) (hn : ds.length + 1 = n) :
    EvE K (tCall (SpR K n R) [] E ta) G M (.d z) (M1.set k m') := by
  have e : (.o k :: ds.map Sl.d : List Sl).map (to0 k) = .o 0 :: ds.map Sl.d := by
    rw [List.map_cons, List.map_map]
    show (if k = k then Sl.o 0 else .o k) :: _ = _
    rw [if_pos rfl]
    congr 1
  refine ev_call1 (k := k) (es := []) (dvs := []) (E := E) (n := n) (R := R) (z := z) h hm hg (fun s hs j e => ?_) (by rw [e, List.map_nil, List.append_nil]; exact hR) hg' (by rw [List.length_cons, List.length_map]; exact hn) (fun _ => rfl)
  rcases List.mem_cons.mp hs with z | z
  · rw [e] at z; cases z; rfl
  · obtain ⟨d, _, hd⟩ := List.mem_map.mp z
    rw [e] at hd; cases hd
/-- all that is owned is handed on -/
theorem ev_callA {E : XK} {n : Nat} {R : List Sl → List MO → Sl → List MO → Prop} {ta : TA} {ss : List Sl} {z : Dt} (h : EvA K ta G M ss M1) (hR : R ss M1 (.d z) M2) (hn : ss.length = n) : EvE K (tCall (SpR K n R) [] E ta) G M (.d z) M2 := fun F B as σ H ow sl Q q =>
  h F B as σ H ow sl _ fun vs B1 as1 H1 g1 p1 o1 r1 => by
    refine ⟨F, B1, as1, ss, M1, .d z, M2, hR, o1, by rw [List.append_nil]; exact r1, by rw [List.append_nil, r1.len]; exact hn, fun v B' as' H' g p o' r' => q v B' as' H' (g1.trans g) (p1.trans p) o' r'⟩
/-- [..].index(x) of texts and None -/
def vO : Option (List Nat) → V
  | some l => .str (tx l)
  | none => .non
theorem vO_eq (a b : Option (List Nat)) : eqV (vO a) (vO b) = decide (a = b) := by
  cases a with
  | none => cases b with
    | none => rfl
    | some m => rfl
  | some l => cases b with
    | none => rfl
    | some m =>
      show decide (tx l = tx m) = _
      by_cases e : l = m
      · subst e; simp
      · rw [decide_eq_false (fun h => e (tx_inj h)), decide_eq_false (fun z => e (by injection z))]
theorem rp_oS {B : Hp} {o : Option (List Nat)} {v : V} (h : Rp K B (oS o) v) : v = vO o := by
  cases o with
  | none => exact h
  | some l => exact h
theorem rpl_oS {B : Hp} : ∀ {xs : List (Option (List Nat))} {vs : List V}, RpL K B (xs.map oS) vs → vs = xs.map vO
  | [], _, h => h
  | o :: xs, _, ⟨v, r, e, h1, h2⟩ => by
    rw [e, rp_oS h1, rpl_oS h2] <;> rfl
theorem flat_oS : ∀ xs : List (Option (List Nat)), (xs.map vO).all flatV = true
  | [] => rfl
  | none :: xs => flat_oS xs
  | some l :: xs => flat_oS xs
theorem ev_idx {to te : TE} {xs : List (Option (List Nat))} {o : Option (List Nat)} {j : Nat} (h : EvE K to G M (.d (.lst (xs.map oS))) M1) (h2 : EvE K te G M1 (.d (oS o)) M2) (hj : xs[j]? = some o) (hn : ∀ m, m < j → xs[m]? ≠ some o) :
    EvE K (tBM K "list" (rIndex K) to (tCons te tNil)) G M (.d (.int (j : Nat))) M2 := fun F B as σ H ow sl Q q =>
  h F B as σ H ow sl _ fun v B1 as1 H1 g1 p1 o1 r1 => by
    obtain ⟨a, vs, rfl, hs, hr⟩ := r1
    have e := rpl_oS hr
    subst e
    refine ⟨.inl ⟨rfl, _, o1.bb.seq hs⟩, h2 F B1 as1 σ H1 o1 (sl.mono g1.1 p1) _ fun u B2 as2 H2 g2 p2 o2 r2 => ?_⟩
    have eu := rp_oS r2
    subst eu
    have hs2 : SqL K B2 a (xs.map vO) := g2.1.seq hs
    refine ⟨a, xs.map vO, vO o, j, vO o, rfl, rfl, o2.bb.seq hs2, by cases o <;> rfl, flat_oS xs, by rw [List.getElem?_map, hj] <;> rfl, by rw [vO_eq, decide_eq_true rfl], fun m z' hm hz => ?_, q _ B2 as2 H2 (g1.trans g2) (p1.trans p2) o2 rfl⟩
    rw [List.getElem?_map] at hz
    cases e : xs[m]? with
    | none => rw [e] at hz; cases hz
    | some y =>
      rw [e] at hz
      have hz : vO y = z' := Option.some.inj hz
      rw [← hz, vO_eq, decide_eq_false]
      intro z
      exact hn m hm (by rw [e, z])
end
section
variable {P : Program} {w : World} {K : PySem.W.Frag} {mg : Str → Option Value} {base h : Heap}
/-- a def whose code object is known -/
structure DfT (K : PySem.W.Frag) (mg : Str → Option Value) (x : Str) (st : Stmt) (ps : List Str) (c : Addr) : Prop where
  ex : ∃ (f : Addr) (oc : Value) (od an : Option Addr) (osl : Array (Option Value)) (kV doc pm ct : Value), K.lookup f = some ⟨oc, od, .func (PySem.W.fnOf x x (defArgs st) (defBody st) (defScope st) .none kV doc pm an (.ref c) ct), osl⟩ ∧ PySem.W.codeIn K (.ref c) x = true ∧
    PySem.W.keepIn K (.ref f) = true ∧ mg x = some (.ref f) ∧ L2.Binds K (PySem.W.fnOf x x (defArgs st) (defBody st) (defScope st) .none kV doc pm an (.ref c) ct) ps []
theorem cal_mkT {x : Str} {st : Stmt} {N ps : List Str} {k n : Nat} {R : List Sl → List MO → Sl → List MO → Prop} {c : Addr} (D : DfT K mg x st ps c) (S : FnScope N ps (defScope st)) (hn : ps.length = n)
    (hb : ∀ (f : Addr) (A : Around) (outer : List Env) (s : Shared) (H : Hp) (E : XK), Room k (A.deeper (envOfC x (defScope st) s.heap.objs.size f (.ref c))) → ∀ ss M r M', R ss M r M' →
      ∃ t X, PSs (cxOf CX0 P w K mg base N x (defScope st) f (.ref c) A outer s H E).nox (defBody st) t ∧ EvS K t (DJ.start N.length ss) M (.rt r (M' ++ X)) ∧ M.length ≤ M'.length ∧ ∀ j, r = .o j → j < M'.length) : Cal P w K mg base (k + 1) x (SpR K n R) [] := by
  obtain ⟨f, oc, od, an, osl, kV, doc, pm, ct, lk, hcd, kp, hm, hbd⟩ := D.ex
  exact ⟨f, _, ps, [], fn_mkT lk hcd S hn (hb f), hm, kp, hbd, .nil⟩
theorem dft_mk {x : Str} {st : Stmt} {ps : List Str} {f c : Addr} {oc : Value} {od an : Option Addr} {osl : Array (Option Value)} {kV doc pm ct : Value} (X : K.In h) (G : h.Ns mainGlobals mg) (a : PySem.W.nsIn K mainGlobals x = some (some (.ref f)))
    (l : K.lookup f = some ⟨oc, od, .func (PySem.W.fnOf x x (defArgs st) (defBody st) (defScope st) .none kV doc pm an (.ref c) ct), osl⟩) (hc : PySem.W.codeIn K (.ref c) x = true) (k : PySem.W.keepIn K (.ref f) = true)
    (hb : ∀ (kV doc pm : Value) (an : Option Addr) (cdv ct : Value) (us : List Value), us.length = ps.length → bindArgs (PySem.W.fnOf x x (defArgs st) (defBody st) (defScope st) .none kV doc pm an cdv ct) ⟨us, []⟩ = pure (ps.zip us)) : DfT K mg x st ps c :=
  ⟨f, oc, od, an, osl, kV, doc, pm, ct, l, hc, k, PySem.W.mg_of X G a, (fun_mk l hc k).binds hb⟩
end
end LJ
namespace PySem.W
open PySem PySem.Spec PySem.Calls PyProof.Rows
section
variable {prog : Program} {w : World} {A : Around} {E : Value → Shared → Prop} {s : Shared} {K : Frag} {x D : Addr} {ox : Obj} {od : Option Obj}
/-- a data descriptor stands ahead of what an instance's own dict holds -/
theorem dj_found {C : Addr} {nm : Str} {a g : Value} (hc : (clsIn K C).isSome = true) (f1 : findIn K (.ref C) nm = some (some a)) (f2 : specialIn K a "__get__" = some (some g)) (f3 : takesIn K a = some true) : findObj K C od nm = some (.bind g a) := by
  cases hq : clsIn K C with
  | none => rw [hq] at hc; cases hc
  | some cd =>
    unfold findObj
    simp [hq, f1, f2, f3]
/-- the class of a caught error, whatever its dict holds -/
theorem dj_class {Q : Option Value → Shared → Prop} (c1 : findIn K (.ref D) "__getattribute__" = some (some (.builtin "BaseException.__getattribute__"))) (c2 : findIn K (.ref D) "__getattr__" = some none) (c3 : subIn K (.ref D) (.type "BaseException") = some true)
    (c4 : hasDictIn K D = true) (c5 : findIn K (.ref D) "__class__" = some (some (.builtin "object.__class__")))
    (c6 : specialIn K (.builtin "object.__class__") "__get__" = some (some (.builtin "getset_descriptor.__get__"))) (c7 : takesIn K (.builtin "object.__class__") = some true) (c8 : mroIn K D (.type "object") = some true)
    (X : K.In s.heap) (I : InstAt s.heap x ox D od) (want : Q (some (.ref D)) { s with toks := s.toks + 1 }) : wpAny (model prog w) A (getAttr? (.ref x) "__class__") Q E s := by
  obtain ⟨hp, gn, dr, tk, os⟩ := s
  have isE : (Value.builtin "BaseException.__getattribute__" == Value.builtin "object.__getattribute__") = false := by decide +kernel
  have lT := I.type (M := model prog w)
  have lA := looks_findIn (M := model prog w) X c1
  have lB := looks_findIn (M := model prog w) X c2
  have lF := looks_find (M := model prog w) X I (dj_found (od := od) (by
    obtain ⟨cd, e, _⟩ := any_some c4
    rw [e]
    rfl) c5 c6 c7)
  have lS : Looks (model prog w) hp (isInstance (.ref x) (.type "BaseException")) true := lT.andThen (looks_subIn X c3)
  unfold getAttr? getAttrBy? getAttrBy
  refine wpAny_bind (wpAny_mkText ?_)
  refine wpAny_bind (wpAny_attempt ?_)
  refine wpAny_holding (wpAny_bind ?_)
  refine lT.at (wpAny_bind ?_)
  refine lA.at ?_
  show wpAny _ _ (if (true && Value.builtin "BaseException.__getattribute__" == Value.builtin "object.__getattribute__") = true then _ else _) _ _ _
  rw [isE, Bool.and_false, if_neg (by decide)]
  unfold getAttrByItsOwn hookBefore
  refine wpAny_bind ?_
  rw [if_pos (by rfl)]
  refine lB.at (wpAny_bind ?_)
  refine wpAny_attempt (wpAny_holding ?_)
  unfold callGetattribute
  rw [show (false && onTheHeap (Value.builtin "BaseException.__getattribute__")) = false from rfl, if_neg (by decide)]
  unfold boundAndCalled
  rw [PySem.F.excAttr_ValueError.ga.bind (.ref x)]
  refine wpAny_bind (wpAny_pure ?_)
  show wpAny _ _ (call (.builtin "BaseException.__getattribute__") [.ref x, .str "__class__" tk]) _ _ _
  refine wpAny_call ?_
  refine codeAny_call_builtin PySem.F.excAttr_ValueError.ga.plain PySem.F.entry_bexc_ga ?_
  refine @check_slot (model prog w) _ _ ⟨hp, gn, dr, tk + 1, os⟩ "BaseException.__getattribute__" "BaseException" "__getattribute__" (.ref x) [.str "__class__" tk] [] _
    (by decide +kernel) (by decide +kernel) lS (PySem.F.args_bexc_ga (.ref x) (.str "__class__" tk)) ?_
  unfold Builtin.«object.__getattribute__»
  refine wpAny_bind (wpAny_of_eq (a := ((Value.ref x : Value), [Value.str "__class__" tk])) (by first
    | rfl
    | (simp only [slotArgs]; rfl)) ?_)
  refine wpAny_bind (wpAny_pure ?_)
  refine wpAny_bind (lT.at ?_)
  refine wpAny_bind (lF.at ?_)
  show wpAny _ _ (holding [Value.builtin "object.__class__"] (call (.builtin "getset_descriptor.__get__") [.builtin "object.__class__", .ref x, .ref D]) >>= ret) _ _ _
  refine wpAny_bind (wpAny_holding ?_)
  refine wpAny_call (class_get (s := ⟨hp, gn, dr, tk + 1, os⟩) (ox := ox) (od := od) X I c8 ?_)
  refine wpAny_pure ?_
  show wpAny _ _ (handedOut (.ref D)) _ _ _
  rw [handedOut_of (v := .ref D) rfl]
  first
    | exact wpAny_pure (wpAny_pure want)
    | exact wpAny_pure want
    | exact wpAny_pure (wpAny_bind (wpAny_pure (wpAny_pure want)))
end
end PySem.W
namespace L2
open PySem PySem.Spec PyProof.Rows DJ
/-- isinstance(e, c), e a caught error that keeps something -/
def rIsX (K : PySem.W.Frag) (D a : Addr) (cls : Value) (d : Option Addr) : List V → Hp → VK → Prop := fun xs H Q => ∃ (c : V) (cv : Value) (b : Bool) (dd : Addr) (fs : List (Str × V)), xs = [.ref a, c] ∧ cls = .ref D ∧ d = some dd ∧ H dd = some (.xd fs) ∧ (∀ u, RelV c u → u = cv) ∧ PySem.W.kitOne K (.ref D) cv = some b ∧ Q (.bl b) H
theorem call_isX {X : Cx} {a D : Addr} {cls : Value} {d : Option Addr} {oe : Obj} {pn : List (Addr × Obj)} (C : ExcC X.K D) (hz : Zc cls d oe) (hf : ∃ vs, oe.data = .fields vs) : CallR (X.suite a ((a, oe) :: pn)) (.builtin "isinstance") (rIsX X.K D a cls d) := by
  intro pins s σ H xs us Q I r h
  obtain ⟨c, cv, b, dd, fs, rfl, rfl, rfl, hd, hcv, e, q⟩ := h
  obtain ⟨u1, u2, rfl, r1, r2⟩ := r.two
  cases (show u1 = Value.ref a from r1)
  cases hcv _ r2
  obtain ⟨hget, _⟩ := I.pin (a, oe) (List.mem_append.mpr (.inl List.mem_cons_self))
  obtain ⟨vs, hv⟩ := hf
  obtain ⟨mA, ⟨o, es, ep, ho, _⟩, _⟩ := (show ObjOk X.prog X.w H s.heap dd (.xd fs) from I.hok dd _ hd)
  obtain ⟨oc, od, oda, osl⟩ := oe
  obtain ⟨h1, h2⟩ := hz
  have h1 : oc = .ref D := h1
  have h2 : od = some dd := h2
  have hv : oda = .fields vs := hv
  subst h1; subst h2; subst hv
  have J : ∃ o, PySem.W.InstAt s.heap a ⟨.ref D, some dd, .fields vs, osl⟩ D (some o) := ⟨o, hget, rfl, rfl, ho⟩
  have cd : ∃ cd, PySem.W.clsIn X.K D = some cd := by
    obtain ⟨cd, e, _⟩ := PySem.W.any_some C.hd
    exact ⟨cd, e⟩
  have Z : PySem.W.KitX X.K (.ref a) (.ref D) (fun h => ∃ o, PySem.W.InstAt h a ⟨.ref D, some dd, .fields vs, osl⟩ D (some o)) := by
    refine ⟨fun M h X I => I.elim fun o I => I.type, fun M h XX _ => ?_, fun h tp d0 its n sl XX htp => ?_, fun XX I k => I.elim fun o I => PySem.W.dj_class C.hg C.hk C.hs C.hd C.ha C.hn C.ht C.hm XX I k⟩
    · obtain ⟨cd, hcd⟩ := cd
      unfold PySem.W.clsIn at hcd
      split at hcd
      · rename_i c2 d2 cd2 sl2 ho2
        intro A2 Q2 E2 s2 keep q2
        unfold isType loadHead
        refine wpAny_bind ?_
        exact wpAny_loadPart (keep _ _ (XX _ _ ho2)) (wpAny_pure q2)
      · cases hcd
    · obtain ⟨cd, hcd⟩ := cd
      rcases hb : (Value.ref D == Value.ref tp) with _ | _
      · rfl
      · have same : D = tp := Value.ref.inj (beq_iff_eq.mp hb)
        subst same
        unfold PySem.W.clsIn at hcd
        split at hcd
        · rename_i c2 d2 cd2 sl2 ho2
          have clash := (XX _ _ ho2).symm.trans htp
          cases clash
        · cases hcd
  exact PySem.W.kia_one Z I.kIn J e (fun z => nomatch z) fun tk => ⟨.bl b, H, I.kept (t' := tk) fun _ _ z => z, rfl, q⟩
end L2
namespace LJ
open PySem PySem.Spec PyProof.Rows L2 LamX DJ
/-! ### kinds of things -/
inductive KT : Dt → String → Prop where
  | non : KT .non "NoneType"
  | bl (b : Bool) : KT (.bl b) "bool"
  | int (i : Int) : KT (.int i) "int"
  | str (x : List Nat) : KT (.str x) "str"
  | lst (xs : List Dt) : KT (.lst xs) "list"
  | tup (xs : List Dt) : KT (.tup xs) "tuple"
  | dic : KT dic0 "dict"
def tupX (K : PySem.W.Frag) (xs : List Dt) : Dt := .ext fun H v => ∃ p vs, v = .ref p ∧ H p = some (.tup vs) ∧ RpL K H xs vs
section
variable {K : PySem.W.Frag} {B : Hp} {d : Dt} {t : String} {b : Bool} {G : List (Option Sl)} {M M1 : List MO}
theorem KT.at (k : KT d t) {F : Hp} {as : List Addr} {M : List MO} {H : Hp} {v : V} (ow : Ow K F B as M H) (r : Rp K B d v) : TyX K H v (.type t) := by
  cases k with
  | non => cases (show v = .non from r); exact .base .non
  | bl x => cases (show v = .bl x from r); exact .base (.bl x)
  | int x => cases (show v = .int x from r); exact .base (.int x)
  | str x => cases (show v = .str (tx x) from r); exact .base (.str _)
  | lst xs =>
    obtain ⟨a, vs, rfl, h1, h2⟩ := r
    rcases h1 with (h | ⟨o, h⟩) | ⟨o, its, n, h, hc, _⟩
    · exact .base (.lst (ow.bb _ _ h))
    · exact .base (.frz (ow.bb _ _ h))
    · exact .kList h hc
  | tup xs =>
    obtain ⟨a, vs, rfl, h1, h2⟩ := r
    rcases h1 with (h | ⟨o, h⟩) | ⟨o, its, n, h, hc, _⟩
    · exact .base (.tup (ow.bb _ _ h))
    · exact .fTuple (ow.bb _ _ h)
    · exact .kTuple h hc
  | dic =>
    obtain ⟨a, rfl, h⟩ := r B (Same.refl B)
    exact .base (.dK (ow.bb _ _ h))
theorem rc_isN {n : String} (k : KT d t) (hb : kitB t n = some b) : RC K (rIsi K) [d, .raw (.ty n)] (.bl b) := fun F B as M H vs Q ow r q => by
  obtain ⟨v, r1, e1, h1, w, r2, e2, h2, e3⟩ := r
  have h2 : w = V.ty n := h2
  have e3 : r2 = [] := e3
  subst e3; subst e2; subst e1; subst h2
  exact ⟨v, _, _, _, b, rfl, .ty n, k.at ow h1, kit_ty hb, q _ B H (Gr.refl F B) ow rfl⟩
theorem ev_tupX {tr : TA} {xs : List Dt} (ha : EvA K tr G M (xs.map Sl.d) M1) (hl : xs.length ≤ 1000) : EvE K (tTup tr) G M (.d (tupX K xs)) M1 := fun F B as σ H o sl Q q =>
  ha F B as σ H o sl _ fun vs B1 as1 H1 g1 p1 o1 r1 => ⟨by rw [r1.len, List.length_map]; exact Nat.le_trans hl (by decide), fun p hp => by
    have g2 := o1.gr hp (.tup vs)
    exact q _ _ as1 _ (g1.trans g2) p1 (o1.new hp _) fun H' s => ⟨p, vs, rfl, s _ _ upd_same, RpL.mono (g2.1.trans s) _ _ (SlL.data r1)⟩⟩
theorem rc_isT {n m : String} {b1 b2 : Bool} (k : KT d t) (h1 : kitB t n = some b1) (h2 : kitB t m = some b2) : RC K (rIsiT K) [d, tupX K [.raw (.ty n), .raw (.ty m)]] (.bl (b1 || b2)) := fun F B as M H vs Q ow r q => by
  obtain ⟨v, r1, e1, hv, w, r2, e2, hw, e3⟩ := r
  have e3 : r2 = [] := e3
  subst e3; subst e2; subst e1
  obtain ⟨p, us, rfl, hp, hu⟩ := hw B (Same.refl B)
  obtain ⟨x1, y1, f1, g1, x2, y2, f2, g2, f3⟩ := hu
  have g1 : x1 = V.ty n := g1
  have g2 : x2 = V.ty m := g2
  have f3 : y2 = [] := f3
  subst f3; subst f2; subst f1; subst g1; subst g2
  refine ⟨v, p, _, _, [.type n, .type m], b1 || b2, rfl, ow.bb _ _ hp, .cons (.ty n) (.cons (.ty m) .nil), k.at ow hv, ?_, q _ B H (Gr.refl F B) ow rfl⟩
  have k1 : PySem.W.kitOne K (.type t) (.type n) = some b1 := kit_ty h1
  have k2 : PySem.W.kitOne K (.type t) (.type m) = some b2 := kit_ty h2
  show (match PySem.W.kitOne K (.type t) (.type n) with
    | some true => some true
    | some false => (match PySem.W.kitOne K (.type t) (.type m) with
      | some true => some true
      | some false => some false
      | none => none)
    | none => none) = _
  rw [k1, k2]
  cases b1 <;> cases b2 <;> rfl
theorem rc_isX {D a : Addr} {dd : Option Addr} {f : Str} {y : Dt} {C2 : Addr} (hk : PySem.W.kitOne K (.ref D) (.ref C2) = some b) : RC K (rIsX K D a (.ref D) dd) [XfR K a dd f y, .raw (.ref C2)] (.bl b) := fun F B as M H vs Q ow r q => by
  obtain ⟨v, r1, e1, hv, w, r2, e2, hw, e3⟩ := r
  have e3 : r2 = [] := e3
  have hw : w = V.ref C2 := hw
  subst e3; subst e2; subst e1; subst hw
  obtain ⟨rfl, d2, u, ed, eb, _⟩ := hv B (Same.refl B)
  exact ⟨_, .ref C2, b, d2, _, rfl, rfl, ed, ow.bb _ _ eb, fun u ru => ru, hk, q _ B H (Gr.refl F B) ow rfl⟩
end
/-! ### defs that want no guard to be up -/
structure FnG (P : Program) (w : World) (K : PySem.W.Frag) (mg : Str → Option Value) (base : Heap) (k : Nat) (f : Addr) (fd : FuncData) (ps : List Str) (sp : Sp) : Prop where
  len : ∀ vs H Q E, sp vs H Q E → vs.length = ps.length
  go : ∀ (A : Around) (outer : List Env) (s : Shared) (H : Hp) (args : Args) (us : List Value) (vs : List V) (Q : VK) (E : XK), A.guards = some [] → Room k A → Env0 P w K mg base A outer s H → BindsTo s fd args (ps.zip us) → Vals vs us → sp vs H Q E →
    codeAny (model P w) A (.call (.ref f) args) (CR CX0 outer P w H s Q E) s
structure CalG (P : Program) (w : World) (K : PySem.W.Frag) (mg : Str → Option Value) (base : Heap) (k : Nat) (x : Str) (sp : Sp) : Prop where
  ex : ∃ (f : Addr) (fd : FuncData) (ps : List Str), FnG P w K mg base k f fd ps sp ∧ mg x = some (.ref f) ∧ PySem.W.keepIn K (.ref f) = true ∧ L2.Binds K fd ps []
section
variable {P : Program} {w : World} {K : PySem.W.Frag} {mg : Str → Option Value} {base : Heap}
theorem fn_g {k : Nat} {f : Addr} {nm ql : Str} {pr : Arguments} {bd : List Stmt} {sc : Scope} {dV kV dc pm cv ct oc : Value} {an od : Option Addr} {sl : Array (Option Value)} {N ps : List Str} {sp : Sp}
    (lk : K.lookup f = some ⟨oc, od, .func (PySem.W.fnOf nm ql pr bd sc dV kV dc pm an cv ct), sl⟩) (hcd : PySem.W.codeIn K cv ql = true) (S : FnScope N ps sc) (len : ∀ vs H Q E, sp vs H Q E → vs.length = ps.length)
    (body : ∀ (A : Around) (outer : List Env) (s : Shared) (H : Hp) (vs : List V) (Q : VK) (E : XK), A.guards = some [] → Room k (A.deeper (envOfC ql sc s.heap.objs.size f cv)) → sp vs H Q E →
      ∃ t, PSs (cxOf CX0 P w K mg base N ql sc f cv A outer s H E) bd t ∧ t { nx := fun _ H' => Q .non H', rt := Q } (L2.start N vs) H) :
    FnG P w K mg base (k + 1) f (PySem.W.fnOf nm ql pr bd sc dV kV dc pm an cv ct) ps sp := by
  refine ⟨len, ?_⟩
  intro A outer s H args us vs Q E hgd hrm e0 bnd rel want
  have nvs := len _ _ _ _ want
  have inH : K.In s.heap := e0.mod.kin.keeps fun b o z => (e0.bs b o z).1
  have noLim : s.heap.NoLimit := e0.mod.nolimit.keeps fun b o z => (e0.bs b o z).1
  have kinds : ∀ y ∈ ps.zip us, sc.names.lookup y.1 = some .local ∨ (sc.names.lookup y.1 = some .cell ∧ ((cellsFrom (s.heap.objs.size + 1) sc.names []).lookup y.1).isSome = true) := by
    rintro ⟨n, v⟩ hy
    rcases S.par n (List.of_mem_zip hy).1 with z | z
    · exact Or.inl z
    · exact Or.inr ⟨z, PySem.W.cellsFrom_some _ _ _ (Or.inl z)⟩
  refine codeAny_call_function hrm.depth (inH _ _ lk) rfl S.co S.gen rfl (PySem.W.codeRec_of inH hcd) (bnd _ _ _ _ (wpAny_newFunctionEnv_cells S.kind kinds fun env henv s1 st => ?_))
  subst henv
  obtain ⟨t, ht, run⟩ := body A outer s H vs Q E hgd (hrm.deeper _) want
  have inv0 : L2.Inv (cxOf CX0 P w K mg base N ql sc f cv A outer s H E) [] (L2.start N vs) H s1 := inv_start S hrm.hd e0 nvs rel st
  refine ⟨noLim.keeps st.toInCall.keep, codeAny_func (wpAny_mono (ht.run [] s1 (L2.start N vs) H _ inv0 run) (fun fl s2 hs => ?_) fun _ _ z => z)⟩
  cases fl with
  | ret u =>
    obtain ⟨v, σ', H', J, rv, q⟩ := hs
    exact ⟨v, H', J.os, J.bare, J.base, J.hok, rv, q⟩
  | next =>
    obtain ⟨σ', H', J, q⟩ := hs
    exact ⟨.non, H', J.os, J.bare, J.base, J.hok, rfl, q⟩
  | brk => exact (let ⟨_, _, _, q⟩ := hs; q.elim)
  | cont => exact (let ⟨_, _, _, q⟩ := hs; q.elim)
theorem cal_mkG {x : Str} {st : Stmt} {N ps : List Str} {k n : Nat} {R : List Sl → List MO → Sl → List MO → Prop} (D : Df K mg x st ps) (S : FnScope N ps (defScope st)) (hn : ps.length = n)
    (hb : ∀ (f : Addr) (cdv : Value) (A : Around) (outer : List Env) (s : Shared) (H : Hp) (E : XK), (A.deeper (envOfC x (defScope st) s.heap.objs.size f cdv)).guards = some [] → Room k (A.deeper (envOfC x (defScope st) s.heap.objs.size f cdv)) → ∀ ss M r M', R ss M r M' →
      ∃ t X, PSs (cxOf CX0 P w K mg base N x (defScope st) f cdv A outer s H E).nox (defBody st) t ∧ EvS K t (DJ.start N.length ss) M (.rt r (M' ++ X)) ∧ M.length ≤ M'.length ∧ ∀ j, r = .o j → j < M'.length) : CalG P w K mg base (k + 1) x (SpR K n R) := by
  obtain ⟨f, fd, F, hm, b⟩ := D.ex
  obtain ⟨oc, od, kV, doc, pm, an, cdv, ct, osl, rfl, lk, hcd⟩ := F.ex
  refine ⟨f, _, ps, fn_g lk hcd S (fun vs H Q E h => ?_) (fun A outer s H vs Q E hgd hr h => ?_), hm, F.kp, b⟩
  · obtain ⟨_, _, _, _, _, _, _, _, _, _, e, _⟩ := h
    rw [e, hn]
  · obtain ⟨F', B, as, ss, M, r, M', hR, ow, sl, _, q⟩ := h
    obtain ⟨t, X, ht, he, hl, hr'⟩ := hb f cdv A outer s H E hgd hr ss M r M' hR
    exact ⟨t, ht.nox, run_body (X := X) he hl hr' ow sl q⟩
end
section
variable {X : Cx} {k j : Nat} {x : Str} {sp : Sp} {p pos : Pos} {e : Expr} {es : List Expr} {t : TA}
theorem pe_cG (c : CalG X.prog X.w X.K X.mg X.base k x sp) (hgd : X.A.guards = some []) (hr : Room j X.A) (hk : k ≤ j) (hg : Gl X x) (ha : PA X (e :: es) t)
    (hdb : (x == ("__debug__" : Str)) = false := by decide) (he : starEach (e :: es) X.env = (false, eval e X.env) :: starEach es X.env := by rfl) (hpl : (backTo pos (starEach es X.env)).any (·.1) = false := by rfl) :
    PE X (.Call (.Name x p) (e :: es) [] pos) (tCall sp [] L2.E0 t) := by
  obtain ⟨f, fd, ps, F, hm, kp, hb⟩ := c.ex
  constructor
  intro pins s σ H Q I h
  refine wpAny_Call_Name_kw (ld_glob I hg hm ?_ hdb)
  refine PySem.W.callWith_K (h₀ := X.base) I.ok.mod.kin kp (thn (ha.run pos pins s σ H _ I h) fun us s1 got => ?_) he hpl
  obtain ⟨vs, H1, I1, r, q⟩ := got
  refine ⟨I1.kIn, ?_⟩
  rw [List.append_nil] at q
  have ln : us.length = ps.length := by rw [← r.length]; exact F.len _ _ _ _ q
  have run := F.go X.A X.stack s1 H1 ⟨us, []⟩ us vs Q L2.E0 hgd (hr.mono hk) I1.env0 (by
    have z := hb s1 us I1.kIn (by rw [List.append_nil]; exact ln)
    rw [List.append_nil] at z
    exact z) r q
  refine wpAny_call (codeAny_mono run fun r s3 res => ?_)
  cases r with
  | error e => exact (show False from res).elim
  | ok fl =>
    cases fl with
    | ret u => exact I1.after res
    | next => exact (show False from res).elim
    | brk => exact (show False from res).elim
    | cont => exact (show False from res).elim
end
end LJ
namespace PySem
open Sem (wp)
open AutoSeq1 (wpAny_loadPart')
/-- enumerate(tuple) -/
theorem dj_enum_new (t : Addr) (items : Array Value) (n : Nat) (dct : Option Addr) (sl : Array (Option Value)) :
    Meets (Builtin.«enumerate.__new__» ⟨[.type "enumerate", .ref t], []⟩) (fun _ R s => s.heap.get? t = some { cls := .type "tuple", dict := dct, data := .seq items n, slots := sl } ∧
      R (.ok (.ret (.ref (s.heap.push { cls := .type "tuple_iterator", data := .fields #[.ref t, .int 0 0] }).objs.size)))
        { s with heap := (s.heap.push { cls := .type "tuple_iterator", data := .fields #[.ref t, .int 0 0] }).push { cls := .type "enumerate", data := .fields #[.none, .bool false, .ref s.heap.objs.size, rawInt 0, .none, .none] } }) := by
  refine .of_wp fun prog w A R s h => ?_
  obtain ⟨hp, gn, dr, tk, os⟩ := s
  obtain ⟨ht, want⟩ := h
  have known := sub_enumerate
  have isT : Heap.IsTuple (Shared.heap ⟨hp, gn, dr, tk, os⟩) t items := ⟨_, ht, rfl, n, rfl⟩
  wp_walk using wpAny_loadPart' ht
  refine wpAny_stack_any fun st => wpAny_pure ?_
  split
  · rename_i c _ _ _ _ _
    cases (c == Value.type "enumerate")
    all_goals
      wp_walk using wpAny_loadPart' ht, wpAny_pyIter_tuple isT
      exact ⟨_, rfl, want⟩
  · wp_walk using wpAny_loadPart' ht, wpAny_pyIter_tuple isT
    exact ⟨_, rfl, want⟩
theorem dj_enum_call {prog : Program} {w : World} {A : Around} {E : Value → Shared → Prop} {s : Shared} {t : Addr} {items : Array Value} {Q : Value → Shared → Prop} (isT : s.heap.IsTuple t items)
    (want : ∀ h', IsEnum h' (s.heap.objs.size + 1) s.heap.objs.size 0 .none → h'.IsTupleIter s.heap.objs.size t 0 → h'.objs.size = s.heap.objs.size + 2 →
      (∀ b o, s.heap.get? b = some o → h'.get? b = some o) → Q (.ref (s.heap.objs.size + 1)) { s with heap := h' }) : wpAny (model prog w) A (call (.type "enumerate") [.ref t]) Q E s := by
  obtain ⟨⟨c, dct, dt, sl⟩, ho, hc, n, hd⟩ := isT
  have hc : c = .type "tuple" := hc
  have hd : dt = .seq items n := hd
  subst hc; subst hd
  refine callType_new F.called_enumerate (by decide) (F.typeCall_enumerate_1 _) (F.newCall_enumerate_1 _) (fun obj => F.args_object_init_2 obj _) F.entry_enumerate_new (dj_enum_new t items n dct sl) ⟨ho, ?_⟩
  have size1 : (s.heap.push { cls := .type "tuple_iterator", data := .fields #[.ref t, .int 0 0] }).objs.size = s.heap.objs.size + 1 := Heap.size_push ..
  show _ ∧ _
  rw [size1]
  have top : IsEnum ((s.heap.push { cls := .type "tuple_iterator", data := .fields #[.ref t, .int 0 0] }).push { cls := .type "enumerate", data := .fields #[.none, .bool false, .ref s.heap.objs.size, rawInt 0, .none, .none] }) (s.heap.objs.size + 1) s.heap.objs.size 0 .none := by
    have z := Heap.get?_push_size (s.heap.push { cls := .type "tuple_iterator", data := .fields #[.ref t, .int 0 0] }) (o := { cls := .type "enumerate", data := .fields #[.none, .bool false, .ref s.heap.objs.size, rawInt 0, .none, .none] }) rfl
    rw [size1] at z
    exact z
  refine ⟨⟨_, top, rfl⟩, want _ top ?_ ?_ ?_⟩
  · exact ⟨_, Heap.get?_push_of_some _ (Heap.get?_push_size _ rfl), rfl, rfl⟩
  · rw [Heap.size_push, size1]
  · exact fun b o x => Heap.get?_push_of_some _ (Heap.get?_push_of_some _ x)
end PySem
namespace DJ
open PySem PySem.Spec PyProof.Rows L2
def Itu (K : PySem.W.Frag) (a : Addr) : It :=
  ⟨fun i H => ∃ (xs : List V) (x : V), SqT K H a xs ∧ xs[i]? = some x, fun i H v H' => ∃ T x, v = .ref T ∧ H T = none ∧ H' = upd H T (.tup [.int (i : Nat), x]) ∧ ∀ xs, SqT K H a xs → xs[i]? = some x, fun i H => ∃ xs : List V, SqT K H a xs ∧ xs.length ≤ i⟩
theorem tup_ne {h : Heap} {a b : Addr} {its : Array Value} {o : Obj} {T : String} (p : IsTup h a its) (e : h.get? b = some o) (hc : o.cls = .type T) (ht : T ≠ "tuple") : a ≠ b := fun z => by
  obtain ⟨o', e', c', _⟩ := p
  rw [z, e] at e'
  cases e'
  rw [hc] at c'
  exact ht (by injection c')
section
variable {prog : Program} {w : World} {A : Around} {E : Value → Shared → Prop} {s : Shared}
theorem next_enum_tup_end {e it t : Addr} {items : Array Value} {i : Nat} {old : Value} {Q : Option Value → Shared → Prop} (hh : A.handled = none)
    (he : IsEnum s.heap e it ((i : Nat) : Int) old) (hit : s.heap.IsTupleIter it t i) (ht : s.heap.IsTuple t items) (hx : items[i]? = none) (hQ : ∀ h', Heap.ExtBut it s.heap h' → Q none { s with heap := h' }) : wpAny (model prog w) A (pyNext (.ref e)) Q E s := by
  have kind : s.TypeIs (.ref e) "enumerate" := ⟨_, he, rfl⟩
  unfold pyNext
  refine wpAny_bind (wpAny_attempt ?_)
  refine wpAny_callSpecial?_slot (name := Str.ofString "__next__") kind F.slot_enumerate_next ?_
  refine wpAny_call_entry F.slot_enumerate_next kind F.entry_enumerate_next ?_ (F.args_enumerate_next_1 _)
  show wpAny _ _ (field (.ref e) 2 >>= _) _ _ _
  refine wpAny_bind (wpAny_field he rfl (x := .ref it) rfl ?_)
  refine wpAny_bind (wpAny_nextOf_tuple_end (show A.in1.handled = none from hh) hit ht hx fun h' x he' hx' => ?_)
  obtain ⟨o, ho, hc⟩ := hx'
  refine wpAny_bind (wpAny_isInstance (T := "StopIteration") (b := true) ⟨o, ho, hc⟩ isSubtype_stop ?_)
  exact wpAny_pure (hQ _ he')
end
theorem turn_enumU {P : Program} {w : World} {K : PySem.W.Frag} {elts : List Expr} {kk : Nat} {tpos : Pos} (a e it : Addr) :
    Turn P w K (.Tuple elts kk tpos) (Itu K a) [e, it] e (fun i h => (∃ old, IsEnum h e it ((i : Nat) : Int) old) ∧ h.IsTupleIter it a i ∧ e ≠ it) where
  mem := by simp
  obj := fun i h st b hb => by
    obtain ⟨⟨old, he⟩, ⟨o, ho, hc, hd⟩, _⟩ := st
    have e' : b = e ∨ b = it := by simpa using hb
    rcases e' with z | z
    · rw [z]; exact ⟨_, he, fun v q => nomatch q⟩
    · rw [z]; exact ⟨o, ho, fun v q => by rw [hd] at q; cases q⟩
  keep := fun i h h' st k => let ⟨⟨old, he⟩, hi, hne⟩ := st; ⟨⟨old, k e (by simp) _ he⟩, hi.at fun o q => k it (by simp) o q, hne⟩
  item := by
    intro X hP hw hK hc i pins s σ H E I hf st hg
    subst hP hw hK
    obtain ⟨⟨old, he⟩, hit, hne⟩ := st
    obtain ⟨xs, x, hq, hx⟩ := hg
    obtain ⟨its, rv, p, hz⟩ := I.tuple hq
    obtain ⟨u, hu, ru⟩ := rv.get hx
    have hel : e < s.heap.objs.size := Heap.lt_size he
    have hil : it < s.heap.objs.size := by obtain ⟨_, q, _⟩ := hit; exact Heap.lt_size q
    have n1 : a ≠ it := by obtain ⟨o, q, c, _⟩ := hit; exact tup_ne p q c (by decide)
    have n2 : a ≠ e := tup_ne p he rfl (by decide)
    have hlt : i < its.toArray.size := by rw [List.size_toArray]; exact (List.getElem?_eq_some_iff.mp hu).1
    refine wpAny_pyNext_enum_itemD (PySem.Draws.tuple (show X.A.in1.handled = none from I.ok.hd hc) it a n1 its.toArray) he ⟨hit, p⟩ hlt hne (by simp [hne, Ne.symm n2]) fun v h' tk hv ho hit' hT hsz hk => ?_
    have ev : v = u := by
      rw [List.getElem?_toArray, hu] at hv
      exact (Option.some.inj hv).symm
    subst ev
    refine ⟨_, rfl, wpAny_letOwnedTupleGo_enum (s := { s with heap := h', toks := tk + 1 }) ho fun h'' he' sb => ?_⟩
    have hT2 : h''.get? s.heap.objs.size = some { cls := .type "tuple", data := .seq #[.int i tk, v] } := (sb.2 _ (Nat.ne_of_gt hel)).trans hT
    have new : ObjOk X.prog X.w (upd H s.heap.objs.size (.tup [.int (i : Nat), x])) h'' s.heap.objs.size (.tup [.int (i : Nat), x]) :=
      ⟨by show 2 ≤ sizeLine; decide, [.int i tk, v], .cons ⟨_, rfl⟩ (.cons ru .nil), ⟨_, hT2, rfl, _, rfl⟩⟩
    have I1 : Inv X pins σ (upd H s.heap.objs.size (.tup [.int (i : Nat), x])) { s with heap := h'', toks := tk + 1 } :=
      I.turnedNew (ch := [e, it]) (fun b ob hb q => (sb.2 b (fun z => hb (by simp [z]))).trans (hk b ob (fun z => hb (by simp [z])) (fun z => hb (by simp [z])) q)) hf (Nat.le_refl _) new
    refine ⟨.ref s.heap.objs.size, _, I1, rfl, ⟨_, x, rfl, I.hok.fresh (Nat.le_refl _), rfl, fun ys hy => by rw [I.tuple_inj hy hq]; exact hx⟩, ⟨⟨v, ?_⟩, ?_, hne⟩, fun b hb => ?_⟩
    · have e1 : ((i + 1 : Nat) : Int) = (i : Int) + 1 := by omega
      rw [e1]; exact he'
    · exact hit'.1.at fun o q => (sb.2 it (Ne.symm hne)).trans q
    · have hb' : b < s.heap.objs.size := by
        have e' : b = e ∨ b = it := by simpa using hb
        rcases e' with z | z
        · rw [z]; exact hel
        · rw [z]; exact hil
      rw [upd_ne (Nat.ne_of_lt hb')]
      exact (hf b hb).1
  done := by
    intro X hP hw hK hc i pins s σ H E I hf st hg
    subst hP hw hK
    obtain ⟨⟨old, he⟩, hit, hne⟩ := st
    obtain ⟨xs, hq, hx⟩ := hg
    obtain ⟨its, rv, p, hz⟩ := I.tuple hq
    obtain ⟨f0, f1, f2, f3, f4, f5⟩ := hf it (by simp)
    have hl := rv.length
    exact next_enum_tup_end (I.ok.hd hc) he hit p (by simp; omega) fun h' eb => ⟨rfl, I.turned (t' := s.toks) (fun b o hb q => eb b o hb q) f0 f1 f3 f4 f5⟩
  self := fun A i s Q E st h => let ⟨⟨_, he⟩, _⟩ := st; wpAny_pyIter_enum he h
def iEnumU (K : PySem.W.Frag) (ta : TA) : TI := fun σ H R => ta σ H fun vs H1 => ∃ a xs, vs = [.ref a] ∧ SqT K H1 a xs ∧ R (Itu K a) H1
theorem pi_enumU {X : Cx} {e : Expr} {ta : TA} {p pos tpos : Pos} {elts : List Expr} {kk : Nat} (hg : Gl X "enumerate") (hm : X.mg "enumerate" = none) (ha : PA X [e] ta) (hs : starEach [e] X.env = [(false, eval e X.env)] := by rfl) :
    PI X (.Tuple elts kk tpos) (.Call (.Name "enumerate" p) [e] [] pos) (iEnumU X.K ta) := by
  refine ⟨fun pins s σ H R I h => ?_⟩
  refine Call_ (ld_blt I hg hm boot_enumerate (PyProof.Rows.callWith_type1 (thn (ha.run pos pins s σ H _ I h) fun us s1 ⟨vs, H1, I1, r1, q1⟩ => ?_) hs rfl))
  obtain ⟨a, xs, ex, hq, q⟩ := q1
  subst ex
  obtain ⟨u, rfl, ru⟩ := vals1 r1
  cases (show u = Value.ref a from ru)
  obtain ⟨its, rv, p', hz⟩ := I1.tuple hq
  refine dj_enum_call p' fun h' he hit hsz hk => wpAny_pyIter_enum he ?_
  have I2 : Inv X pins σ H1 { s1 with heap := h' } := I1.kept (t' := s1.toks) hk
  refine ⟨s1.heap.objs.size + 1, [s1.heap.objs.size + 1, s1.heap.objs.size], _, _, H1, rfl, I2, turn_enumU a (s1.heap.objs.size + 1) s1.heap.objs.size, ⟨⟨.none, he⟩, hit, Nat.succ_ne_self _⟩, fun b hb => ?_, q⟩
  have e' : b = s1.heap.objs.size + 1 ∨ b = s1.heap.objs.size := by simpa using hb
  have hle : s1.heap.objs.size ≤ b := by
    rcases e' with z | z
    · rw [z]; exact Nat.le_add_right _ _
    · rw [z]; exact Nat.le_refl _
  exact I1.fpOk hle (I1.hok.fresh hle)
section
variable {K : PySem.W.Frag} {B : Hp} {G : List (Option Sl)} {M M1 : List MO}
theorem yl_enumU {a : Addr} {vs : List V} {xs : List Dt} (h : SqT K B a vs) (r : RpL K B xs vs) : Yl K B (Itu K a) (enumD 0 xs) := fun F B' as M H i e ow => by
  have h1 : SqT K H a vs := same_t ow.bb (same_t e h)
  refine ⟨fun x hx => ?_, fun hi => ⟨vs, h1, by rw [r.len]; rw [enumD_len] at hi; exact hi⟩⟩
  rw [enumD_get] at hx
  cases hy : xs[i]? with
  | none => rw [hy] at hx; cases hx
  | some y =>
    rw [hy] at hx
    have hx : Dt.tup [.int ((0 + i : Nat) : Nat), y] = x := Option.some.inj hx
    subst hx
    obtain ⟨v, hv, hr⟩ := r.get hy
    refine ⟨⟨vs, v, h1, hv⟩, fun w H' yl => ?_⟩
    obtain ⟨T, u, rfl, hT, rfl, hu⟩ := yl
    have e2 : v = u := Option.some.inj (hv.symm.trans (hu vs h1))
    subst e2
    have g := ow.gr hT (.tup [.int (i : Nat), v])
    refine ⟨_, g, ow.new hT _, T, _, rfl, .inl (.inl upd_same), _, _, rfl, ?_, _, _, rfl, Rp.mono (e.trans g.1) _ _ hr, rfl⟩
    rw [Nat.zero_add]
    rfl
theorem ei_enumU {ta : TA} {xs : List Dt} (h : EvA K ta G M [.d (.tup xs)] M1) : EvI K (iEnumU K ta) G M (enumD 0 xs) M1 := fun F B as σ H ow sl R q =>
  h F B as σ H ow sl _ fun vs B' as' H' g p o' r => by
    obtain ⟨v, r1, e1, h1, e2⟩ := r
    have e2 : r1 = [] := e2
    subst e2; subst e1
    obtain ⟨a, us, e, q1, q2⟩ := h1
    subst e
    exact ⟨a, us, rfl, same_t o'.bb q1, q _ B' as' H' g p o' (yl_enumU q1 q2)⟩
end
end DJ
namespace LJ
open PySem PySem.Spec PyProof.Rows L2 LamX DJ
section
variable {K : PySem.W.Frag} {G : List (Option Sl)} {M M1 M2 : List MO} {ta tb : TE}
theorem ro_ixT' {xs : List Dt} {x : Dt} {i : Int} (h : atI xs i = some x) : RO K (rIx K) (.tup xs) (.int i) x := fun F B as M H v u Q ow r1 r2 q => .inr (.inl (ro_ixT h F B as M H v u Q ow r1 r2 q))
theorem rc_tupOf {xs : List Dt} (h : xs.length ≤ 100000) : RC K (fun xs H Q => ∃ p ys, xs = [.ref p] ∧ ((SqL K H p ys ∧ ∀ l, H l = none → Q (.ref l) (upd H l (.tup ys))) ∨ (SqT K H p ys ∧ Q (.ref p) H))) [.lst xs] (.tup xs) := fun F B as M H vs Q ow r q => by
  obtain ⟨v1, rr, e, h1, h2⟩ := r
  obtain ⟨a, us, e1, h3, h4⟩ := h1
  have h2 : rr = [] := h2
  subst h2; subst e1
  refine ⟨a, us, e, .inl ⟨ow.bb.seq h3, fun l hl => ?_⟩⟩
  have g := ow.gr hl (.tup us)
  exact q _ _ _ g (ow.new hl _) ⟨l, us, rfl, .inl (.inl upd_same), RpL.mono g.1 _ _ h4⟩
end
end LJ
namespace LJ
open PySem PySem.Spec PyProof.Rows L2 LamX DJ
/-! ### instances of own classes, their attributes plain values -/
abbrev Fs := List (Str × V)
def insM (C : Addr) (fs : Fs) : MO := .abx fun _ _ o => ∃ dx, o = .ins C dx fs
def insD (C : Addr) (fs : Fs) : Dt := .ext fun H v => ∃ a dx, v = .ref a ∧ H a = some (.ins C dx fs)
theorem rp_ins {K : PySem.W.Frag} {B : Hp} {C : Addr} {fs : Fs} {v : V} (h : Rp K B (insD C fs) v) : ∃ a dx, v = .ref a ∧ B a = some (.ins C dx fs) := h B (Same.refl B)
theorem rp_ins_of {K : PySem.W.Frag} {B : Hp} {C a dx : Addr} {fs : Fs} (h : B a = some (.ins C dx fs)) : Rp K B (insD C fs) (.ref a) := fun H' e => ⟨a, dx, rfl, e _ _ h⟩
section
variable {K : PySem.W.Frag} {F B H : Hp} {as : List Addr} {G : List (Option Sl)} {M M1 M2 : List MO} {ta tb tv : TE} {tr : TA} {C : Addr} {fs gs : Fs} {E : XK}
theorem Ow_know {x : Addr} {o : HO} (h : Ow K F B as M H) (e0 : H x = some o) (b : B x = none) (f : F x = none) (n : x ∉ as) : Gr F B (upd B x o) ∧ Ow K F (upd B x o) as M H := by
  have sm : Same B (upd B x o) := fun c u e => by rw [upd_ne (ne_of_none e b)]; exact e
  refine ⟨⟨sm, fun c z n => ?_⟩, ⟨h.fb, fun c u e => ?_, h.len, h.nd, h.al, h.fa, fun j c m q1 q2 hn => ?_⟩⟩
  · rw [upd_ne (fun e => z.1 (by rw [e]; exact f))]; exact n
  · by_cases z : c = x
    · subst z; rw [upd_same] at e; rw [← e]; exact e0
    · rw [upd_ne z] at e; exact h.bb _ _ e
  · have ne : c ≠ x := fun e => n (e ▸ List.mem_of_getElem? q1)
    obtain ⟨r1, r2, r3⟩ := h.own j c m q1 q2 hn
    exact ⟨r1, by rw [upd_ne ne]; exact r2, MoR.mono sm rfl r3⟩
/-- C(..): data, once __init__ has come to its end -/
theorem ev_make {n : Nat} {R : List Sl → List MO → Sl → List MO → Prop} {ds : List Dt} (h : EvA K tr G M (ds.map Sl.d) M1) (hR : R (.o 0 :: ds.map Sl.d) [insM C []] (.d .non) [insM C fs]) (hn : ds.length + 1 = n) :
    EvE K (tMake C (SpR K n R) [] E tr) G M (.d (insD C fs)) M1 := fun F B as σ H ow sl Q q =>
  h F B as σ H ow sl _ fun vs B1 as1 H1 g1 p1 o1 r1 => fun x dx hx hdx ne => by
    have od := o1.new hdx (.own x)
    have gd := o1.gr hdx (.own x)
    have hx1 : (upd H1 dx (.own x)) x = none := by rw [upd_ne (Ne.symm ne)]; exact hx
    have bx : (upd B1 dx (.own x)) x = none := od.bb.free hx1
    have fx : F x = none := od.fb.free hx1
    have oc : Ow K (upd H1 dx (.own x)) (upd B1 dx (.own x)) [x] [insM C []] (upd (upd H1 dx (.own x)) x (.ins C dx [])) := by
      refine ⟨fun b u e => ?_, fun b u e => ?_, rfl, by simp, fun b hb => ?_, fun b hb => ?_, fun j b m e1 e2 hm => ?_⟩
      · rw [upd_ne (ne_of_none e hx1)]; exact e
      · rw [upd_ne (ne_of_none e bx)]; exact od.bb b u e
      · obtain rfl : b = x := by simpa using hb
        rw [upd_same]; exact fun z => nomatch z
      · obtain rfl : b = x := by simpa using hb
        exact hx1
      · cases j with
        | zero =>
          obtain rfl : x = b := Option.some.inj e1
          obtain rfl : insM C [] = m := Option.some.inj e2
          exact ⟨hx1, bx, _, upd_same, (by intro vs z; cases z), fun B' _ => ⟨dx, rfl⟩⟩
        | succ j => simp at e1
    refine ⟨_, _, [x], .o 0 :: ds.map Sl.d, [insM C []], .d .non, [insM C fs], hR, oc, ⟨.ref x, vs ++ [], rfl, ⟨x, rfl, rfl⟩, ?_⟩, ?_, fun v B' as' H' g p o' r' => ⟨r', ?_⟩⟩
    · rw [List.append_nil]; exact SlL.of_data (RpL.mono gd.1 _ _ (SlL.data r1))
    · rw [List.length_cons, List.append_nil, r1.len, List.length_map]; exact hn
    · obtain ⟨tl, rfl⟩ := p
      obtain ⟨f0, b0, o, ho, nt, φ⟩ := o'.own 0 x _ rfl rfl (fun z => nomatch z)
      obtain ⟨dx', rfl⟩ := φ B' (Same.refl B')
      obtain ⟨g2, o2⟩ := back0 od g o'
      obtain ⟨g3, o3⟩ := Ow_know o2 ho b0 fx (fun hm => od.al x hm hx1)
      exact q _ _ as1 H' (g1.trans (gd.trans (g2.trans g3))) p1 o3 (rp_ins_of (K := K) upd_same)
/-- e.f, a property that hands an attribute on -/
theorem ev_prop {f : Str} {v : V} {y : Dt} (h : EvE K ta G M (.d (insD C fs)) M1) (l : fs.lookup f = some v) (r : ∀ B, Rp K B y v) : EvE K (tProp C (getSp C f) [] E ta) G M (.d y) M1 := fun F B as σ H ow sl Q q =>
  h F B as σ H ow sl _ fun x B1 as1 H1 g1 p1 o1 r1 => by
    obtain ⟨a, dx, rfl, e⟩ := rp_ins (K := K) r1
    have e' := o1.bb _ _ e
    exact ⟨a, dx, fs, rfl, e', a, dx, fs, v, rfl, e', l, q v B1 as1 H1 g1 p1 o1 (r B1)⟩
/-- self.f = value, self made anew -/
theorem es_fld {k : Nat} {f : Str} {y : Dt} {v : V} (hv : EvE K tv G M (.d y) M1) (hy : ∀ B w, Rp K B y w → w = v) (hs : EvE K ta G M1 (.o k) M2) (hm : M2[k]? = some (insM C fs)) (c : Cls K C) (n : NoAttr K C f) (hl : fs.length < 1000) :
    EvS K (sFld K ta tv f) G M (.nx G (M2.set k (insM C (putF f v fs)))) := fun F B as σ H ow sl D gd =>
  hv F B as σ H ow sl _ fun w B1 as1 H1 g1 p1 o1 r1 => hs F B1 as1 σ H1 o1 (sl.mono g1.1 p1) _ fun x B2 as2 H2 g2 p2 o2 r2 => by
    obtain ⟨a, ha, rfl⟩ := r2
    obtain ⟨f0, b0, o, ho, nt, φ⟩ := o2.own k a _ ha hm (fun z => nomatch z)
    obtain ⟨dx, rfl⟩ := φ B2 (Same.refl B2)
    obtain rfl := hy B1 w r1
    refine ⟨a, C, dx, fs, rfl, ho, c, n, hl, ?_⟩
    exact gd B2 as2 σ _ (g1.trans g2) (p1.trans p2) (o2.put ha hm (fun z => nomatch z) ⟨_, upd_same, (by intro vs z; cases z), fun B' _ => ⟨dx, rfl⟩⟩) (sl.mono (g1.trans g2).1 (p1.trans p2))
/-- isinstance of an instance of the class itself -/
theorem rc_isI (c : C8.InsC K C) : RC K (rIsi K) [insD C fs, .raw (.ref C)] (.bl true) := fun F B as M H vs Q ow r q => by
  obtain ⟨v1, rr, e, h1, v2, rr2, e2, h2, h3⟩ := r
  obtain ⟨a, dx, rfl, ea⟩ := rp_ins (K := K) h1
  obtain rfl : v2 = V.ref C := h2
  obtain rfl : rr2 = [] := h3
  subst e2; subst e
  exact ⟨.ref a, .ref C, .ref C, .ref C, true, rfl, .own C, .base (TyOf.ins (ow.bb _ _ ea) c.cl c.ha c.hn c.htk c.hm), c.me, q _ B H (Gr.refl F B) ow rfl⟩
end
/-! ### == by a def of the class -/
def rOwnI (C : Addr) (sp : Sp) (E : XK) : R2 := fun x y H Q => ∃ a b dx dy fs gs, x = .ref a ∧ y = .ref b ∧ H a = some (.ins C dx fs) ∧ H b = some (.ins C dy gs) ∧ sp [x, y] H Q E
theorem op_ownI {X : Cx} {CX : CXT} {C f : Addr} {fd : FuncData} {ps : List Str} {n : Nat} {sp : Sp} {E : XK} (F : FnOk X.prog X.w X.K X.mg X.base CX n f fd ps sp)
    (hs : PySem.W.findIn X.K (.ref C) "__eq__" = some (some (.ref f))) (hf : PySem.W.isFn X.K (.ref f) = true) (hb : Binds X.K fd ps []) (hr : Room n X.A) (hx : Passes CX X E) : OpR X (compareOp .Eq) (rOwnI C sp E) := by
  intro pins s σ H x y v u Q I rx ry h
  obtain ⟨a, b, dx, dy, fs, gs, rfl, rfl, ha, hb', q⟩ := h
  cases (show v = Value.ref a from rx)
  cases (show u = Value.ref b from ry)
  obtain ⟨mA, J, _⟩ := ins_get I.hok ha
  obtain ⟨mB, J', _⟩ := ins_get I.hok hb'
  obtain ⟨od, J, _⟩ := J.look
  obtain ⟨od', J', _⟩ := J'.look
  obtain ⟨m, hF⟩ := I.fr
  show wpAny (model X.prog X.w) X.A (richCompare .Eq (.ref a) (.ref b)) (EP X pins σ Q) X.xe s
  refine PySem.W.cmp_K (op := .Eq) (tb := .ref C) hr.units0 hF I.ok.mod.kin J J'.type (by simp [PySem.W.notFirst]) hs hf ?_
  refine wpAny_mono (run_fn (us := [.ref a, .ref b]) (vs := [.ref a, .ref b]) (ds := []) (dvs := []) F hr hb .nil hx I (.cons rfl (.cons rfl .nil)) (by rw [List.append_nil]; exact q)) (fun w s' z => ?_) fun _ _ x => x
  obtain ⟨z', H', I', rz, qz⟩ := z
  exact SlX.cmpback rz ⟨z', H', I', rz, qz⟩
theorem ro_ownI {K : PySem.W.Frag} {C : Addr} {fs gs : Fs} {R : List Sl → List MO → Sl → List MO → Prop} {z : Dt} {E : XK} (hR : R [.d (insD C fs), .d (insD C gs)] [] (.d z) []) : RO K (rOwnI C (SpR K 2 R) E) (insD C fs) (insD C gs) z := fun F B as M H v u Q ow rv ru q => by
  obtain ⟨a, dx, rfl, ea⟩ := rp_ins (K := K) rv
  obtain ⟨b, dy, rfl, eb⟩ := rp_ins (K := K) ru
  refine ⟨a, b, dx, dy, fs, gs, rfl, rfl, ow.bb _ _ ea, ow.bb _ _ eb, ?_⟩
  exact call_core (ds := [insD C fs, insD C gs]) hR rfl ow ⟨_, _, rfl, rv, _, _, rfl, ru, rfl⟩ fun w B' as' H' g o' r' => by
    obtain ⟨g2, o2⟩ := back0 ow g o'
    exact q w B' H' g2 o2 r'
/-! ### the class's defs, what they promise -/
section
variable {P : Program} {w : World} {K : PySem.W.Frag} {mg : Str → Option Value} {base : Heap}
/-- a def of the class, under whatever name it is found -/
structure Mtd (P : Program) (w : World) (K : PySem.W.Frag) (mg : Str → Option Value) (base : Heap) (k : Nat) (f : Addr) (sp : Sp) : Prop where
  ex : ∃ (fd : FuncData) (ps : List Str), FnOk P w K mg base CX0 k f fd ps sp ∧ Binds K fd ps []
theorem mtd_mk {x qual : Str} {f : Addr} {st : Stmt} {N ps : List Str} {k n : Nat} {R : List Sl → List MO → Sl → List MO → Prop} (D : ∃ fd, L2.Fun K x qual st f fd ∧ Binds K fd ps []) (S : FnScope N ps (defScope st)) (hn : ps.length = n)
    (hb : ∀ (cdv : Value) (A : Around) (outer : List Env) (s : Shared) (H : Hp) (E : XK), Room k (A.deeper (envOfC qual (defScope st) s.heap.objs.size f cdv)) → ∀ ss M r M', R ss M r M' →
      ∃ t X, PSs (cxOf CX0 P w K mg base N qual (defScope st) f cdv A outer s H E).nox (defBody st) t ∧ EvS K t (DJ.start N.length ss) M (.rt r (M' ++ X)) ∧ M.length ≤ M'.length ∧ ∀ j, r = .o j → j < M'.length) :
    Mtd P w K mg base (k + 1) f (SpR K n R) := by
  obtain ⟨fd, F, b⟩ := D
  refine ⟨fd, ps, F.ok S (fun vs H Q E h => ?_) (fun cdv A outer s H vs Q E hr h => ?_), b⟩
  · obtain ⟨_, _, _, _, _, _, _, _, _, _, e, _⟩ := h
    rw [e, hn]
  · obtain ⟨F', B, as, ss, M, r, M', hR, ow, sl, _, q⟩ := h
    obtain ⟨t, X, ht, he, hl, hr'⟩ := hb cdv A outer s H E hr ss M r M' hR
    exact ⟨t, ht, run_body (X := X) he hl hr' ow sl q⟩
theorem mtd_mkN {x qual : Str} {f : Addr} {st : Stmt} {N ps : List Str} {k n : Nat} {R : List Sl → List MO → Sl → List MO → Prop} (D : ∃ fd, L2.Fun K x qual st f fd ∧ Binds K fd ps []) (S : FnScope N ps (defScope st)) (hn : ps.length = n)
    (hb : ∀ (cdv : Value) (A : Around) (outer : List Env) (s : Shared) (H : Hp) (E : XK), Room k (A.deeper (envOfC qual (defScope st) s.heap.objs.size f cdv)) → ∀ ss M r M', R ss M r M' →
      ∃ t X G1, PSs (cxOf CX0 P w K mg base N qual (defScope st) f cdv A outer s H E).nox (defBody st) t ∧ EvS K t (DJ.start N.length ss) M (.nx G1 (M' ++ X)) ∧ M.length ≤ M'.length ∧ r = .d .non) :
    Mtd P w K mg base (k + 1) f (SpR K n R) := by
  obtain ⟨fd, F, b⟩ := D
  refine ⟨fd, ps, F.ok S (fun vs H Q E h => ?_) (fun cdv A outer s H vs Q E hr h => ?_), b⟩
  · obtain ⟨_, _, _, _, _, _, _, _, _, _, e, _⟩ := h
    rw [e, hn]
  · obtain ⟨F', B, as, ss, M, r, M', hR, ow, sl, _, q⟩ := h
    obtain ⟨t, X, G1, ht, he, hl, hr'⟩ := hb cdv A outer s H E hr ss M r M' hR
    subst hr'
    exact ⟨t, ht, run_bodyN (X := X) he hl ow sl q⟩
/-- a property, by its getter -/
structure Prp (P : Program) (w : World) (K : PySem.W.Frag) (mg : Str → Option Value) (base : Heap) (k : Nat) (C : Addr) (f g : Str) : Prop where
  ex : ∃ (p ga : Addr), Cls K C ∧ PropOf K C f p ga ∧ Mtd P w K mg base k ga (getSp C g)
theorem prp_mk {f g qual : Str} {C p ga : Addr} {st : Stmt} {N : List Str} {k : Nat} {p1 p2 p3 : Pos} (c : Cls K C) (hp : PropOf K C f p ga) (D : ∃ fd, L2.Fun K f qual st ga fd ∧ Binds K fd ["self"] []) (S : FnScope N ["self"] (defScope st)) (hN : N[0]? = some ("self" : Str))
    (hb : defBody st = [.Return (some (.Attribute (.Name "self" p1) g p2)) p3]) (n : NoAttr K C g) : Prp P w K mg base (k + 1) C f g := by
  obtain ⟨fd, F, b⟩ := D
  obtain ⟨oc, od, kV, doc, pm, an, cdv, ct, osl, rfl, lk, hcd⟩ := F.ex
  exact ⟨p, ga, c, hp, ⟨_, _, fn_getter lk hcd S hN hb c n, b⟩⟩
/-- own == -/
structure OEq (P : Program) (w : World) (K : PySem.W.Frag) (mg : Str → Option Value) (base : Heap) (k : Nat) (C : Addr) (sp : Sp) : Prop where
  ex : ∃ (f : Addr), PySem.W.findIn K (.ref C) "__eq__" = some (some (.ref f)) ∧ PySem.W.isFn K (.ref f) = true ∧ Mtd P w K mg base k f sp
/-- C(..) -/
structure Mkr (P : Program) (w : World) (K : PySem.W.Frag) (mg : Str → Option Value) (base : Heap) (k : Nat) (x : Str) (C : Addr) (sp : Sp) : Prop where
  ex : ∃ (f : Addr), Mk K C f ∧ mg x = some (.ref C) ∧ Mtd P w K mg base k f sp
end
section
variable {X : Cx} {k j : Nat} {C : Addr} {x f g : Str} {sp : Sp} {p pos : Pos} {e : Expr} {es : List Expr} {ta : TE} {t : TA}
theorem pe_prp (c : Prp X.prog X.w X.K X.mg X.base k C f g) (hr : Room j X.A) (hk : k + 1 ≤ j) (he : PE X e ta) (hab : attributeBase e f X.env (eval e X.env) = eval e X.env := by rfl) : PE X (.Attribute e f pos) (tProp C (getSp C g) [] L2.E0 ta) := by
  obtain ⟨q, ga, hc, hp, fd, ps, F, b⟩ := c.ex
  exact pe_prop he hc hp F (hr.mono hk) b .nil L2.pass0 hab
theorem op_oeq (c : OEq X.prog X.w X.K X.mg X.base k C sp) (hr : Room j X.A) (hk : k ≤ j) : OpR X (compareOp .Eq) (rOwnI C sp L2.E0) := by
  obtain ⟨f, hs, hf, fd, ps, F, b⟩ := c.ex
  exact op_ownI F hs hf b (hr.mono hk) L2.pass0
theorem pe_mkr (c : Mkr X.prog X.w X.K X.mg X.base k x C sp) (hr : Room j X.A) (hk : k + 1 ≤ j) (hg : Gl X x) (ha : PA X (e :: es) t)
    (hdb : (x == ("__debug__" : Str)) = false := by decide) (he : starEach (e :: es) X.env = (false, eval e X.env) :: starEach es X.env := by rfl) (hpl : (backTo pos (starEach es X.env)).any (·.1) = false := by rfl) :
    PE X (.Call (.Name x p) (e :: es) [] pos) (tMake C sp [] L2.E0 t) := by
  obtain ⟨f, M, hm, fd, ps, F, b⟩ := c.ex
  exact pe_make M F (hr.mono hk) hg hm b .nil L2.pass0 ha hdb he hpl
end
end LJ
namespace LJ
open PySem PySem.Spec PyProof.Rows L2 LamX DJ
/-! ### int(text) of at most 4,300 figures -/
open PySem.NumText in
theorem wp_textD {M : Model} {A : Around} {E : Value → Shared → Prop} {s : Shared} {Q : Value → Shared → Prop} {v : Value} {text : List Nat} {n : Int} (hn : s.heap.NoDigits)
    (hr0 : (text.takeWhile (· != 0)).length ≤ 640 → (int_private% "readNumeral") 0 10 (text.takeWhile (· != 0)) = (int_private% "Numeral.value") n)
    (hr : (int_private% "readNumeral") 4300 10 (text.takeWhile (· != 0)) = (int_private% "Numeral.value") n)
    (ha : ((text.takeWhile (· != 0)).length == text.length) = true) (h : Q (.int n s.toks) { s with toks := s.toks + 1 }) :
    wpAny M A ((int_private% "intFromText") v text 10) Q E s := by
  by_cases hs : (text.takeWhile (· != 0)).length ≤ 640
  · exact PySem.W.KIN.wp_text hs (hr0 hs) ha h
  · obtain ⟨hp, g, d, tk, os⟩ := s
    repeat (any_goals (first
      | assumption
      | (with_reducible refine wpAny_ite_false (decide_eq_false hs) ?_)
      | ((with_reducible show wpAny _ _ Builtin.intMaxStrDigits _ _ _); refine dig_any hn ?_)
      | (with_reducible refine wpAny_ite_true (decide_eq_true ha) ?_)
      | wp_step))
    all_goals (try rw [hr])
    all_goals (try dsimp only)
    repeat (any_goals (first
      | assumption
      | (with_reducible refine wpAny_ite_true (decide_eq_true ha) ?_)
      | wp_step))
open PySem.NumText in
theorem core_dec {x : PySem.Str} {u : Tok} {n : Int} (hl : x.length ≤ 4300) (hx : PySem.intText? x = some n)
    {M : Model} {A : Around} {E : Value → Shared → Prop} {s : Shared} {Q : Value → Shared → Prop} (hn : s.heap.NoDigits) (hQ : Q (.int n s.toks) { s with toks := s.toks + 1 }) :
    wpAny M A (Builtin.«int.__new__» ⟨[.type "int", .str x u], []⟩) (fun fin s' => ∃ v, fin = .done (.ret v) ∧ Q v s') E s := by
  have f1 := F.conv_sub_int
  have f2 := F.madeHere_int
  have f3 := PySem.W.KIN.str_int
  have f4 := PySem.W.KIN.str_idx
  have f5 := PySem.W.KIN.str_trunc
  have f6 : typeOf (.str x u) = pure (.type "str") := rfl
  have r4 : (int_private% "readNumeral") 4300 10 (numSeenOf x) = (int_private% "Numeral.value") n ∧ ((numSeenOf x).length == (numTextOf x).length) = true := by
    rcases read4300 x (Nat.le_trans hl (by decide)) with ⟨m, h1, h2, h3⟩ | ⟨h1, _⟩
    · rw [hx] at h1; injection h1 with h1; subst h1; exact ⟨h3, h2⟩
    · rw [hx] at h1; cases h1
  have r0 : (numSeenOf x).length ≤ 640 → (int_private% "readNumeral") 0 10 (numSeenOf x) = (int_private% "Numeral.value") n := fun hs => by
    rcases read0 x hs with ⟨m, h1, h2, h3⟩ | ⟨h1, _⟩
    · rw [hx] at h1; injection h1 with h1; subst h1; exact h3
    · rw [hx] at h1; cases h1
  have hk := Hx.Hid.mk (And.intro hn (And.intro r0 (And.intro r4.1 r4.2)))
  obtain ⟨hp, g, d, tk, os⟩ := s
  clear r4 r0 hx hl hn
  repeat (any_goals (first
    | assumption
    | ((with_reducible show wpAny _ _ ((int_private% "intFromText") _ _ _) _ _ _); refine wp_textD hk.out.1 hk.out.2.1 hk.out.2.2.1 hk.out.2.2.2 ?_)
    | wp_step))
  all_goals first | exact ⟨_, rfl, hQ⟩ | skip
theorem meets_dec {x : PySem.Str} {u : Tok} {n : Int} (hl : x.length ≤ 4300) (hx : PySem.intText? x = some n) :
    Meets (Builtin.«int.__new__» ⟨[.type "int", .str x u], []⟩) (fun _ R s => s.heap.NoDigits ∧ R (.ok (.ret (.int n s.toks))) { s with toks := s.toks + 1 }) := fun prog w A R s hS =>
  wpAny_mono (core_dec (Q := fun v s' => R (.ok (.ret v)) s') hl hx hS.1 hS.2) (fun fin s' h' => by obtain ⟨v, rfl, hv⟩ := h'; exact hv) fun _ _ x => x
def rIntL : List V → Hp → VK → Prop := fun xs H Q => ∃ a n, xs = [.str a] ∧ PySem.intText? a = some n ∧ a.length ≤ 4300 ∧ Q (.int n) H
theorem call_int_long {X : Cx} (e : DgK X.K) : CallR X (.type "int") rIntL := by
  intro pins s σ H xs us Q I r h
  obtain ⟨a, n, rfl, hx, hl, q⟩ := h
  obtain ⟨u, rfl, r1⟩ := vals1 r
  obtain ⟨t1, rfl⟩ := r1
  exact callType_new F.called_int F.newNe_int (F.typeCall_int_1 _) (F.newCall_int_1 _) (fun obj => F.args_object_init_2 obj _) F.entry_int_new (meets_dec hl hx) ⟨nodig I e, rfl, ⟨.int n, H, I.tok _, ⟨_, rfl⟩, q⟩⟩
section
variable {K : PySem.W.Frag} {G : List (Option Sl)} {M M1 M2 : List MO} {ta tb tv : TE} {tr : TA}
theorem rc_intL {l : List Nat} (h : l.all (fun c => decide (48 ≤ c) && decide (c ≤ 57)) = true) (hne : l ≠ []) (hl : l.length ≤ 4300) : RC K rIntL [.str l] (.int ((NumText.digitsVal l : Nat) : Int)) := fun F B as M H vs Q ow r q =>
  ⟨tx l, _, two_str r, SX.int_S h hne hl, by rw [tx_len]; exact hl, q _ B H (Gr.refl F B) ow rfl⟩
theorem rc_tenL {k : Nat} (h : k ≤ 4299) : RC K rIntL [.str (49 :: List.replicate k 48)] (.int ((10 ^ k : Nat) : Int)) := by
  have := rc_intL (K := K) (l := 49 :: List.replicate k 48) (by
    rw [List.all_cons, List.all_replicate]
    cases k <;> simp) (List.cons_ne_nil _ _) (by rw [List.length_cons, List.length_replicate]; omega)
  rw [ten_val] at this
  exact this
/-! ### zip of two lists -/
theorem yl_zip {B : Hp} {a b : Addr} {vs us : List V} {xs ys : List Dt} (h : SqL K B a vs) (h2 : SqL K B b us) (r : RpL K B xs vs) (r2 : RpL K B ys us) : Yl K B (Itz K a b) ((xs.zip ys).map fun p => .tup [p.1, p.2]) := fun F B' as M H i e ow => by
  have h1 : SqL K H a vs := ow.bb.seq (e.seq h)
  have h2 : SqL K H b us := ow.bb.seq (e.seq h2)
  refine ⟨fun x hx => ?_, fun hi => ⟨vs, us, h1, h2, by
    rw [List.length_map, List.length_zip] at hi
    rw [r.len, r2.len]
    omega⟩⟩
  rw [List.getElem?_map] at hx
  cases hz : (xs.zip ys)[i]? with
  | none => rw [hz] at hx; cases hx
  | some p =>
    rw [hz] at hx
    have hx : Dt.tup [p.1, p.2] = x := Option.some.inj hx
    subst hx
    obtain ⟨z1, z2⟩ := List.getElem?_zip_eq_some.mp hz
    obtain ⟨v, hv, hr⟩ := r.get z1
    obtain ⟨u, hu, hr2⟩ := r2.get z2
    refine ⟨⟨vs, us, v, u, h1, h2, hv, hu⟩, fun w H' y => ?_⟩
    obtain ⟨T, v', u', rfl, hT, rfl, y1, y2⟩ := y
    have e1 : v = v' := Option.some.inj (hv.symm.trans (y1 vs h1))
    have e2 : u = u' := Option.some.inj (hu.symm.trans (y2 us h2))
    subst e1; subst e2
    have g := ow.gr hT (.tup [v, u])
    exact ⟨_, g, ow.new hT _, T, [v, u], rfl, .inl (.inl upd_same), v, [u], rfl, Rp.mono (e.trans g.1) _ _ hr, u, [], rfl, Rp.mono (e.trans g.1) _ _ hr2, rfl⟩
theorem ei_zip {xs ys : List Dt} (h : EvA K tr G M [.d (.lst xs), .d (.lst ys)] M1) : EvI K (iZip K tr) G M ((xs.zip ys).map fun p => .tup [p.1, p.2]) M1 := fun F B as σ H ow sl R k =>
  h F B as σ H ow sl _ fun vs B1 as1 H1 g1 p1 o1 r1 => by
    obtain ⟨v, rr, e, h1, u, rr2, e2, h2, e3⟩ := r1
    obtain ⟨a, vs1, rfl, q1, r1⟩ := h1
    obtain ⟨b, us1, rfl, q2, r2⟩ := h2
    have e3 : rr2 = [] := e3
    subst e3; subst e2; subst e
    exact ⟨a, b, vs1, us1, rfl, o1.bb.seq q1, o1.bb.seq q2, k _ B1 as1 H1 g1 p1 o1 (yl_zip q1 q2 r1 r2)⟩
/-! ### < of pairs: a number, a text -/
def rLtT (K : PySem.W.Frag) : R2 := fun x y H Q => ∃ p q i j l m, x = .ref p ∧ y = .ref q ∧ SqT K H p [.int i, .str (tx l)] ∧ SqT K H q [.int j, .str (tx m)] ∧ Q (.bl (if i = j then decide (l < m) else decide (i < j))) H
theorem ro_ltT {i j : Int} {l m : List Nat} : RO K (rLtT K) (.tup [.int i, .str l]) (.tup [.int j, .str m]) (.bl (if i = j then decide (l < m) else decide (i < j))) := fun F B as M H v u Q ow rv ru q => by
  obtain ⟨a, vs, rfl, q1, v1, r1, e1, h1, v2, r2, e2, h2, h3⟩ := rv
  obtain ⟨b, us, rfl, q2, u1, s1, f1, g1, u2, s2, f2, g2, g3⟩ := ru
  have h1 : v1 = V.int i := h1
  have h2 : v2 = V.str (tx l) := h2
  have h3 : r2 = [] := h3
  have g1 : u1 = V.int j := g1
  have g2 : u2 = V.str (tx m) := g2
  have g3 : s2 = [] := g3
  subst h3; subst h2; subst h1; subst g3; subst g2; subst g1; subst e2; subst e1; subst f2; subst f1
  exact ⟨a, b, i, j, l, m, rfl, rfl, same_t ow.bb q1, same_t ow.bb q2, q _ B H (Gr.refl F B) ow rfl⟩
end
theorem op_ltT {X : Cx} (hr : Room 0 X.A) : OpR X (compareOp .Lt) (rLtT X.K) := by
  intro pins s σ H x y v u Q I rx ry h
  obtain ⟨p, q, i, j, l, m, rfl, rfl, h1, h2, hq⟩ := h
  cases (show v = Value.ref p from rx)
  cases (show u = Value.ref q from ry)
  obtain ⟨its, r1, t1, _⟩ := I.tuple h1
  obtain ⟨its2, r2, t2, _⟩ := I.tuple h2
  obtain ⟨a1, a2, rfl, ra1, ra2⟩ := vals2 r1
  obtain ⟨b1, b2, rfl, rb1, rb2⟩ := vals2 r2
  obtain ⟨k1, rfl⟩ := (show ∃ t, a1 = Value.int i t from ra1)
  obtain ⟨k2, rfl⟩ := (show ∃ t, a2 = Value.str (tx l) t from ra2)
  obtain ⟨k3, rfl⟩ := (show ∃ t, b1 = Value.int j t from rb1)
  obtain ⟨k4, rfl⟩ := (show ∃ t, b2 = Value.str (tx m) t from rb2)
  show wpAny (model X.prog X.w) X.A (richCompare .Lt (.ref p) (.ref q)) (EP X pins σ Q) X.xe s
  refine Ob.RcOp.tuples_lt (e := fun k => match k with | 0 => i == j | _ => tx l == tx m) (r := fun k => match k with | 0 => decide (i < j) | _ => decide ((tx l).cps.toList < (tx m).cps.toList)) t1 t2 hr.units0 (fun k z1 z2 => ?_) (fun k z1 z2 _ => ?_) X.prog X.w X.xe _ ?_
  · match k with
    | 0 => exact SeqAt.EqAt.int_int i k1 j k3
    | 1 => exact SeqAt.EqAt.str_str (tx l) k2 (tx m) k4
    | k + 2 => exact absurd z1 (by simp)
  · match k with
    | 0 => exact Ob.RcOp.lt_int i j k1 k3
    | 1 => exact fun _ _ _ _ h => lt_str h
    | k + 2 => exact absurd z1 (by simp)
  · refine ⟨.bl (if i = j then decide (l < m) else decide (i < j)), H, I, ?_, hq⟩
    show Value.bool _ = Value.bool _
    congr 1
    show (if (i == j) = true then (if (tx l == tx m) = true then false else decide ((tx l).cps.toList < (tx m).cps.toList)) else decide (i < j)) = _
    by_cases h : i = j
    · subst h
      rw [if_pos (beq_self_eq_true i), if_pos rfl]
      by_cases h : l = m
      · subst h
        rw [if_pos (beq_self_eq_true _), decide_eq_false (List.lt_irrefl l)]
      · rw [if_neg (by
          intro z
          have z := congrArg (fun x : Str => x.cps.toList) (beq_iff_eq.mp z)
          exact h z)]
    · rw [if_neg (by rw [beq_iff_eq]; exact h), if_neg h]
end LJ
namespace LJ
open PySem PySem.Spec PyProof.Rows L2 LamX DJ
/-! ### == by a def of the class, of a value of another kind -/
inductive PlV : V → Value → Prop where
  | non : PlV .non (.type "NoneType")
  | int (i : Int) : PlV (.int i) (.type "int")
  | str (x : Str) : PlV (.str x) (.type "str")
def rOwnP (K : PySem.W.Frag) (C : Addr) (sp : Sp) (E : XK) : R2 := fun x y H Q => ∃ a dx fs t, x = .ref a ∧ H a = some (.ins C dx fs) ∧ PlV y t ∧ PySem.W.notFirst K C t = true ∧ sp [x, y] H Q E
theorem op_ownP {X : Cx} {CX : CXT} {C f : Addr} {fd : FuncData} {ps : List Str} {n : Nat} {sp : Sp} {E : XK} (F : FnOk X.prog X.w X.K X.mg X.base CX n f fd ps sp)
    (hs : PySem.W.findIn X.K (.ref C) "__eq__" = some (some (.ref f))) (hf : PySem.W.isFn X.K (.ref f) = true) (hb : Binds X.K fd ps []) (hr : Room n X.A) (hx : Passes CX X E) : OpR X (compareOp .Eq) (rOwnP X.K C sp E) := by
  intro pins s σ H x y v u Q I rx ry h
  obtain ⟨a, dx, fs, t, rfl, ha, hp, hn, q⟩ := h
  cases (show v = Value.ref a from rx)
  obtain ⟨mA, J, _⟩ := ins_get I.hok ha
  obtain ⟨od, J, _⟩ := J.look
  obtain ⟨m, hF⟩ := I.fr
  show wpAny (model X.prog X.w) X.A (richCompare .Eq (.ref a) u) (EP X pins σ Q) X.xe s
  have hl : PySem.W.Looks (model X.prog X.w) s.heap (typeOf u) t := by
    cases hp with
    | non => cases (show u = Value.none from ry); exact PySem.W.Looks.of_pure rfl
    | int i => obtain ⟨k, rfl⟩ := (show ∃ k, u = Value.int i k from ry); exact PySem.W.Looks.of_pure rfl
    | str z => obtain ⟨k, rfl⟩ := (show ∃ k, u = Value.str z k from ry); exact PySem.W.Looks.of_pure rfl
  refine PySem.W.cmp_K (op := .Eq) (tb := t) hr.units0 hF I.ok.mod.kin J hl hn hs hf ?_
  refine wpAny_mono (run_fn (us := [.ref a, u]) (vs := [.ref a, y]) (ds := []) (dvs := []) F hr hb .nil hx I (.cons rfl (.cons ry .nil)) (by rw [List.append_nil]; exact q)) (fun w s' z => ?_) fun _ _ x => x
  obtain ⟨z', H', I', rz, qz⟩ := z
  exact SlX.cmpback rz ⟨z', H', I', rz, qz⟩
theorem op_oeqP {X : Cx} {k j : Nat} {C : Addr} {sp : Sp} (c : OEq X.prog X.w X.K X.mg X.base k C sp) (hr : Room j X.A) (hk : k ≤ j) : OpR X (compareOp .Eq) (rOwnP X.K C sp L2.E0) := by
  obtain ⟨f, hs, hf, fd, ps, F, b⟩ := c.ex
  exact op_ownP F hs hf b (hr.mono hk) L2.pass0
section
variable {K : PySem.W.Frag} {F B B1 H H1 : Hp} {as as1 : List Addr} {G : List (Option Sl)} {M M1 M2 : List MO} {ta tb tv : TE} {tr tk : TA} {C : Addr} {fs gs : Fs} {E : XK}
theorem ro_ownP {R : List Sl → List MO → Sl → List MO → Prop} {z y : Dt} {t : Value} (ht : ∀ B v, Rp K B y v → PlV v t) (hn : PySem.W.notFirst K C t = true) (hR : R [.d (insD C fs), .d y] [] (.d z) []) : RO K (rOwnP K C (SpR K 2 R) E) (insD C fs) y z := fun F B as M H v u Q ow rv ru q => by
  obtain ⟨a, dx, rfl, ea⟩ := rp_ins (K := K) rv
  refine ⟨a, dx, fs, t, rfl, ow.bb _ _ ea, ht B u ru, hn, ?_⟩
  exact call_core (ds := [insD C fs, y]) hR rfl ow ⟨_, _, rfl, rv, _, _, rfl, ru, rfl⟩ fun w B' as' H' g o' r' => by
    obtain ⟨g2, o2⟩ := back0 ow g o'
    exact q w B' H' g2 o2 r'
/-! ### C(..) at large: what stands behind the new object -/
theorem made_own {x dx : Addr} (o1 : Ow K F B1 as1 M1 H1) (hx : H1 x = none) (hdx : H1 dx = none) (ne : dx ≠ x) :
    Ow K F (upd B1 dx (.own x)) as1 M1 (upd H1 dx (.own x)) ∧ Gr F B1 (upd B1 dx (.own x)) ∧ F x = none ∧ (upd H1 dx (.own x)) x = none ∧ Ow K (upd H1 dx (.own x)) (upd B1 dx (.own x)) [x] [insM C []] (upd (upd H1 dx (.own x)) x (.ins C dx [])) := by
  have od := o1.new hdx (.own x)
  have gd := o1.gr hdx (.own x)
  have hx1 : (upd H1 dx (.own x)) x = none := by rw [upd_ne (Ne.symm ne)]; exact hx
  have bx : (upd B1 dx (.own x)) x = none := od.bb.free hx1
  refine ⟨od, gd, od.fb.free hx1, hx1, ⟨fun b u e => ?_, fun b u e => ?_, rfl, by simp, fun b hb => ?_, fun b hb => ?_, fun j b m e1 e2 hm => ?_⟩⟩
  · rw [upd_ne (ne_of_none e hx1)]; exact e
  · rw [upd_ne (ne_of_none e bx)]; exact od.bb b u e
  · obtain rfl : b = x := by simpa using hb
    rw [upd_same]; exact fun z => nomatch z
  · obtain rfl : b = x := by simpa using hb
    exact hx1
  · cases j with
    | zero =>
      obtain rfl : x = b := Option.some.inj e1
      obtain rfl : insM C [] = m := Option.some.inj e2
      exact ⟨hx1, bx, _, upd_same, (by intro vs z; cases z), fun B' _ => ⟨dx, rfl⟩⟩
    | succ j => simp at e1
/-- C(k = v, ..) -/
theorem ev_makeK {n m : Nat} {R : List Sl → List MO → Sl → List MO → Prop} {ds es : List Dt} {gV : List V → List V → List V} (h : EvA K tk G M (ds.map Sl.d) M1) (hm : ds.length = m)
    (hg : ∀ x zs B, RpL K B ds zs → ∃ rs, gV [x] zs = x :: rs ∧ RpL K B es rs) (hR : R (.o 0 :: es.map Sl.d) [insM C []] (.d .non) [insM C fs]) (hn : es.length + 1 = n) :
    EvE K (tMakeK C 0 m (SpR K n R) gV E tNil tk) G M (.d (insD C fs)) M1 := fun F B as σ H ow sl Q q =>
  h F B as σ H ow sl _ fun zs B1 as1 H1 g1 p1 o1 r1 => ⟨rfl, by rw [r1.len, List.length_map]; exact hm, fun x dx hx hdx ne => by
    obtain ⟨od, gd, fx, hx1, oc⟩ := made_own (C := C) o1 hx hdx ne
    obtain ⟨rs, e, hr⟩ := hg (.ref x) zs B1 (SlL.data r1)
    rw [e]
    refine ⟨_, _, [x], .o 0 :: es.map Sl.d, [insM C []], .d .non, [insM C fs], hR, oc, ⟨.ref x, rs, rfl, ⟨x, rfl, rfl⟩, SlL.of_data (RpL.mono gd.1 _ _ hr)⟩, ?_, fun v B' as' H' g p o' r' => ⟨r', ?_⟩⟩
    · rw [List.length_cons, hr.len]; exact hn
    · obtain ⟨tl, rfl⟩ := p
      obtain ⟨f0, b0, o, ho, nt, φ⟩ := o'.own 0 x _ rfl rfl (fun z => nomatch z)
      obtain ⟨dx', rfl⟩ := φ B' (Same.refl B')
      obtain ⟨g2, o2⟩ := back0 od g o'
      obtain ⟨g3, o3⟩ := Ow_know o2 ho b0 fx (fun hm => od.al x hm hx1)
      exact q _ _ as1 H' (g1.trans (gd.trans (g2.trans g3))) p1 o3 (rp_ins_of (K := K) upd_same)⟩
end
/-! ### C(..), where __init__ may raise -/
def tMakeSD (C : Addr) (sp : Sp) (E : L2.St → XK) (t : TA) : TE := fun σ H Q => t σ H fun vs H1 => ∀ x dx, H1 x = none → H1 dx = none → dx ≠ x →
  sp (.ref x :: vs) (upd (upd H1 dx (.own x)) x (.ins C dx [])) (fun v H2 => v = .non ∧ Q (.ref x) H2) (E σ)
section
variable {X : Cx} {CX : CXT} {k : Nat} {f C : Addr} {fd : FuncData} {ps : List Str} {sp : Sp} {E : L2.St → XK} {x : Str} {p pos : Pos} {e : Expr} {es : List Expr} {t : TA}
theorem run_makeSD {pins : List (Addr × Obj)} {σ : L2.St} {H : Hp} {s : Shared} {Q : VK} {us : List Value} {vs : List V} (M : Mk X.K C f) (F : FnOk X.prog X.w X.K X.mg X.base CX k f fd ps sp) (hr : Room (k + 1) X.A) (hb : Binds X.K fd ps [])
    (hx : PassesAt CX X σ (E σ)) (I : Inv X pins σ H s) (r : Vals vs us)
    (h : ∀ x dx, H x = none → H dx = none → dx ≠ x → sp (.ref x :: vs) (upd (upd H dx (.own x)) x (.ins C dx [])) (fun v H2 => v = .non ∧ Q (.ref x) H2) (E σ)) :
    wpAny (model X.prog X.w) X.A (call (.ref C) us) (EP X pins σ Q) X.xe s := by
  have hq := h (s.heap.objs.size + 1) s.heap.objs.size (I.hok.fresh (Nat.le_succ _)) (I.hok.fresh (Nat.le_refl _)) (Nat.ne_of_lt (Nat.lt_succ_self _))
  have I2 := Inv.made (C := C) I
  have r2 : Vals (V.ref (s.heap.objs.size + 1) :: vs) (Value.ref (s.heap.objs.size + 1) :: us) := .cons rfl r
  have hl : (Value.ref (s.heap.objs.size + 1) :: us).length = ps.length := by
    have e := r2.length
    rw [F.len _ _ _ _ hq] at e
    exact e.symm
  refine wpAny_call (make_map (f := f) I.kIn M.makes M.init (beq_iff_eq.mp M.fn) (codeAny_mono (F.run _ X.stack _ _ ⟨Value.ref (s.heap.objs.size + 1) :: us, []⟩ (Value.ref (s.heap.objs.size + 1) :: us) _ _ (E σ) (hr.make C us [])
    (I2.env0.make C us []) (by
      have := hb _ (Value.ref (s.heap.objs.size + 1) :: us) I2.kIn (by rw [List.append_nil]; exact hl)
      rw [List.append_nil] at this
      exact this) r2 hq) fun r s' hq' => ?_))
  cases r with
  | error e => exact hx pins _ _ e s' I2 hq'
  | ok fl =>
    cases fl with
    | ret u =>
      obtain ⟨v, H', I3, rv, ev, q3⟩ := I2.after hq'
      subst ev
      exact ⟨rv, ⟨V.ref (s.heap.objs.size + 1), H', I3, rfl, q3⟩⟩
    | next => exact False.elim hq'
    | brk => exact False.elim hq'
    | cont => exact False.elim hq'
theorem pe_makeSD (M : Mk X.K C f) (F : FnOk X.prog X.w X.K X.mg X.base CX k f fd ps sp) (hr : Room (k + 1) X.A) (hg : Gl X x) (hm : X.mg x = some (.ref C)) (hb : Binds X.K fd ps []) (hx : ∀ σ, PassesAt CX X σ (E σ))
    (ha : PA X (e :: es) t) (hdb : (x == ("__debug__" : Str)) = false := by decide) (he : starEach (e :: es) X.env = (false, eval e X.env) :: starEach es X.env := by rfl) (hpl : (backTo pos (starEach es X.env)).any (·.1) = false := by rfl) :
    PE X (.Call (.Name x p) (e :: es) [] pos) (tMakeSD C sp E t) := by
  refine ⟨fun pins s σ H Q I h => ?_⟩
  refine wpAny_Call_Name_kw (ld_glob I hg hm ?_ hdb)
  refine PySem.W.callWith_K (h₀ := X.base) I.ok.mod.kin M.kp (thn (ha.run pos pins s σ H _ I h) fun us s1 ⟨vs, H1, I1, r, q⟩ => ⟨I1.kIn, ?_⟩) he hpl
  exact run_makeSD M F hr hb (hx σ) I1 r q
end
section
variable {K : PySem.W.Frag} {G : List (Option Sl)} {M M1 : List MO} {tr : TA} {C : Addr} {fs : Fs} {E : L2.St → XK} {W : WX} {x' : Ex} {n : Nat} {R : List Sl → List MO → Sl → List MO → Prop} {RX : List Sl → List MO → Ex → List MO → Prop} {ds : List Dt}
theorem ev_makeX (h : EvA K tr G M (ds.map Sl.d) M1) (hR : R (.o 0 :: ds.map Sl.d) [insM C []] (.d .non) [insM C fs]) (hn : ds.length + 1 = n) :
    EvE K (tMakeSD C (SpX K n R RX) E tr) G M (.d (insD C fs)) M1 := fun F B as σ H ow sl Q q =>
  h F B as σ H ow sl _ fun vs B1 as1 H1 g1 p1 o1 r1 => fun x dx hx hdx ne => by
    obtain ⟨od, gd, fx, hx1, oc⟩ := made_own (C := C) o1 hx hdx ne
    refine ⟨_, _, [x], .o 0 :: ds.map Sl.d, [insM C []], oc, ⟨.ref x, vs, rfl, ⟨x, rfl, rfl⟩, SlL.of_data (RpL.mono gd.1 _ _ (SlL.data r1))⟩, by rw [List.length_cons, r1.len, List.length_map]; exact hn, .inl ⟨.d .non, [insM C fs], hR, fun v B' as' H' g p o' r' => ⟨r', ?_⟩⟩⟩
    obtain ⟨tl, rfl⟩ := p
    obtain ⟨f0, b0, o, ho, nt, φ⟩ := o'.own 0 x _ rfl rfl (fun z => nomatch z)
    obtain ⟨dx', rfl⟩ := φ B' (Same.refl B')
    obtain ⟨g2, o2⟩ := back0 od g o'
    obtain ⟨g3, o3⟩ := Ow_know o2 ho b0 fx (fun hm => od.al x hm hx1)
    exact q _ _ as1 H' (g1.trans (gd.trans (g2.trans g3))) p1 o3 (rp_ins_of (K := K) upd_same)
theorem ex_makeX {N : List MO} (h : EvA K tr G M (ds.map Sl.d) M1) (hR : RX (.o 0 :: ds.map Sl.d) [insM C []] x' N) (hn : ds.length + 1 = n) :
    EvX K (tMakeSD C (SpX K n R RX) (WE W) tr) W G M x' M1 := fun F B as σ H ow sl q Q =>
  h F B as σ H ow sl _ fun vs B1 as1 H1 g1 p1 o1 r1 => fun x dx hx hdx ne => by
    obtain ⟨od, gd, fx, hx1, oc⟩ := made_own (C := C) o1 hx hdx ne
    refine ⟨_, _, [x], .o 0 :: ds.map Sl.d, [insM C []], oc, ⟨.ref x, vs, rfl, ⟨x, rfl, rfl⟩, SlL.of_data (RpL.mono gd.1 _ _ (SlL.data r1))⟩, by rw [List.length_cons, r1.len, List.length_map]; exact hn, .inr ⟨x', N, hR, fun cls d B' as' H' g p o' r' => ?_⟩⟩
    obtain ⟨g2, o2⟩ := back0 od g o'
    exact q B' as1 H' cls d (g1.trans (gd.trans g2)) p1 o2 r'
end
end LJ
namespace DJ
open PySem PySem.Spec PyProof.Rows L2
section
variable {K : PySem.W.Frag} {G G1 G2 : List (Option Sl)} {M M1 M2 : List MO} {ta tb te : TE} {tt : TT} {W : WX} {x : Ex}
/-- a text, or another one in the place of none -/
theorem ev_orS {l m : List Nat} (h1 : EvE K ta G M (.d (.str l)) M1) (hl : l.length ≤ 1000000) (h2 : l = [] → EvE K tb G M1 (.d (.str m)) M1) : EvE K (tOrT K ta tb) G M (.d (.str (if l = [] then m else l))) M1 := fun F B as σ H o sl Q q =>
  h1 F B as σ H o sl _ fun v B1 as1 H1 g1 p1 o1 r1 => by
    have r1 : v = .str (tx l) := r1
    subst r1
    have e1 : (tx l).length = l.length := by simp [Str.length]
    refine ⟨!decide (l = []), ⟨by rw [e1, sizeLine_eq]; omega, ?_⟩, ?_⟩
    · show _ = (((tx l).length : Int) != 0)
      rw [e1]
      cases l with
      | nil => rfl
      | cons a r => simp; omega
    · by_cases z : l = []
      · rw [decide_eq_true z, if_neg (by simp)]
        rw [if_pos z] at q
        exact h2 z F B1 as1 σ H1 o1 (sl.mono g1.1 p1) _ fun w B2 as2 H2 g2 p2 o2 r2 => q w B2 as2 H2 (g1.trans g2) (p1.trans p2) o2 r2
      · rw [decide_eq_false z, if_pos (by simp)]
        rw [if_neg z] at q
        exact q _ B1 as1 H1 g1 p1 o1 rfl
/-- a text of a module's dict -/
theorem ro_kd {w : World} {d : Addr} {k z : List Nat} (h : KDct K w d (tx k) (.str (tx z))) : RO K (rIxD K w) (.raw (.ref d)) (.str k) (.str z) := fun F B as M H v u Q ow r1 r2 q => by
  have r1 : v = .ref d := r1
  have r2 : u = .str (tx k) := r2
  subst r1; subst r2
  exact ⟨d, tx k, _, rfl, rfl, h, q _ B H (Gr.refl F B) ow rfl⟩
/-- a while that raises in one of its turns -/
theorem er_while {α : Type} {tb : TS} (enc : α → List (Option Sl)) (encM : α → List MO) (P : α → Prop) (μ : α → Nat) (a0 : α) (hp : P a0) (h0 : Lg G (enc a0)) (hM : M = encM a0)
    (test : ∀ a, P a → EvT K tt (enc a) (encM a) true (encM a))
    (turn : ∀ a, P a → (∃ a', P a' ∧ μ a' < μ a ∧ EvS K tb (enc a) (encM a) (.nx (enc a') (encM a'))) ∨ EvR K tb W (enc a) (encM a) x G2 M2) :
    EvR K (tWhile tt tb) W G M x G2 M2 := fun F B as σ H ow sl q D => by
  subst hM
  refine ⟨fun m σ' H' => ∃ B' as' a, m = μ a ∧ P a ∧ Gr F B B' ∧ Px as as' ∧ Ow K F B' as' (encM a) H' ∧ Slt K B' as' (enc a) σ', ⟨μ a0, B, as, a0, rfl, hp, Gr.refl F B, Px.refl as, ow, sl.weak h0⟩, fun m σ' H' z => ?_⟩
  obtain ⟨B1, as1, a, rfl, pa, g1, p1, o1, s1⟩ := z
  refine test a pa F B1 as1 σ' H' o1 s1 _ fun B2 as2 H2 g2 p2 o2 => ?_
  rw [if_pos rfl]
  have gg := g1.trans g2
  have pp := p1.trans p2
  refine ⟨fun σ3 H3 => ∃ B' as' a', P a' ∧ μ a' < μ a ∧ Gr F B B' ∧ Px as as' ∧ Ow K F B' as' (encM a') H3 ∧ Slt K B' as' (enc a') σ3, fun σ3 H3 n3 => ?_, ?_⟩
  · obtain ⟨B3, as3, a', pa', lt, q1, q2, q3, q4⟩ := n3
    exact ⟨μ a', lt, B3, as3, a', rfl, pa', q1, q2, q3, q4⟩
  · rcases turn a pa with ⟨a', pa', lt, ht⟩ | ht
    · exact ht F B2 as2 σ' H2 o2 (s1.mono g2.1 p2) _ fun B4 as4 σ4 H4 g4 p4 o4 s4 => ⟨B4, as4, a', pa', lt, gg.trans g4, pp.trans p4, o4, s4⟩
    · exact ht F B2 as2 σ' H2 o2 (s1.mono g2.1 p2) (fun B' as' σ4 H4 cls d g4 p4 o4 s4 r4 => q B' as' σ4 H4 cls d (gg.trans g4) (pp.trans p4) o4 s4 r4) _
/-- name op= e, of integers -/
theorem es_augI {i : Nat} {a b : Int} {f : Int → Int → Int} (hi : G[i]? = some (some (.d (.int a)))) (h : EvE K te G M (.d (.int b)) M1) : EvS K (tAug i te (ipI f)) G M (.nx (G.set i (some (.d (.int (f a b))))) M1) := fun F B as σ H ow sl D gd => by
  obtain ⟨v, e, r⟩ := sl.2 i _ hi
  have r : v = .int a := r
  subst r
  refine ⟨_, e, h F B as σ H ow sl _ fun v B' as' H' g p o' r => ?_⟩
  have r : v = .int b := r
  subst r
  exact ⟨a, b, rfl, rfl, gd B' as' _ H' g p o' ((sl.mono g.1 p).set i rfl)⟩
/-- a while that is passed -/
theorem es_while_no {tb : TS} (h : EvT K tt G M false M) : EvS K (tWhile tt tb) G M (.nx G M) :=
  es_while (α := Unit) (fun _ => G) (fun _ => M) (fun _ => True) (fun _ => false) (fun _ => .inl ()) (fun _ => 0) (fun _ => .inl ()) () trivial (fun _ _ => rfl) (Lg.refl G) rfl (fun _ _ => h) (fun _ _ h => nomatch h)
theorem Ow.letgo {F B H : Hp} {as : List Addr} (h : Ow K F B as M H) (k : Nat) : Ow K F B as (M.set k .gone) H := by
  refine ⟨h.fb, h.bb, by rw [List.length_set]; exact h.len, h.nd, h.al, h.fa, fun j c n q1 q2 hn => ?_⟩
  by_cases z : k = j
  · subst z
    by_cases hl : k < M.length
    · rw [List.getElem?_set_self hl] at q2
      exact absurd (Option.some.inj q2).symm hn
    · rw [List.getElem?_eq_none (by rw [List.length_set]; omega)] at q2
      cases q2
  · rw [List.getElem?_set_ne z] at q2
    exact h.own j c n q1 q2 hn
theorem er_gone {t : TS} (k : Nat) (h : EvR K t W G M x G1 M1) : EvR K t W G M x G1 (M1.set k .gone) := fun F B as σ H ow sl q D =>
  h F B as σ H ow sl (fun B' as' σ' H' cls d g p o' s' r => q B' as' σ' H' cls d g p (o'.letgo k) s' r) D
theorem er_nM {t : TS} {M' : List MO} (e : M = M') (h : EvR K t W G M' x G1 M1) : EvR K t W G M x G1 M1 := e ▸ h
theorem es_whileO {α : Type} {tb : TS} {o : Out} (enc : α → List (Option Sl)) (encM : α → List MO) (P : α → Prop) (c : α → Bool) (f : α → α ⊕ Out) (μ : α → Nat) (w : α → α ⊕ Out) (a0 : α) (he : outF enc encM (w a0) = o) (hp : P a0)
    (hw : ∀ a, P a → w a = if c a = true then (match f a with | .inl a' => w a' | .inr o => .inr o) else .inl a)
    (h0 : Lg G (enc a0)) (hM : M = encM a0) (test : ∀ a, P a → EvT K tt (enc a) (encM a) (c a) (encM a))
    (turn : ∀ a, P a → c a = true → Turns K enc encM tb (enc a) (encM a) (f a) ∧ ∀ a', f a = .inl a' → P a' ∧ μ a' < μ a) :
    EvS K (tWhile tt tb) G M o := he ▸ es_while enc encM P c f μ w a0 hp hw h0 hM test turn
end
theorem es_forNn {K : PySem.W.Frag} {G : List (Option Sl)} {M : List MO} {β : Type} {wi : TI} {g : TG} {tb : TS} (xs : List β) (n : Nat) (hn : xs.length = n) (en : β → Dt) (Gn : Nat → List (Option Sl)) (Mn : Nat → List MO) (hI : EvI K wi G M (xs.map en) (Mn 0)) (h0 : Lg G (Gn 0))
    (turn : ∀ (i : Nat) (x : β), i < n → xs[i]? = some x → ∃ G1, EvG K g (Gn i) (.d (en x)) G1 ∧ EvS K tb G1 (Mn i) (.nx (Gn (i + 1)) (Mn (i + 1)))) : EvS K (tFor wi g tb) G M (.nx (Gn n) (Mn n)) := by
  subst hn
  exact es_forN xs en Gn Mn hI h0 fun i x hx => by
    obtain ⟨G1, h1, h2⟩ := turn i x (List.getElem?_eq_some_iff.mp hx).1 hx
    exact ⟨G1, h1, .inl h2⟩
theorem gc_ref {K : PySem.W.Frag} {h : Heap} {mg : Str → Option Value} {x : Str} {a : Addr} (X : K.In h) (G : h.Ns mainGlobals mg) (e : PySem.W.nsIn K mainGlobals x = some (some (.ref a))) : Gc K mg x (.raw (.ref a)) := ⟨.ref a, _, PySem.W.mg_of X G e, rfl, fun _ => rfl⟩
end DJ
namespace DJ
open PySem PySem.Spec PyProof.Rows L2
/-! ### a dict of the module, texts to texts: all its keys are told -/
abbrev Kvs := List (List Nat × List Nat)
def getK : Kvs → List Nat → Option (List Nat)
  | [], _ => none
  | (k, v) :: r, z => if k = z then some v else getK r z
def entsOf : Kvs → List DictEntry → Bool
  | [], [] => true
  | (k, v) :: r, e :: es => (match e.key, e.val with
    | .str x _, .str y _ => decide (x = tx k) && decide (y = tx v)
    | _, _ => false) && entsOf r es
  | _, _ => false
structure TDict (K : PySem.W.Frag) (w : World) (d : Addr) (kvs : Kvs) (es : Array DictEntry) (n : Nat) : Prop where
  kd : KDict K w d es n
  ents : entsOf kvs es.toList = true
theorem isStr_tx (x : Str) (t : Tok) (z : Str) : (Value.str x t).isStr z = (x == z) := rfl
theorem find_ents : ∀ {kvs : Kvs} {l : List DictEntry}, entsOf kvs l = true → ∀ z, match getK kvs z with
    | some v => ∃ e t, l.find? (·.key.isStr (tx z)) = some e ∧ e.val = .str (tx v) t
    | none => l.find? (·.key.isStr (tx z)) = none ∧ l.any (·.refKey) = false
  | [], [], _, z => ⟨rfl, rfl⟩
  | [], _ :: _, h, z => by cases h
  | _ :: _, [], h, z => by cases h
  | (k, v) :: r, e :: es, h, z => by
    obtain ⟨hs, key, val⟩ := e
    unfold entsOf at h
    rw [Bool.and_eq_true] at h
    obtain ⟨h1, h2⟩ := h
    have ih := find_ents h2 z
    cases key <;> try (exact absurd h1 Bool.false_ne_true)
    rename_i x t
    cases val <;> try (exact absurd h1 Bool.false_ne_true)
    rename_i y u
    simp only [Bool.and_eq_true, decide_eq_true_eq] at h1
    obtain ⟨rfl, rfl⟩ := h1
    unfold getK
    by_cases q : k = z
    · subst q
      rw [if_pos rfl]
      exact ⟨_, u, List.find?_cons_of_pos (by rw [isStr_tx]; exact beq_self_eq_true _), rfl⟩
    · rw [if_neg q]
      have hn : ¬ (Value.str (tx k) t).isStr (tx z) = true := by
        rw [isStr_tx]
        intro e
        exact q (tx_inj (eq_of_beq e))
      have e1 : ∀ (o : DictEntry), o.key = .str (tx k) t → (o :: es).find? (·.key.isStr (tx z)) = es.find? (·.key.isStr (tx z)) := fun o ho => List.find?_cons_of_neg (by rw [ho]; exact hn)
      rw [e1 _ rfl]
      cases hg : getK r z with
      | some v' => rw [hg] at ih; exact ih
      | none =>
        rw [hg] at ih
        refine ⟨ih.1, ?_⟩
        rw [List.any_cons, ih.2] <;> rfl
section
variable {K : PySem.W.Frag} {w : World} {d : Addr} {kvs : Kvs} {es : Array DictEntry} {n : Nat}
theorem TDict.hit (D : TDict K w d kvs es n) {z v : List Nat} (h : getK kvs z = some v) : KDct K w d (tx z) (.str (tx v)) := by
  have := find_ents D.ents z
  rw [h] at this
  obtain ⟨e, t, h1, h2⟩ := this
  refine ⟨es, n, .str (tx v) t, D.kd.at_, D.kd.lit, ?_, ⟨t, rfl⟩⟩
  unfold PySem.W.nsIn
  rw [D.kd.at_]
  show (match es.toList.find? (·.key.isStr (tx z)) with | some e => some (some e.val) | none => if es.toList.any (·.refKey) then none else some none) = _
  rw [h1]
  show some (some e.val) = _
  rw [h2]
theorem TDict.ns (D : TDict K w d kvs es n) (z : List Nat) : ∃ r, PySem.W.nsIn K d (tx z) = some r ∧ r.isSome = (getK kvs z).isSome := by
  have := find_ents D.ents z
  unfold PySem.W.nsIn
  rw [D.kd.at_]
  show ∃ r, (match es.toList.find? (·.key.isStr (tx z)) with | some e => some (some e.val) | none => if es.toList.any (·.refKey) then none else some none) = some r ∧ _
  cases h : getK kvs z with
  | some v =>
    rw [h] at this
    obtain ⟨e, t, h1, h2⟩ := this
    rw [h1]
    exact ⟨_, rfl, rfl⟩
  | none =>
    rw [h] at this
    rw [this.1, this.2]
    exact ⟨none, rfl, rfl⟩
theorem ro_inKd (D : TDict K w d kvs es n) {z : List Nat} : RO K (fun x y H Q => ∃ (z : Str) (r : Option Value), x = .str z ∧ y = .ref d ∧ PySem.W.nsIn K d z = some r ∧ Q (.bl r.isSome) H) (.str z) (.raw (.ref d)) (.bl (getK kvs z).isSome) := fun F B as M H v u Q ow r1 r2 q => by
  have r1 : v = .str (tx z) := r1
  have r2 : u = .ref d := r2
  subst r1; subst r2
  obtain ⟨r, h1, h2⟩ := D.ns z
  exact ⟨tx z, r, rfl, rfl, h1, q _ B H (Gr.refl F B) ow (by rw [h2] <;> rfl)⟩
end
end DJ
/-! ### text.find(one sign, place) -/
namespace DJ
open PySem PySem.Spec PyProof.Rows L2
theorem occ_full (s y : Str) (hi : Nat) : ∀ (l : List Nat) (st : Array Nat × Nat), st.1.size = 1 → (forIn l st (StrLaws.occBody s y hi 1)).run.1 = st.1
  | [], st, _ => rfl
  | a :: l, st, h => by
    rw [List.forIn_cons]
    unfold StrLaws.occBody
    rw [if_neg (fun z => by have := z.1.1.1; omega)]
    exact occ_full s y hi l _ h
theorem occ_first (s y : Str) (hi : Nat) : ∀ (m cur free : Nat), free ≤ cur → ∀ i, cur ≤ i → i < cur + m → i + y.length ≤ hi → Builtin.Str.subAt s y i = true → (∀ k, cur ≤ k → k < i → Builtin.Str.subAt s y k = false) →
    (forIn (List.range' cur m) ((#[] : Array Nat), free) (StrLaws.occBody s y hi 1)).run.1.toList = [i]
  | 0, cur, free, _, i, h1, h2, _, _, _ => by omega
  | m + 1, cur, free, hf, i, h1, h2, h3, h4, h5 => by
    rw [List.range'_succ, List.forIn_cons]
    unfold StrLaws.occBody
    by_cases e : cur = i
    · subst e
      rw [if_pos ⟨⟨⟨by simp, hf⟩, h3⟩, h4⟩]
      have := occ_full s y hi (List.range' (cur + 1) m) ((#[] : Array Nat).push cur, cur + y.length) rfl
      show (forIn (List.range' (cur + 1) m) ((#[] : Array Nat).push cur, cur + y.length) (StrLaws.occBody s y hi 1)).run.1.toList = _
      rw [this] <;> rfl
    · rw [if_neg (fun z => by have := h5 cur (Nat.le_refl _) (by omega); rw [this] at z; exact absurd z.2 (by decide))]
      exact occ_first s y hi m (cur + 1) free (by omega) i (by omega) (by omega) h3 h4 (fun k k1 k2 => h5 k (by omega) k2)
theorem find3_tx {t l r : List Nat} {c p : Nat} (h : t.drop p = l ++ c :: r) (hn : c ∉ l) : Txt.find3 (tx t) (tx [c]) (p : Int) = ((p + l.length : Nat) : Int) := by
  have hp : p + (l.length + (r.length + 1)) = t.length := by
    have := congrArg List.length h
    rw [List.length_drop, List.length_append, List.length_cons] at this
    omega
  have hf : PySem.fromIndex (tx t).length (p : Int) = p := by
    unfold PySem.fromIndex
    rw [if_neg (by omega)]
    omega
  have ge : ∀ i, p ≤ i → Builtin.Str.subAt (tx t) (tx [c]) i = (((l ++ c :: r).drop (i - p)).take 1 == [c]) := fun i hi => by
    rw [sub_tl, ← h, List.drop_drop]
    have : p + (i - p) = i := by omega
    rw [this] <;> rfl
  unfold Txt.find3
  rw [hf, StrLaws.occ_eq, tx_len]
  rw [occ_first (tx t) (tx [c]) t.length (t.length + 1 - p) p p (Nat.le_refl _) (p + l.length) (by omega) (by omega) (by rw [tx_len]; show p + l.length + 1 ≤ _; omega) ?_ ?_]
  · rw [ge _ (by omega), Nat.add_sub_cancel_left, List.drop_left]
    exact beq_self_eq_true _
  · intro k k1 k2
    rw [ge k k1]
    have hk : k - p < l.length := by omega
    rw [List.drop_append_of_le_length (by omega)]
    refine beq_eq_false_iff_ne.mpr fun z => hn ?_
    rw [List.drop_eq_getElem_cons hk, List.cons_append, List.take_succ_cons] at z
    have z : l[k - p] = c := (List.cons.inj z).1
    rw [← z]
    exact List.getElem_mem hk
theorem rm_find3 {K : PySem.W.Frag} {t l r : List Nat} {c p : Nat} (h : t.drop p = l ++ c :: r) (hn : c ∉ l) : RM K (fun x xs H Q => ∃ (a b : Str) (i : Int), x = .str a ∧ xs = [.str b, .int i] ∧ Q (.int (Txt.find3 a b i)) H) (.str t) [.str [c], .int (p : Int)] (.int ((p + l.length : Nat) : Int)) := fun F B as M H v vs Q ow r1 r2 q => by
  obtain ⟨v1, rr, e, h1, v2, rr2, e2, h2, h3⟩ := r2
  obtain rfl : v = V.str (tx t) := r1
  obtain rfl : v1 = V.str (tx [c]) := h1
  obtain rfl : v2 = V.int (p : Int) := h2
  obtain rfl : rr2 = [] := h3
  subst e2; subst e
  refine ⟨tx t, tx [c], (p : Int), rfl, rfl, ?_⟩
  rw [find3_tx h hn]
  exact q _ B H (Gr.refl F B) ow rfl
/-- a while whose test changes what is owned -/
theorem es_whileT {K : PySem.W.Frag} {G : List (Option Sl)} {M : List MO} {tt : TT} {o : Out} {α : Type} {tb : TS} (enc : α → List (Option Sl)) (encM encT : α → List MO) (P : α → Prop) (c : α → Bool) (f : α → α ⊕ Out) (μ : α → Nat) (w : α → α ⊕ Out) (a0 : α) (he : outF enc encM (w a0) = o) (hp : P a0)
    (hw : ∀ a, P a → w a = if c a = true then (match f a with | .inl a' => w a' | .inr o => .inr o) else .inl a)
    (h0 : Lg G (enc a0)) (hM : M = encM a0) (hT : ∀ a, P a → c a = false → encT a = encM a) (test : ∀ a, P a → EvT K tt (enc a) (encM a) (c a) (encT a))
    (turn : ∀ a, P a → c a = true → Turns K enc encM tb (enc a) (encT a) (f a) ∧ ∀ a', f a = .inl a' → P a' ∧ μ a' < μ a) :
    EvS K (tWhile tt tb) G M o := fun F B as σ H ow sl D gd => by
  subst hM
  subst he
  refine ⟨fun m σ' H' => ∃ B' as' a, m = μ a ∧ P a ∧ w a = w a0 ∧ Gr F B B' ∧ Px as as' ∧ Ow K F B' as' (encM a) H' ∧ Slt K B' as' (enc a) σ', ⟨μ a0, B, as, a0, rfl, hp, rfl, Gr.refl F B, Px.refl as, ow, sl.weak h0⟩, fun m σ' H' q => ?_⟩
  obtain ⟨B1, as1, a, rfl, pa, wa, g1, p1, o1, s1⟩ := q
  refine test a pa F B1 as1 σ' H' o1 s1 _ fun B2 as2 H2 g2 p2 o2 => ?_
  have hwa := hw a pa
  cases ec : c a with
  | false =>
    rw [ec] at hwa
    rw [if_neg Bool.false_ne_true] at hwa ⊢
    rw [← wa, hwa] at gd
    rw [hT a pa ec] at o2
    exact gd B2 as2 σ' H2 (g1.trans g2) (p1.trans p2) o2 (s1.mono g2.1 p2)
  | true =>
    rw [ec] at hwa
    rw [if_pos rfl] at hwa ⊢
    obtain ⟨ht, hd⟩ := turn a pa ec
    refine ⟨fun σ3 H3 => ∃ B' as' a', f a = .inl a' ∧ Gr F B B' ∧ Px as as' ∧ Ow K F B' as' (encM a') H3 ∧ Slt K B' as' (enc a') σ3, fun σ3 H3 n3 => ?_, ?_⟩
    · obtain ⟨B3, as3, a', e, q1, q2, q3, q4⟩ := n3
      obtain ⟨pa', lt⟩ := hd a' e
      rw [e] at hwa
      exact ⟨μ a', lt, B3, as3, a', rfl, pa', hwa.symm.trans wa, q1, q2, q3, q4⟩
    · have gg := g1.trans g2
      have pp := p1.trans p2
      cases e : f a with
      | inl a' =>
        rw [e] at ht
        rcases ht with ht | ht
        · exact ht F B2 as2 σ' H2 o2 (s1.mono g2.1 p2) _ fun B4 as4 σ4 H4 g4 p4 o4 s4 => ⟨B4, as4, a', rfl, gg.trans g4, pp.trans p4, o4, s4⟩
        · exact ht F B2 as2 σ' H2 o2 (s1.mono g2.1 p2) _ fun B4 as4 σ4 H4 g4 p4 o4 s4 => ⟨B4, as4, a', rfl, gg.trans g4, pp.trans p4, o4, s4⟩
      | inr o =>
        rw [e] at ht hwa
        rw [← wa, hwa] at gd
        cases o with
        | nx G' M' => exact ht F B2 as2 σ' H2 o2 (s1.mono g2.1 p2) _ fun B4 as4 σ4 H4 g4 p4 o4 s4 => gd B4 as4 σ4 H4 (gg.trans g4) (pp.trans p4) o4 s4
        | rt r M' => exact ht F B2 as2 σ' H2 o2 (s1.mono g2.1 p2) _ fun v B4 as4 H4 g4 p4 o4 s4 => gd v B4 as4 H4 (gg.trans g4) (pp.trans p4) o4 s4
        | bk _ _ => exact ht.elim
        | ct _ _ => exact ht.elim
/-- text.m(a, b) -/
def tM2 (r : V → List V → Hp → VK → Prop) (to te tf : TE) : TE := fun σ H Q => to σ H fun x H1 => (∃ a, x = .str a) ∧ te σ H1 fun y H2 => tf σ H2 fun z H3 => r x [y, z] H3 Q
theorem pe_m2 {X : Cx} {o e e' : Expr} {to te tf : TE} {id : String} {name : Str} {apos pos : Pos} {r : V → List V → Hp → VK → Prop} (slot : PySem.Slot "str" name id) (ty : typeOf (.builtin id) = pure (.type "method_descriptor")) (rule : MtR X id r) (ho : PE X o to) (he : PE X e te) (hf : PE X e' tf)
    (hs : starEach [e, e'] X.env = [(false, eval e X.env), (false, eval e' X.env)] := by rfl) (hbase : attributeBase o name X.env (eval o X.env) = eval o X.env := by rfl) (hline : (apos.endLine == pos.line) = true := by rfl) :
    PE X (.Call (.Attribute o name apos) [e, e'] [] pos) (tM2 r to te tf) := by
  refine ⟨fun pins s σ H Q I h => ?_⟩
  refine PySem.Call_method2 hbase hs hline (thn (ho.run pins s σ H _ I h) fun v s1 ⟨x, H1, I1, r1, q1⟩ => ?_)
  obtain ⟨⟨a, rfl⟩, q1⟩ := q1
  obtain ⟨t, rfl⟩ := _root_.id r1
  refine ⟨"str", _, PySem.F.plainAttrs_str, slot, ty, typeIs_str _ _ _, (fun _ e => nomatch e), Calls.callWith_builtin rfl (Calls.evalArgs_plain (Calls.spliced_cons ?_))⟩
  exact thn (he.run pins s1 σ H1 _ I1 q1) fun u s2 ⟨y, H2, I2, r2, q2⟩ => Calls.spliced_cons (thn (hf.run pins s2 σ H2 _ I2 q2) fun u' s3 ⟨z, H3, I3, r3, q3⟩ => Calls.spliced_nil (rule pins s3 σ H3 _ [y, z] _ [u, u'] Q I3 r1 (.cons r2 (.cons r3 .nil)) q3))
theorem ev_m2 {K : PySem.W.Frag} {G : List (Option Sl)} {M M1 M2 M3 : List MO} {ta tb tc : TE} {l : List Nat} {y y' z : Dt} {rm : V → List V → Hp → VK → Prop} (ha : EvE K ta G M (.d (.str l)) M1) (hb : EvE K tb G M1 (.d y) M2) (hc : EvE K tc G M2 (.d y') M3) (hr : RM K rm (.str l) [y, y'] z) : EvE K (tM2 rm ta tb tc) G M (.d z) M3 := fun F B as σ H ow sl Q q =>
  ha F B as σ H ow sl _ fun v B1 as1 H1 g1 p1 o1 r1 => ⟨⟨tx l, r1⟩, hb F B1 as1 σ H1 o1 (sl.mono g1.1 p1) _ fun u B2 as2 H2 g2 p2 o2 r2 =>
    hc F B2 as2 σ H2 o2 (sl.mono (g1.trans g2).1 (p1.trans p2)) _ fun u' B3 as3 H3 g3 p3 o3 r3 =>
      hr F B3 as3 M3 H3 v [u, u'] Q o3 (Rp.mono (g2.trans g3).1 _ _ r1) ⟨u, [u'], rfl, Rp.mono g3.1 _ _ r2, RpL.one r3⟩ fun w B4 H4 g4 o4 r4 => q w B4 as3 H4 (g1.trans (g2.trans (g3.trans g4))) (p1.trans (p2.trans p3)) o4 r4⟩
end DJ
/-! ### instances of a class with methods -/
namespace LJ
open PySem PySem.Spec PyProof.Rows L2 LamX DJ
section
variable {K : PySem.W.Frag} {F B B1 H H1 : Hp} {as as1 : List Addr} {G : List (Option Sl)} {M M1 M2 : List MO} {ta tb tv : TE} {tr tk t : TA} {C : Addr} {fs gs : Fs} {E : XK}
/-- e.f of the instance that is owned -/
theorem ev_fldM {k : Nat} {f : Str} {v : V} {y : Dt} (h : EvE K ta G M (.o k) M1) (hm : M1[k]? = some (insM C fs)) (c : Cls K C) (n : NoAttr K C f) (l : fs.lookup f = some v) (r : ∀ B, Rp K B y v) : EvE K (tFld K ta f) G M (.d y) M1 := fun F B as σ H ow sl Q q =>
  h F B as σ H ow sl _ fun x B1 as1 H1 g1 p1 o1 r1 => by
    obtain ⟨a, ha, rfl⟩ := r1
    obtain ⟨f0, b0, o, ho, nt, φ⟩ := o1.own k a _ ha hm (fun z => nomatch z)
    obtain ⟨dx, rfl⟩ := φ B1 (Same.refl B1)
    exact ⟨a, C, dx, fs, v, rfl, ho, c, n, l, q v B1 as1 H1 g1 p1 o1 (r B1)⟩
/-- e.f of an instance that is data -/
theorem ev_fldD {f : Str} {v : V} {y : Dt} (h : EvE K ta G M (.d (insD C fs)) M1) (c : Cls K C) (n : NoAttr K C f) (l : fs.lookup f = some v) (r : ∀ B, Rp K B y v) : EvE K (tFld K ta f) G M (.d y) M1 := fun F B as σ H ow sl Q q =>
  h F B as σ H ow sl _ fun x B1 as1 H1 g1 p1 o1 r1 => by
    obtain ⟨a, dx, rfl, e⟩ := rp_ins (K := K) r1
    exact ⟨a, C, dx, fs, v, rfl, o1.bb _ _ e, c, n, l, q v B1 as1 H1 g1 p1 o1 (r B1)⟩
/-- e.f += value -/
theorem es_fldAug {k : Nat} {f : Str} {x y z : Dt} {v u : V} {rd : R2} (hs : EvE K ta G M (.o k) M1) (hm : M1[k]? = some (insM C fs)) (c : Cls K C) (n : NoAttr K C f) (l : fs.lookup f = some v) (rv : ∀ B, Rp K B x v) (hv : EvE K tv G M1 (.d y) M1) (ro : RO K rd x y z) (hz : ∀ B w, Rp K B z w → w = u) (hl : (putF f u fs).length ≤ 1000) (hl2 : fs.length < 1000) :
    EvS K (sFldAug K ta tv rd f) G M (.nx G (M1.set k (insM C (putF f u fs)))) := fun F B as σ H ow sl D gd =>
  hs F B as σ H ow sl _ fun x' B1 as1 H1 g1 p1 o1 r1 => by
    obtain ⟨a, ha, rfl⟩ := r1
    obtain ⟨f0, b0, o, ho, nt, φ⟩ := o1.own k a _ ha hm (fun z => nomatch z)
    obtain ⟨dx, rfl⟩ := φ B1 (Same.refl B1)
    refine ⟨a, C, dx, fs, v, rfl, ho, c, n, l, ?_⟩
    refine hv F B1 as1 σ H1 o1 (sl.mono g1.1 p1) _ fun y' B2 as2 H2 g2 p2 o2 r2 => ?_
    refine ro F B2 as2 M1 H2 v y' _ o2 (rv B2) r2 fun w B3 H3 g3 o3 r3 => ?_
    obtain rfl := hz B3 w r3
    have ha2 : as2[k]? = some a := by
      obtain ⟨tl, rfl⟩ := p2
      rw [List.getElem?_append_left (List.getElem?_eq_some_iff.mp ha).1]; exact ha
    obtain ⟨_, _, o, ho, nt, φ⟩ := o3.own k a _ ha2 hm (fun z => nomatch z)
    obtain ⟨dx', rfl⟩ := φ B3 (Same.refl B3)
    exact ⟨dx', fs, ho, hl2, gd B3 as2 σ _ (g1.trans (g2.trans g3)) (p1.trans p2) (o3.put ha2 hm (fun z => nomatch z) ⟨_, upd_same, (by intro vs z; cases z), fun B' _ => ⟨dx', rfl⟩⟩) (sl.mono (g1.trans (g2.trans g3)).1 (p1.trans p2))⟩
/-- self.m(..): the owned instance is handed on, alone -/
theorem ev_meth {n : Nat} {R : List Sl → List MO → Sl → List MO → Prop} {m : Str} {ds : List Dt} {z : Dt} (h : EvE K ta G M (.o 0) [insM C fs]) (l : fs.lookup m = none) (ht : EvA K t G [insM C fs] (ds.map Sl.d) [insM C fs]) (hR : R (.o 0 :: ds.map Sl.d) [insM C fs] (.d z) M2) (hn : ds.length + 1 = n) :
    EvE K (tMeth C m (SpR K n R) [] E ta t) G M (.d z) M2 := fun F B as σ H ow sl Q q =>
  h F B as σ H ow sl _ fun x B1 as1 H1 g1 p1 o1 r1 => by
    obtain ⟨a, ha, rfl⟩ := r1
    obtain ⟨f0, b0, o, ho, nt, φ⟩ := o1.own 0 a _ ha rfl (fun z => nomatch z)
    obtain ⟨dx, rfl⟩ := φ B1 (Same.refl B1)
    refine ⟨a, dx, fs, rfl, ho, l, ?_⟩
    refine ht F B1 as1 σ H1 o1 (sl.mono g1.1 p1) _ fun vs B2 as2 H2 g2 p2 o2 r2 => ?_
    have ha2 : as2[0]? = some a := by
      obtain ⟨tl, rfl⟩ := p2
      rw [List.getElem?_append_left (List.getElem?_eq_some_iff.mp ha).1]; exact ha
    refine ⟨F, B2, as2, .o 0 :: ds.map Sl.d, [insM C fs], .d z, M2, hR, o2, ⟨.ref a, vs ++ [], rfl, ⟨a, ha2, rfl⟩, by rw [List.append_nil]; exact r2⟩, by rw [List.append_nil, List.length_cons, r2.len, List.length_map]; exact hn, fun v B' as' H' g p o' r' => q v B' as' H' (g1.trans (g2.trans g)) (p1.trans (p2.trans p)) o' r'⟩
end
/-- a method, found in the class -/
structure Mth (P : Program) (w : World) (K : PySem.W.Frag) (mg : Str → Option Value) (base : Heap) (k : Nat) (C : Addr) (m : Str) (sp : Sp) : Prop where
  ex : ∃ (f : Addr), Cls K C ∧ Meth K C m f ∧ Mtd P w K mg base k f sp
theorem Mth.met {P : Program} {w : World} {K : PySem.W.Frag} {mg : Str → Option Value} {base : Heap} {k : Nat} {C : Addr} {m : Str} {sp : Sp} (c : Mth P w K mg base k C m sp) : C8.Met P w K mg base k C m sp [] := by
  obtain ⟨f, hc, hm, fd, ps, F, b⟩ := c.ex
  exact ⟨f, fd, ps, [], hc, hm, F, b, .nil⟩
/-! ### __init__ that may raise -/
structure MtdX (P : Program) (w : World) (K : PySem.W.Frag) (mg : Str → Option Value) (base : Heap) (k : Nat) (f : Addr) (sp : Sp) : Prop where
  ex : ∃ (fd : FuncData) (ps : List Str), FnOk P w K mg base (L2.CX P w) k f fd ps sp ∧ Binds K fd ps []
theorem mtd_mkKX {P : Program} {w : World} {K : PySem.W.Frag} {mg : Str → Option Value} {base : Heap} {x qual : Str} {f : Addr} {st : Stmt} {N ps : List Str} {k n : Nat} {R : List Sl → List MO → Sl → List MO → Prop} {RX : List Sl → List MO → Ex → List MO → Prop} (D : ∃ fd, L2.Fun K x qual st f fd ∧ Binds K fd ps []) (S : FnScope N ps (defScope st)) (hn : ps.length = n)
    (hb : ∀ (cdv : Value) (A : Around) (outer : List Env) (s : Shared) (H : Hp) (E : XK), Room k (A.deeper (envOfC qual (defScope st) s.heap.objs.size f cdv)) → Takes (cxOf (L2.CX P w) P w K mg base N qual (defScope st) f cdv A outer s H E) (fun cls d _ H => E cls d H) →
      PassesOwn (model P w) (cxOf (L2.CX P w) P w K mg base N qual (defScope st) f cdv A outer s H E).A (cxOf (L2.CX P w) P w K mg base N qual (defScope st) f cdv A outer s H E).env (cxOf (L2.CX P w) P w K mg base N qual (defScope st) f cdv A outer s H E).xe →
      (∀ ss M r M', R ss M r M' → ∃ t X G1, PSs (cxOf (L2.CX P w) P w K mg base N qual (defScope st) f cdv A outer s H E) (defBody st) t ∧ EvS K t (DJ.start N.length ss) M (.nx G1 (M' ++ X)) ∧ M.length ≤ M'.length ∧ r = .d .non) ∧
      (∀ ss M x' M', RX ss M x' M' → ∃ t X G', PSs (cxOf (L2.CX P w) P w K mg base N qual (defScope st) f cdv A outer s H E) (defBody st) t ∧ EvR K t (fun cls d _ H => E cls d H) (DJ.start N.length ss) M x' G' (M' ++ X) ∧ M.length ≤ M'.length)) :
    MtdX P w K mg base (k + 1) f (SpX K n R RX) := by
  obtain ⟨fd, F, b⟩ := D
  refine ⟨fd, ps, F.okX S (fun vs H Q E h => ?_) (fun cdv A outer s H vs Q E hr h => ?_), b⟩
  · obtain ⟨_, _, _, _, _, _, _, e, _⟩ := h
    rw [e, hn]
  · obtain ⟨F', B', as, ss, M, ow, sl, _, q⟩ := h
    obtain ⟨h1, h2⟩ := hb cdv A outer s H E hr (takes_of rfl rfl rfl rfl) (passes_of rfl)
    rcases q with ⟨r, M', hR, q⟩ | ⟨x', M', hR, q⟩
    · obtain ⟨t, X, G1, ht, he, hl, hr'⟩ := h1 ss M r M' hR
      subst hr'
      exact ⟨t, ht, run_bodyN (X := X) he hl ow sl q⟩
    · obtain ⟨t, X, G', ht, he, hl⟩ := h2 ss M x' M' hR
      exact ⟨t, ht, run_bodyX (X := X) he hl ow sl q⟩
structure MkrX (P : Program) (w : World) (K : PySem.W.Frag) (mg : Str → Option Value) (base : Heap) (k : Nat) (x : Str) (C : Addr) (sp : Sp) : Prop where
  ex : ∃ (f : Addr), Mk K C f ∧ mg x = some (.ref C) ∧ MtdX P w K mg base k f sp
theorem pe_mkrX {X : Cx} {W : WX} {k j : Nat} {C : Addr} {x : Str} {sp : Sp} {p pos : Pos} {e : Expr} {es : List Expr} {t : TA} (c : MkrX X.prog X.w X.K X.mg X.base k x C sp) (tk : Takes X W) (hr : Room j X.A) (hk : k + 1 ≤ j) (hg : Gl X x) (ha : PA X (e :: es) t)
    (hdb : (x == ("__debug__" : Str)) = false := by decide) (he : starEach (e :: es) X.env = (false, eval e X.env) :: starEach es X.env := by rfl) (hpl : (backTo pos (starEach es X.env)).any (·.1) = false := by rfl) :
    PE X (.Call (.Name x p) (e :: es) [] pos) (tMakeSD C sp (WE W) t) := by
  obtain ⟨f, M, hm, fd, ps, F, b⟩ := c.ex
  exact pe_makeSD M F (hr.mono hk) hg hm b (fun σ => L2.passAt tk σ) ha hdb he hpl
end LJ
namespace DJ
open PySem PySem.Spec PyProof.Rows L2
section
variable {K : PySem.W.Frag} {G : List (Option Sl)} {M M1 M2 : List MO} {ta tb : TE}
/-- == and != of a list that is owned, which stays owned -/
theorem ev_neO {k : Nat} {xs : List Dt} {e : Dt} (ha : EvE K ta G M (.o k) M1) (hb : EvE K tb G M1 (.d e) M2) (hm : M2[k]? = some (.lst xs)) (h1 : plD (.lst xs) = true) (h2 : plD e = true) (n1 : dpD (.lst xs) ≤ 64) (n2 : dpD e ≤ 64) :
    EvE K (tOp (rNeD K) ta tb) G M (.d (.bl (!eqD (.lst xs) e))) M2 := fun F B as σ H ow sl Q q =>
  ha F B as σ H ow sl _ fun v B1 as1 H1 g1 p1 o1 r1 => hb F B1 as1 σ H1 o1 (sl.mono g1.1 p1) _ fun u B2 as2 H2 g2 p2 o2 r2 => by
    obtain ⟨a, ha, rfl⟩ := r1
    obtain ⟨_, _, vs, hv, hr⟩ := o2.own k a _ (p2.get ha) hm (fun z => nomatch z)
    have r : Rp K H2 (.lst xs) (.ref a) := ⟨a, vs, rfl, .inl (.inl hv), RpL.mono o2.bb xs vs hr⟩
    exact ⟨_, _, dp_of (.lst xs) (.ref a) h1 r, dp_of e u h2 (Rp.mono o2.bb _ _ r2), shp_of h1 n1, shp_of h2 n2, q _ B2 as2 H2 (g1.trans g2) (p1.trans p2) o2 rfl⟩
end
end DJ
/-! ### f"..{n:X}": an integer's figures to the base 16 -/
namespace Hx16
open PySem PySem.W PySem.Spec PyProof.Rows PySem.Builtin PySem.Builtin.Str PySem.Builtin.Int
def hexA (a : Int) : List Nat := (Nat.toDigits 16 a.natAbs).map fun c => c.toUpper.toNat
def fX : PySem.Builtin.Float.FormatSpec := { align := 62, type := some 88 }
theorem hex_meets {a : Int} {t : Tok} (h0 : 0 ≤ a) (hz : (hexA a).length ≤ sizeLine) (u : Tok) : Meets (Builtin.«int.__format__» ⟨[.int a t, .str ("X" : PySem.Str) u], []⟩) (fun _ R s => ∀ t' k, R (.ok (.ret (.str ⟨(hexA a).toArray⟩ t'))) { s with toks := k }) := by
  apply KPc.meets_of; intro prog w A s Q E hq; unfold Builtin.«int.__format__»
  refine wpAny_bind (wpAny_of_eq (a := (Value.int a t, Value.str ("X" : PySem.Str) u)) rfl ?_)
  refine wpAny_bind (wpAny_of_eq (a := a) rfl ?_)
  simp only [show (Value.str (Str.ofString "X") u == Value.none) = false from rfl, Bool.false_eq_true, if_false, asStr?, pure_bind, show ((Str.ofString "X").length == 0) = false from by decide +kernel, bind_assoc]
  refine wpAny_bind (wpAny_typeNameOf (typeIs_str _ _ _) (by decide) fun nm => ?_)
  have e1 : (((List.drop 1 (Str.ofString "X").cps.toList).any fun x => decide (x ≥ 128)) || (decide ((Str.ofString "X").cps.getD 0 0 ≥ 128) && !([60, 62, 61, 94] : List Nat).contains ((Str.ofString "X").cps.getD 1 0))) = false := by decide +kernel
  simp only [e1, Bool.false_eq_true, if_false]
  refine wpAny_bind (wpAny_typeNameOfCut_int ?_)
  have hp : ∃ f : PySem.Builtin.Float.FormatSpec, Float.parseFormatSpec (Str.ofString "X").cps.toList "int" 62 = .ok f ∧ f.type = some 88 ∧ f.precision = none ∧ f.noNeg0 = false ∧ f.width = none ∧ f.alt = false ∧ f.grouping = none ∧ f.sign = none ∧ f.fill = 32 ∧ f.align = 62 := ⟨fX, by kernel_rfl, rfl, rfl, rfl, rfl, rfl, rfl, rfl, rfl, rfl⟩
  obtain ⟨f, hp, f1, f2, f3, f4, f5, f6, f7, f8, f9⟩ := hp
  simp only [hp, f1, Option.getD_some]
  rw [if_pos (by decide)]
  show wpAny _ _ (if _ then _ else _) _ _ _
  rw [if_neg (by rw [f2] <;> exact Bool.false_ne_true)]
  show wpAny _ _ (if _ then _ else _) _ _ _
  rw [if_neg (by rw [f3] <;> exact Bool.false_ne_true)]
  show wpAny _ _ (if _ then _ else _) _ _ _
  rw [if_neg (by decide)]
  show wpAny _ _ (if _ then _ else _) _ _ _
  rw [if_neg (by decide)]
  show wpAny _ _ (if _ then _ else _) _ _ _
  rw [if_neg (by rw [f4] <;> decide)]
  show wpAny _ _ (retStr _) _ _ _
  have key : ∀ X : PySem.Str, X = ⟨(hexA a).toArray⟩ → X.length ≤ sizeLine := fun X e => by
    rw [e]
    show (hexA a).toArray.size ≤ _
    simpa using hz
  refine (fun he => KXf.ret_text he (key _ he) hq) ?_
  · rw [f5, decide_eq_false (by omega)]
    obtain ⟨_, _, _, _, _, _, _, _, _⟩ := f
    simp only at f1 f2 f3 f4 f5 f6 f7 f8 f9
    subst f1 f2 f3 f4 f5 f6 f7 f8 f9
    show _ = (⟨(List.map (fun c => c.toUpper.toNat) (Nat.toDigits 16 a.natAbs)).toArray⟩ : PySem.Str)
    simp only [show ((88 : Nat) == 88) = true from rfl, if_true, Bool.false_eq_true, if_false]
    generalize List.map (fun c : Char => c.toUpper.toNat) (Nat.toDigits 16 a.natAbs) = ds
    conv => lhs; whnf
    cases ds with
    | nil => simp
    | cons c r =>
      simp
      all_goals first | omega | (refine ⟨?_, ?_⟩ <;> omega) | trace_state
end Hx16
namespace DJ
open PySem PySem.Spec PyProof.Rows L2
def tFmtX (te : TE) : TE := fun σ H Q => te σ H fun x H1 => ∃ i : Int, x = .int i ∧ 0 ≤ i ∧ (Hx16.hexA i).length ≤ sizeLine ∧ Q (.str ⟨(Hx16.hexA i).toArray⟩) H1
theorem pe_fmtX {X : Cx} {e : Expr} {te : TE} {pos p2 cp : Pos} {j : Nat} (he : PE X e te) : PE X (.FormattedValue e (-1) (some (.JoinedStr [.Constant (.str "X") j cp] p2)) pos) (tFmtX te) := by
  refine ⟨fun pins s σ H Q I h => ?_⟩
  refine wpAny_FormattedValue_spec (thn (he.run pins s σ H _ I h) fun v s1 hv => ?_)
  obtain ⟨x, H1, I1, r1, i, rfl, h0, hz, q⟩ := hv
  obtain ⟨t, rfl⟩ := r1
  refine wpAny_JoinedStr_one (Calls.Constant_str ?_)
  exact ⟨_, _, rfl, PySem.W.KXf.field_int rfl (by decide +kernel) (by decide +kernel) (Hx16.hex_meets h0 hz) fun t' k => ⟨.str _, H1, I1.tok _, ⟨_, rfl⟩, q⟩⟩
section
variable {K : PySem.W.Frag} {G : List (Option Sl)} {M M1 M2 : List MO} {ta tb te : TE}
theorem ev_fmtX {i : Int} (h : EvE K te G M (.d (.int i)) M1) (h0 : 0 ≤ i) (hz : (Hx16.hexA i).length ≤ sizeLine) : EvE K (tFmtX te) G M (.d (.str (Hx16.hexA i))) M1 := fun F B as σ H ow sl Q q =>
  h F B as σ H ow sl _ fun v B1 as1 H1 g1 p1 o1 r1 => ⟨i, r1, h0, hz, q _ B1 as1 H1 g1 p1 o1 rfl⟩
theorem ev_js2 {l m : List Nat} (ha : EvE K ta G M (.d (.str l)) M1) (hb : EvE K tb G M1 (.d (.str m)) M2) (hz : l.length + m.length ≤ sizeLine) :
    EvE K (fun σ H Q => tJs [ta, tb] Str.empty σ H fun out H1 => Q (.str out) H1) G M (.d (.str (l ++ m))) M2 := fun F B as σ H ow sl Q q =>
  ha F B as σ H ow sl _ fun v B1 as1 H1 g1 p1 o1 r1 => by
    refine ⟨tx l, r1, ?_, ?_⟩
    · show (Str.empty ++ tx l).length ≤ _
      rw [Str.empty_append, tx_len]
      omega
    · refine hb F B1 as1 σ H1 o1 (sl.mono g1.1 p1) _ fun w B2 as2 H2 g2 p2 o2 r2 => ?_
      refine ⟨tx m, r2, ?_, ?_⟩
      · show (Str.empty ++ tx l ++ tx m).length ≤ _
        rw [Str.empty_append, PySem.strLen_append, tx_len, tx_len]
        exact hz
      · have e : Str.empty ++ tx l ++ tx m = tx (l ++ m) := by
          rw [Str.empty_append]
          show (⟨l.toArray ++ m.toArray⟩ : Str) = ⟨(l ++ m).toArray⟩
          simp
        show Q (.str (Str.empty ++ tx l ++ tx m)) H2
        rw [e]
        exact q _ B2 as2 H2 (g1.trans g2) (p1.trans p2) o2 rfl
end
end DJ
/-! ### min of a list of pairs (int, text) -/
namespace DJ
open PySem PySem.W PyProof.Rows PySem.Spec L2
def rMinT (K : PySem.W.Frag) : List V → Hp → VK → Prop := fun vs H Q => ∃ (a : Addr) (ws : List V) (x : PyData) (xs : List PyData), vs = [.ref a] ∧ SqL K H a ws ∧ DpAll K H ws (x :: xs) ∧ AlikeAll (x :: xs) ∧ PyData.depthAll (x :: xs) ≤ 60 ∧ ∀ (i : Nat) (w : V), ws[i]? = some w → (x :: xs)[i]? = some (minD x xs) → Q w H
theorem vals_get : ∀ {ws : List V} {us : List Value}, Vals ws us → ∀ (i : Nat) {v : Value}, us[i]? = some v → ∃ w : V, ws[i]? = some w ∧ RelV w v
  | _, _, .nil, i, v, h => by simp at h
  | _, _, .cons r1 rs, 0, v, h => ⟨_, rfl, by simp at h; rw [← h]; exact r1⟩
  | _, _, .cons r1 rs, i + 1, v, h => by
    obtain ⟨w, h1, h2⟩ := vals_get rs i (by simpa using h)
    exact ⟨w, by simpa using h1, h2⟩
theorem cr_minT {X : Cx} (hc : X.calm = true) (hu : X.A.units + 64 < cLine) : CallR X (.builtin "min") (rMinT X.K) := by
  intro pins s σ H vs us Q I r h
  obtain ⟨a, ws, x, xs, rfl, hs, hd, hal, hdep, q⟩ := h
  obtain ⟨its, rv, hl, hz⟩ := I.list hs
  rw [Vals.ref1 r]
  obtain ⟨as, hr⟩ := Dp.readsAll I (x :: xs) ws its hd rv
  refine min_list_data (vs := its.toArray) (I.ok.hd hc) hl.isList (by simpa using hr) hal (by omega) fun i v h' tk bs hv rd k => ?_
  obtain ⟨bs2, r2, hi, _, _⟩ := readsAll_atA (vs := its.toArray) (by simpa using hr) i v hv
  have r3 := reads_keeps k r2
  have e := (Reads.unique r3 _ _ rd).1
  have hv2 : its[i]? = some v := by simpa using hv
  obtain ⟨w, hw, rw_⟩ := vals_get rv i hv2
  exact ⟨w, H, I.kept k, rw_, q i w hw (by rw [← e, List.getD_eq_getElem?_getD, List.getElem?_eq_getElem hi] <;> rfl)⟩
abbrev PIS := Int × List Nat
def pairD (q : PIS) : Dt := .tup [.int q.1, .str q.2]
def ltP (p q : PIS) : Bool := if p.1 = q.1 then decide (p.2 < q.2) else decide (p.1 < q.1)
def bestP (p : PIS) (ps : List PIS) : PIS := ps.foldl (fun a y => if ltP y a = true then y else a) p
theorem lex_refl (l : List (Int ⊕ List Nat)) (h : lexLt itemOrd l l = false) : lexLt itemOrd l l = false := h
theorem dataLt_pair (p q : PIS) : dataLt (toP (pairD p)) (toP (pairD q)) = ltP p q := by
  obtain ⟨i, l⟩ := p
  obtain ⟨j, m⟩ := q
  show dataLt (.tuple [.int i, .str (tx l)]) (.tuple [.int j, .str (tx m)]) = _
  rw [dataLt_tuple]
  unfold ltP
  by_cases e : i = j
  · subst e
    rw [if_pos rfl, dataLt_all_yes rfl (by simp [PyData.eqv])]
    by_cases e2 : l = m
    · subst e2
      rw [dataLt_all_yes rfl (by simp [PyData.eqv])]
      show lexLt itemOrd [Sum.inl 0] [Sum.inl 0] = decide (l < l)
      rw [lex_one, decide_eq_false (List.lt_irrefl l)]
      rfl
    · have hne : PyData.eqv (.str (tx l)) (.str (tx m)) = false := by
        cases z : PyData.eqv (.str (tx l)) (.str (tx m)) with
        | false => rfl
        | true => exact absurd (tx_inj (by simpa [PyData.eqv] using z)) e2
      rw [dataLt_all_no rfl hne, dataLt_str]
  · rw [if_neg e, dataLt_all_no rfl (by simp [PyData.eqv, e]), dataLt_int]
theorem minD_pairs : ∀ (ps : List PIS) (p : PIS), minD (toP (pairD p)) (toPs (ps.map pairD)) = toP (pairD (bestP p ps))
  | [], p => rfl
  | q :: ps, p => by
    show (toPs (ps.map pairD)).foldl (fun a y => if dataLt y a = true then y else a) (if dataLt (toP (pairD q)) (toP (pairD p)) = true then toP (pairD q) else toP (pairD p)) = _
    rw [dataLt_pair]
    have e : (if ltP q p = true then toP (pairD q) else toP (pairD p)) = toP (pairD (if ltP q p = true then q else p)) := by split <;> rfl
    rw [e]
    exact minD_pairs ps (if ltP q p = true then q else p)
theorem toPs_mem : ∀ {ps : List PIS} {x : PyData}, x ∈ toPs (ps.map pairD) → ∃ q, x = toP (pairD q)
  | q :: ps, x, h => by
    rcases List.mem_cons.mp (show x ∈ toP (pairD q) :: toPs (ps.map pairD) from h) with e | e
    · exact ⟨q, e⟩
    · exact toPs_mem e
theorem toPs_get : ∀ {ps : List PIS} {i : Nat} {x : PyData}, (toPs (ps.map pairD))[i]? = some x → ∃ q, ps[i]? = some q ∧ x = toP (pairD q)
  | q :: ps, 0, x, h => ⟨q, rfl, by
    have h : some (toP (pairD q)) = some x := h
    exact (Option.some.inj h).symm⟩
  | q :: ps, i + 1, x, h => by
    obtain ⟨r, h1, h2⟩ := toPs_get (ps := ps) (i := i) (x := x) (by simpa [toPs] using h)
    exact ⟨r, by simpa using h1, h2⟩
theorem pair_inj {p q : PIS} (h : toP (pairD p) = toP (pairD q)) : p = q := by
  obtain ⟨i, l⟩ := p
  obtain ⟨j, m⟩ := q
  have h : PyData.tuple [.int i, .str (tx l)] = PyData.tuple [.int j, .str (tx m)] := h
  injection h with h
  injection h with h1 h
  injection h1 with h1
  injection h with h2 _
  injection h2 with h2
  rw [h1, tx_inj h2]
theorem pl_pairs : ∀ {ps : List PIS}, (∀ q ∈ ps, ∀ c ∈ q.2, c < 128) → plDs (ps.map pairD) = true ∧ dpDs (ps.map pairD) ≤ 1
  | [], _ => ⟨rfl, Nat.zero_le _⟩
  | q :: ps, h => by
    obtain ⟨h1, h2⟩ := pl_pairs fun x hx => h x (List.mem_cons_of_mem q hx)
    have hq := h q List.mem_cons_self
    refine ⟨?_, Nat.max_le.mpr ⟨show 1 ≤ 1 by decide, h2⟩⟩
    show (plD (pairD q) && plDs (ps.map pairD)) = true
    rw [h1, Bool.and_true]
    show (true && (q.2.all (fun c => decide (c < 128)) && true)) = true
    rw [Bool.true_and, Bool.and_true]
    exact List.all_eq_true.mpr fun c hc => decide_eq_true (hq c hc)
section
variable {K : PySem.W.Frag} {G : List (Option Sl)} {M M1 : List MO} {te : TE}
theorem ev_minP {p : PIS} {ps : List PIS} (h : EvE K te G M (.d (.lst ((p :: ps).map pairD))) M1) (ha : ∀ q ∈ p :: ps, ∀ c ∈ q.2, c < 128) : EvE K (tCB (rMinT K) (tCons te tNil)) G M (.d (pairD (bestP p ps))) M1 := fun F B as σ H ow sl Q q =>
  h F B as σ H ow sl _ fun v B1 as1 H1 g1 p1 o1 r1 => by
    obtain ⟨a, ws, rfl, h1, h2⟩ := r1
    obtain ⟨l1, l2⟩ := pl_pairs ha
    refine ⟨a, ws, toP (pairD p), toPs (ps.map pairD), rfl, o1.bb.seq h1, dp_ofs _ _ l1 (RpL.mono o1.bb _ _ h2), ⟨fun x hx y hy => ?_, fun x hx => ?_⟩, ?_, fun i w hw hm => ?_⟩
    · obtain ⟨q1, rfl⟩ := toPs_mem (ps := p :: ps) hx
      obtain ⟨q2, rfl⟩ := toPs_mem (ps := p :: ps) hy
      rfl
    · obtain ⟨q1, rfl⟩ := toPs_mem (ps := p :: ps) hx
      exact fun z => nomatch z
    · have := (lay_ofs ((p :: ps).map pairD) l1).2
      show PyData.depthAll (toPs ((p :: ps).map pairD)) ≤ 60
      rw [this]
      omega
    · rw [minD_pairs] at hm
      obtain ⟨r, hr, er⟩ := toPs_get (ps := p :: ps) hm
      have er := pair_inj er
      obtain ⟨w2, hw2, hrp⟩ := h2.get (show ((p :: ps).map pairD)[i]? = some (pairD r) by rw [List.getElem?_map, hr] <;> rfl)
      have : w2 = w := Option.some.inj (hw2.symm.trans hw)
      subst this
      rw [← er] at hrp
      exact q w2 B1 as1 H1 g1 p1 o1 hrp
end
end DJ
namespace LJ
open PySem PySem.Spec PyProof.Rows L2 LamX DJ
section
variable {P : Program} {w : World} {K : PySem.W.Frag} {mg : Str → Option Value} {base : Heap}
/-- a def with keyword-only parameters that lets nothing out, called by place -/
theorem cal_mkK0 {x : Str} {st : Stmt} {N ps : List Str} {kws : List (Str × V)} {k n m : Nat} {R : List Sl → List MO → Sl → List MO → Prop} (D : DfK K mg x st kws) (S : FnScope N ps (defScope st)) (hn : ps.length = n) (hk : kws ≠ []) (hm : m + kws.length = ps.length)
    (h : ∀ (D : Addr) (doc pm : Value) (an : Option Addr) (cdv ct : Value) (us ks : List Value), us.length = m → ks.length = kws.length →
      KwChain D ((kws.map (·.1)).zip ks) (bindArgs (PySem.W.fnOf x x (defArgs st) (defBody st) (defScope st) .none (.ref D) doc pm an cdv ct) ⟨us, []⟩) (ps.zip (us ++ ks)))
    (hb : ∀ (f : Addr) (cdv : Value) (A : Around) (outer : List Env) (s : Shared) (H : Hp) (E : XK), Room k (A.deeper (envOfC x (defScope st) s.heap.objs.size f cdv)) → ∀ ss M r M', R ss M r M' →
      ∃ t X, PSs (cxOf CX0 P w K mg base N x (defScope st) f cdv A outer s H E).nox (defBody st) t ∧ EvS K t (start N.length ss) M (.rt r (M' ++ X)) ∧ M.length ≤ M'.length ∧ ∀ j, r = .o j → j < M'.length) :
    Cal P w K mg base (k + 1) x (SpR K n R) (kws.map (·.2)) := by
  obtain ⟨f, fd, F, hf⟩ := D.ex
  obtain ⟨ds, hv, hbd⟩ := F.binds0 (ps := ps) m hk hm h
  refine ⟨f, fd, ps, ds, F.ok S (fun vs H Q E h => ?_) (fun cdv A outer s H vs Q E hr h => ?_), hf, F.kp, hbd, hv⟩
  · obtain ⟨_, _, _, _, _, _, _, _, _, _, e, _⟩ := h
    rw [e, hn]
  · obtain ⟨F', B, as, ss, M, r, M', hR, ow, sl, _, q⟩ := h
    obtain ⟨t, X, ht, he, hl, hr'⟩ := hb f cdv A outer s H E hr ss M r M' hR
    exact ⟨t, PSs.nox ht, run_body (X := X) he hl hr' ow sl q⟩
end
end LJ
namespace DJ
open PySem PySem.Spec PyProof.Rows L2
/-! ### a text's place, how often it stands, an integer's text with a sign -/
section
variable {K : PySem.W.Frag} {l m : List Nat}
theorem rm_find : RM K (fun x xs H Q => ∃ a b : Str, x = .str a ∧ xs = [.str b] ∧ Q (.int (Txt.find a b)) H) (.str l) [.str m] (.int (Txt.find (tx l) (tx m))) := fun F B as M H v vs Q ow r1 r2 q => ⟨tx l, tx m, r1, two_str r2, q _ B H (Gr.refl F B) ow rfl⟩
theorem rm_count : RM K (fun x xs H Q => ∃ a b : Str, x = .str a ∧ xs = [.str b] ∧ Q (.int (Txt.count a b)) H) (.str l) [.str m] (.int (Txt.count (tx l) (tx m))) := fun F B as M H v vs Q ow r1 r2 q => ⟨tx l, tx m, r1, two_str r2, q _ B H (Gr.refl F B) ow rfl⟩
theorem rc_intT {n : Int} (h : PySem.intText? (tx l) = some n) (hl : l.length ≤ 640) : RC K (fun xs H Q => ∃ a n, xs = [.str a] ∧ PySem.intText? a = some n ∧ a.length ≤ 640 ∧ Q (.int n) H) [.str l] (.int n) := fun F B as M H vs Q ow r q =>
  ⟨tx l, n, two_str r, h, by rw [tx_len]; exact hl, q _ B H (Gr.refl F B) ow rfl⟩
end
end DJ
/-! ### sorting any number of tuples of two texts -/
namespace DJ
open PySem PySem.W PyProof.Rows PySem.Spec L2
theorem lex2_swo {α : Type} (g : α → Str × Str) : SrtO.Swo fun v u => lex2 (g v) (g u) := by
  have tri : ∀ a b : List Nat, a < b ∨ a = b ∨ b < a := fun a b => by
    by_cases h : a < b
    · exact .inl h
    · by_cases h2 : b < a
      · exact .inr (.inr h2)
      · exact .inr (.inl (List.le_antisymm (List.not_lt.mp h2) (List.not_lt.mp h)))
  refine ⟨fun x y h => ?_, fun x y z h1 h2 => ?_⟩
  · have h : lex2 (g x) (g y) = true := h
    show lex2 (g y) (g x) = false
    unfold lex2 at *
    by_cases e : (g x).1 = (g y).1
    · rw [if_pos e] at h
      rw [if_pos e.symm]
      exact decide_eq_false (List.lt_asymm (of_decide_eq_true h))
    · rw [if_neg e] at h
      rw [if_neg (Ne.symm e)]
      exact decide_eq_false (List.lt_asymm (of_decide_eq_true h))
  · have h1 : lex2 (g y) (g x) = false := h1
    have h2 : lex2 (g z) (g y) = false := h2
    show lex2 (g z) (g x) = false
    have sx : ∀ {a b : Str}, a.cps.toList = b.cps.toList → a = b := fun {a b} e => by
      cases a; cases b
      simpa using congrArg List.toArray e
    unfold lex2 at *
    by_cases e1 : (g y).1 = (g x).1
    · rw [if_pos e1] at h1
      have h1 := of_decide_eq_false h1
      by_cases e2 : (g z).1 = (g y).1
      · rw [if_pos e2] at h2
        have h2 := of_decide_eq_false h2
        rw [if_pos (e2.trans e1)]
        exact decide_eq_false (List.not_lt.mpr (List.le_trans (List.not_lt.mp h1) (List.not_lt.mp h2)))
      · rw [if_neg e2] at h2
        rw [if_neg (fun e => e2 (e.trans e1.symm)), ← e1]
        exact h2
    · rw [if_neg e1] at h1
      have h1 := of_decide_eq_false h1
      by_cases e2 : (g z).1 = (g y).1
      · rw [e2, if_neg e1]
        exact decide_eq_false h1
      · rw [if_neg e2] at h2
        have h2 := of_decide_eq_false h2
        have l1 : (g x).1.cps.toList < (g y).1.cps.toList := by
          rcases tri (g x).1.cps.toList (g y).1.cps.toList with h | h | h
          · exact h
          · exact absurd (sx h).symm e1
          · exact absurd h h1
        have l2 : (g y).1.cps.toList < (g z).1.cps.toList := by
          rcases tri (g y).1.cps.toList (g z).1.cps.toList with h | h | h
          · exact h
          · exact absurd (sx h).symm e2
          · exact absurd h h2
        have l3 := List.lt_trans l1 l2
        rw [if_neg (fun e => List.lt_irrefl _ (by rw [e] at l3; exact l3))]
        exact decide_eq_false (List.lt_asymm l3)
section
variable {prog : Program} {w : World} {A : Around} {s : Shared}
theorem two_sortable {a : Addr} {vs : List Value} (h0 : 2 ≤ vs.length) (x : ∀ v ∈ vs, ∃ e, Two s.heap v e) (ha : ∀ o, s.heap.get? a = some o → o.cls ≠ .type "tuple") :
    SrtO.SortableO prog w A s a vs fun v u => lex2 (twoAt s.heap v) (twoAt s.heap u) := by
  intro h' keep
  have x' : ∀ v ∈ vs, ∃ e, Two h' v e ∧ twoAt s.heap v = e := fun v hv => by
    obtain ⟨e, he⟩ := x v hv
    exact ⟨e, he.keeps fun b o e0 c => keep b o (fun z => by subst z; exact ha o e0 c) e0, he.at⟩
  obtain ⟨fs, k, hl, hi⟩ := firsts2 vs (h := h') fun v hv => by
    obtain ⟨e, he, _⟩ := x' v hv
    exact ⟨e, he⟩
  refine ⟨tuples' true, fun Q E hq => ?_, fun p q mp mq => ?_⟩
  · refine kat_kind (s := { s with heap := h' }) (T := Value.type "str") k (by omega) (fun f hf => ?_) rfl ?_
    · obtain ⟨y, t, rfl⟩ := hi f hf
      exact PySem.W.Looks.of_pure rfl
    · have hb : (Value.type "str" != Value.type "tuple") = true := by first | rfl | decide | simp
      rw [hb]
      exact hq
  · obtain ⟨e, pe, e1⟩ := x' _ mp
    obtain ⟨f, pf, e2⟩ := x' _ mq
    show wpAny _ _ _ (fun r s' => s' = { s with heap := h' } ∧ r = lex2 (twoAt s.heap p.1) (twoAt s.heap q.1)) _ _
    rw [e1, e2]
    obtain ⟨a, t, u, e1, o, ho, hc, n, hd⟩ := pe
    obtain ⟨a', t', u', e2, o', ho', hc', n', hd'⟩ := pf
    rw [e1, e2]
    refine kat_lt (s := { s with heap := h' }) ho hd ho' hd' ?_
    show KatLex prog w A true false (fun r s' => s' = { s with heap := h' } ∧ r = lex2 e f) [(Value.str e.1 t, Value.str f.1 t'), (Value.str e.2 u, Value.str f.2 u')] 0 { s with heap := h' }
    refine kat_cons (wpAny_eqBool_str (kat_go (fun e0 => ?_) (fun e0 => ?_)))
    · have e0 : e.1 = f.1 := of_decide_eq_true e0
      have z : lex2 e f = decide (e.2.cps.toList < f.2.cps.toList) := if_pos e0
      rw [z]
      refine kat_yes (kat_cons (wpAny_eqBool_str (kat_go (fun e3 => ?_) (fun e3 => ?_))))
      · have e3 : e.2 = f.2 := of_decide_eq_true e3
        refine kat_yes (kat_nil ⟨rfl, ?_⟩)
        rw [e3]
        exact (decide_eq_false (List.lt_irrefl _)).symm
      · refine kat_no ?_
        show wpAny _ _ (oneLt' false _ _) _ _ _
        exact kat_one _ _ (PyProof.Rows.lt_str ⟨rfl, rfl⟩)
    · have e0 : ¬ e.1 = f.1 := of_decide_eq_false e0
      have z : lex2 e f = decide (e.1.cps.toList < f.1.cps.toList) := if_neg e0
      rw [z]
      refine kat_no ?_
      show wpAny _ _ (oneLt' true _ _) _ _ _
      exact oneLt_str ⟨rfl, rfl⟩
end
/-! ### sorted(d), any number of keys, tuples of two texts -/
def rSortN : List V → Hp → VK → Prop := fun vs H Q => ∃ (a : Addr) (kvs : List (List Key × V)) (ks : List (Str × Str)), vs = [.ref a] ∧ H a = some (.dT kvs) ∧ kvs.map (·.1) = ks.map keyOf2 ∧ ks.length ≤ 100000 ∧
  ∀ (l : Addr) (ps : List (Addr × Str × Str)), H l = none → (ps.map (·.2)).Perm ks → (ps.map (·.2)).Pairwise (fun e f => lex2 f e = false) → (∀ z ∈ ps, H z.1 = some (.tup [.str z.2.1, .str z.2.2])) → Q (.ref l) (upd H l (.lst (ps.map fun z => V.ref z.1)))
section
variable {X : Cx}
theorem cr_sortN (hc : X.calm = true) : CallR X (.builtin "sorted") rSortN := by
  intro pins s σ H xs us Q I r h
  obtain ⟨a, kvs, ks, rfl, ha, hks, h64, q⟩ := h
  obtain rfl := Vals.ref1 r
  obtain ⟨z, hd, xs', rel, o, es, ep, ho, hx, hdat, hes, his, hn⟩ := dt_of I.hok ha
  have l1 : kvs.length = xs'.length := Paired.length rel
  have l2 : es.size = xs'.length := size_of_entries hes
  have l3 : kvs.length = ks.length := by
    have e := congrArg List.length hks
    rw [List.length_map, List.length_map] at e
    exact e
  have hh : X.A.handled = none := I.ok.hd hc
  refine PySem.Calls.call_function_entry PyProof.Rows.kind_sorted PyProof.Rows.plain_sorted PyProof.Rows.entry_sorted (PyProof.Rows.args_sorted1 _) ?_
  unfold Builtin.«sorted»
  refine wpAny_bind (m := checkCount "sorted" 1 1 _) (wpAny_pure ?_)
  refine wpAny_bind (PySem.W.kdu_collect (A := X.A.in1) (kdl_raw (prog := X.prog) (w := X.w) hd hx hdat) hh ho (by rw [sizeLine_eq]; omega) fun h' tk acc hk hacc => ?_)
  have ea : acc.toList = (xs'.map fun x => x.2.1).map Value.ref := by
    have hl : acc.toList.length = xs'.length := by rw [Array.length_toList, hacc.1]; exact l2
    refine List.ext_getElem? fun j => ?_
    rw [List.getElem?_map, List.getElem?_map]
    cases hj : acc.toList[j]? with
    | none =>
      have h1 := List.getElem?_eq_none_iff.mp hj
      rw [List.getElem?_eq_none (by omega)] <;> rfl
    | some v =>
      obtain ⟨en, hen, hv⟩ := hacc.2 j v (by rw [← Array.getElem?_toList]; exact hj)
      have qe := entry_at hes j
      rw [hen] at qe
      cases hb : xs'[j]? with
      | none =>
        rw [hb] at qe
        exact nomatch (show some en = none from qe)
      | some b =>
        rw [hb] at qe
        have e2 : en = entryOfKey (tupleKind (mixKind X.prog X.w)) b := Option.some.inj qe
        rw [hv, e2] <;> rfl
  generalize hbs : (xs'.map fun x => x.2.1) = bs at ea
  have lb : bs.length = ks.length := by rw [← hbs, List.length_map]; omega
  -- each key's tuple
  have key : ∀ (j : Nat) (b : Addr), bs[j]? = some b → ∃ e, ks[j]? = some e ∧ H b = some (.tup [.str e.1, .str e.2]) := by
    intro j b hj
    rw [← hbs, List.getElem?_map] at hj
    cases hxj : xs'[j]? with
    | none => rw [hxj] at hj; exact nomatch (show (none : Option Addr) = some b from hj)
    | some x =>
      rw [hxj] at hj
      have eb : x.2.1 = b := Option.some.inj hj
      obtain ⟨e0, he0, r1, r2, r3⟩ := DX.pget rel hxj
      have hk0 : (kvs.map (·.1))[j]? = some e0.1 := by rw [List.getElem?_map, he0] <;> rfl
      rw [hks, List.getElem?_map] at hk0
      cases hkj : ks[j]? with
      | none => rw [hkj] at hk0; exact nomatch (show (none : Option (List Key)) = some e0.1 from hk0)
      | some e =>
        rw [hkj] at hk0
        have ee : keyOf2 e = e0.1 := Option.some.inj hk0
        rw [← ee, eb] at r2
        exact ⟨e, rfl, r2⟩
  have two : ∀ (h2 : Heap), (∀ b ob, s.heap.get? b = some ob → ob.cls = .type "tuple" → h2.get? b = some ob) → ∀ (j : Nat) (b : Addr), bs[j]? = some b → ∃ e, ks[j]? = some e ∧ Two h2 (.ref b) e := by
    intro h2 kp j b hj
    obtain ⟨e, he, hb⟩ := key j b hj
    obtain ⟨_, its, rv, ot, hot, hct, nt, hdt⟩ := (show ObjOk X.prog X.w H s.heap b (.tup [.str e.1, .str e.2]) from I.hok b _ hb)
    obtain ⟨t, u, rfl⟩ : ∃ t u, its = [Value.str e.1 t, Value.str e.2 u] := by
      cases rv with
      | cons r1 r2 =>
        cases r2 with
        | cons r2 r3 =>
          cases r3
          obtain ⟨t, rfl⟩ := r1
          obtain ⟨u, rfl⟩ := r2
          exact ⟨t, u, rfl⟩
    exact ⟨e, he, b, t, u, rfl, ot, kp _ _ hot hct, hct, nt, hdt⟩
  rw [ea]
  refine wpAny_bind (wpAny_newList ?_ (by rw [List.length_map, sizeLine_eq]; omega))
  have hob : (h'.push (seqObj "list" (bs.map Value.ref).toArray 0)).get? h'.objs.size = some (seqObj "list" (bs.map Value.ref).toArray 0) := Heap.get?_push_size _ rfl
  show wpAny _ _ _ _ _ { s with heap := h'.push (seqObj "list" (bs.map Value.ref).toArray 0), toks := tk }
  have kb : ∀ b o, s.heap.get? b = some o → (h'.push (seqObj "list" (bs.map Value.ref).toArray 0)).get? b = some o := fun b o e => Heap.get?_push_of_some _ (hk b o e)
  have ne0 : ∀ b o, s.heap.get? b = some o → b ≠ h'.objs.size := fun b o e => Nat.ne_of_lt (Heap.lt_size (hk b o e))
  generalize hh2 : h'.push (seqObj "list" (bs.map Value.ref).toArray 0) = h2 at hob kb ⊢
  refine wpAny_bind (wpAny_holding (wpAny_call_entry PyProof.Rows.slot_list_sort ⟨_, hob, rfl⟩ PyProof.Rows.entry_list_sort
    (SrtO.list_sort_ord (s := { s with heap := h2, toks := tk }) (lex2_swo fun v => twoAt h2 v) hob (by rw [List.length_map, sizeLine_eq]; omega) (fun h2' => two_sortable (s := { s with heap := h2, toks := tk }) h2' (fun v hv => ?_) fun o e => ?_) fun out0 o3 o2 => ⟨.none, rfl, ?_⟩) (PyProof.Rows.args_list_sort _)))
  · obtain ⟨b, hb, rfl⟩ := List.mem_map.mp hv
    obtain ⟨j, hj⟩ := List.mem_iff_getElem?.mp hb
    obtain ⟨e, _, ht⟩ := two h2 (fun b ob e _ => kb b ob e) j b hj
    exact ⟨e, ht⟩
  · have e' : some o = some (seqObj "list" (bs.map Value.ref).toArray 0) := e.symm.trans hob
    cases e'
    intro c
    exact absurd (Value.type.inj c) (by decide)
  · obtain ⟨zs, pz, ez⟩ := perm_lift (fun z : Addr × Str × Str => Value.ref z.1) o2.perm (bs.zip ks) (by
      have m1 : (bs.zip ks).map (·.1) = bs := List.map_fst_zip (by rw [lb]; exact Nat.le_refl _)
      conv => rhs; rw [← m1]
      rw [List.map_map] <;> rfl)
    generalize hou : out0.toArray = out at *
    have hout0 : out.toList = out0 := by rw [← hou]
    have idx : ∀ z ∈ zs, ∃ j : Nat, bs[j]? = some z.1 ∧ ks[j]? = some z.2 := by
      intro z' hz'
      obtain ⟨j, hj⟩ := List.mem_iff_getElem?.mp (pz.mem_iff.mp hz')
      exact ⟨j, List.getElem?_zip_eq_some.mp hj⟩
    have tw : ∀ z ∈ zs, twoAt h2 (.ref z.1) = z.2 := by
      intro z' hz'
      obtain ⟨j, j1, j2⟩ := idx z' hz'
      obtain ⟨e, he, ht⟩ := two h2 (fun b ob e _ => kb b ob e) j z'.1 j1
      rw [ht.at]
      exact Option.some.inj (he.symm.trans j2)
    have hout : out.toList = zs.map fun z => Value.ref z.1 := by
      rw [hout0, ← ez]
    have hperm : (zs.map (·.2)).Perm ks := by
      have e := pz.map (·.2)
      have m2 : (bs.zip ks).map (·.2) = ks := List.map_snd_zip (by rw [lb]; exact Nat.le_refl _)
      rw [m2] at e
      exact e
    have hsort : (zs.map (·.2)).Pairwise (fun e f => lex2 f e = false) := by
      have o3 : out0.Pairwise fun x y => lex2 (twoAt h2 y) (twoAt h2 x) = false := o3
      rw [← ez, List.pairwise_map] at o3
      rw [List.pairwise_map]
      refine List.Pairwise.imp_of_mem (fun {x y} hx hy h => ?_) o3
      rw [tw x hx, tw y hy] at h
      exact h
    have kS : ∀ b o, s.heap.get? b = some o → (sortedHeap h2 h'.objs.size (bs.map Value.ref) out).get? b = some o := fun b o e => (PyProof.Rows.sortedHeap_old (ne0 b o e) (Heap.lt_size (kb b o e))).trans (kb b o e)
    obtain ⟨eF, heF⟩ := PyProof.Rows.sortedHeap_at (vs := bs.map Value.ref) (out := out) hob
    have I1 : Inv X pins σ H { s with heap := h', toks := tk } := I.kept (t' := tk) hk
    have kS' : ∀ b o, h'.get? b = some o → (sortedHeap h2 h'.objs.size (bs.map Value.ref) out).get? b = some o := fun b o e => by
      have e2 : h2.get? b = some o := by rw [← hh2]; exact Heap.get?_push_of_some _ e
      exact (PyProof.Rows.sortedHeap_old (Nat.ne_of_lt (Heap.lt_size e)) (Heap.lt_size e2)).trans e2
    have hlen : (zs.map fun z => V.ref z.1).length ≤ sizeLine := by
      have e := hperm.length_eq
      rw [List.length_map] at e
      rw [List.length_map, sizeLine_eq]
      omega
    have rv : Vals (zs.map fun z => V.ref z.1) out.toList := by
      rw [hout]
      exact vals_maps (fun z : Addr × Str × Str => V.ref z.1) (fun z => Value.ref z.1) zs fun _ _ => rfl
    have I2 : Inv X pins σ (upd H h'.objs.size (.lst (zs.map fun z => V.ref z.1))) { s with heap := sortedHeap h2 h'.objs.size (bs.map Value.ref) out, toks := tk } :=
      I1.laid (t' := tk) kS' (Nat.le_refl _) (show ObjOk X.prog X.w _ _ _ (.lst (zs.map fun z => V.ref z.1)) from ⟨hlen, out.toList, eF, rv, heF⟩)
    refine wpAny_pure ⟨_, rfl, .ref h'.objs.size, _, I2, rfl, q _ zs (I1.hok.fresh (Nat.le_refl _)) hperm hsort fun z' hz' => ?_⟩
    obtain ⟨j, j1, j2⟩ := idx z' hz'
    obtain ⟨e, he, hH⟩ := key j z'.1 j1
    have ee : e = z'.2 := Option.some.inj (he.symm.trans j2)
    rw [ee] at hH
    exact hH
end
theorem perm_uniq {α : Type} {lt : α → α → Bool} (anti : ∀ x y, lt x y = false → lt y x = false → x = y) : ∀ (l m : List α), l.Perm m → l.Pairwise (fun x y => lt y x = false) → m.Pairwise (fun x y => lt y x = false) → l = m
  | [], m, p, _, _ => by
    have := p.length_eq
    cases m with
    | nil => rfl
    | cons y m => simp at this
  | x :: l, [], p, _, _ => by
    have := p.length_eq
    simp at this
  | x :: l, y :: m, p, h1, h2 => by
    obtain ⟨a1, b1⟩ := List.pairwise_cons.mp h1
    obtain ⟨a2, b2⟩ := List.pairwise_cons.mp h2
    have e : x = y := by
      rcases List.mem_cons.mp (p.mem_iff.mp (List.mem_cons_self (a := x) (l := l))) with e | hx
      · exact e
      · rcases List.mem_cons.mp (p.mem_iff.mpr (List.mem_cons_self (a := y) (l := m))) with e | hy
        · exact e.symm
        · exact anti x y (a2 x hx) (a1 y hy)
    subst e
    rw [perm_uniq anti l m (List.Perm.cons_inv p) b1 b2]
theorem lexL_anti {e f : P2} (h1 : lexL e f = false) (h2 : lexL f e = false) : e = f := by
  unfold lexL at h1 h2
  by_cases z : e.1 = f.1
  · rw [if_pos z] at h1
    rw [if_pos z.symm] at h2
    have := List.le_antisymm (List.not_lt.mp (of_decide_eq_false h2)) (List.not_lt.mp (of_decide_eq_false h1))
    exact Prod.ext z this
  · rw [if_neg z] at h1
    rw [if_neg (Ne.symm z)] at h2
    exact absurd (List.le_antisymm (List.not_lt.mp (of_decide_eq_false h2)) (List.not_lt.mp (of_decide_eq_false h1))) z
section
variable {K : PySem.W.Frag} {G : List (Option Sl)} {M M1 : List MO} {td : TE}
/-- the sorted keys are so, where so is the keys in their order -/
theorem ev_sortN {kvs : Tb} {ks so : List P2} (hd : EvE K td G M (.d (dicD kvs)) M1) (hk : kvs.map (·.1) = ks.map fun e => [e.1, e.2]) (hl : ks.length ≤ 100000) (hp : so.Perm ks) (hs : so.Pairwise fun e f => lexL f e = false) :
    EvE K (tCB rSortN (tCons td tNil)) G M (.d (.lst (so.map fun e => .tup [.str e.1, .str e.2]))) M1 := fun F B as σ H ow sl Q q =>
  hd F B as σ H ow sl _ fun v B1 as1 H1 g1 p1 o1 r1 => by
    obtain ⟨a, rfl, ha⟩ := r1 B1 (Same.refl _)
    refine ⟨a, encTb kvs, ks.map key2, rfl, o1.bb _ _ ha, ?_, by rw [List.length_map]; exact hl, fun l ps hn hperm hsort hz => ?_⟩
    · have e1 : (encTb kvs).map (·.1) = (kvs.map (·.1)).map fun k => k.map fun x => (Sum.inr (tx x) : Key) := by rw [List.map_map, List.map_map] <;> rfl
      rw [e1, hk, List.map_map, List.map_map] <;> rfl
    · obtain ⟨qs, pq, eqs⟩ := perm_lift key2 hperm ks rfl
      have e0 : qs = so := perm_uniq (lt := lexL) (fun x y h1 h2 => lexL_anti h1 h2) qs so (pq.trans hp.symm) (by
        rw [← eqs, List.pairwise_map] at hsort
        exact hsort.imp fun {x y} h => by rw [lex_key] at h; exact h) hs
      have eq : ps.map (·.2) = so.map key2 := by rw [← eqs, e0]
      obtain ⟨B2, g2, o2, hB⟩ := o1.tups (ps.map fun z => (z.1, [V.str z.2.1, V.str z.2.2])) fun z hz' => by
        obtain ⟨y, hy, rfl⟩ := List.mem_map.mp hz'
        exact hz y hy
      have g3 := o2.gr hn (.lst (ps.map fun z => V.ref z.1))
      refine q _ _ as1 _ ((g1.trans g2).trans g3) p1 (o2.new hn _) ⟨l, _, rfl, .inl (.inl upd_same), ?_⟩
      have all : ∀ (ps : List (Addr × Str × Str)) (so : List P2), ps.map (·.2) = so.map key2 → (∀ z ∈ ps, B2 z.1 = some (.tup [V.str z.2.1, V.str z.2.2])) → RpL K B2 (so.map fun e => Dt.tup [.str e.1, .str e.2]) (ps.map fun z => V.ref z.1) := by
        intro ps
        induction ps with
        | nil =>
          intro so e _
          cases so with
          | nil => rfl
          | cons x xs => cases e
        | cons z ps ih =>
          intro so e hb
          cases so with
          | nil => cases e
          | cons x xs =>
            rw [List.map_cons, List.map_cons] at e
            injection e with e1 e2
            refine ⟨_, _, rfl, ⟨z.1, _, rfl, .inl (.inl (hb z List.mem_cons_self)), ?_⟩, ih xs e2 fun y hy => hb y (List.mem_cons_of_mem _ hy)⟩
            rw [e1]
            exact ⟨_, _, rfl, rfl, _, _, rfl, rfl, rfl⟩
      exact RpL.mono g3.1 _ _ (all ps so eq fun z hz' => hB (z.1, [V.str z.2.1, V.str z.2.2]) (List.mem_map.mpr ⟨z, hz', rfl⟩))
end
end DJ
/-! ### the hash of None -/
namespace DJ
open PySem PySem.W PyProof.Rows PySem.Spec L2
section
variable {prog : Program} {w : World} {A : Around} {E : Value → Shared → Prop} {s : Shared}
theorem pyHash_none {Q : Int → Shared → Prop} (h : Q 0xFCA86420 { s with toks := s.toks + 1 }) : wpAny (model prog w) A (pyHash .none) Q E s := by
  have tn : s.TypeIs .none "NoneType" := rfl
  unfold pyHash
  have hv : [Value.none].any Value.onHeap = false := rfl
  refine wpAny_bind ?_
  rw [cRoomFor, if_neg (by rw [hv]; exact Bool.false_ne_true)]; refine wpAny_pure ?_
  refine wpAny_bind (wpAny_specialOf tn PySem.F.slot_NoneType_hash.lookup ?_)
  show wpAny _ _ (if (some (Value.builtin "NoneType.__hash__") == some Value.none) = true then _ else _) Q E s
  rw [if_neg (by rw [beq_builtin_none]; exact Bool.false_ne_true)]
  refine wpAny_bind (wpAny_specialOf tn PySem.F.slot_NoneType_hash.lookup ?_)
  show wpAny _ _ (callSpecialIfBoundUnlessNone? .none "__hash__" _ >>= _) Q E s
  refine wpAny_bind (wpAny_callSpecialIfBoundUnlessNone?_slot tn PySem.F.slot_NoneType_hash
    (wpAny_call_entry PySem.F.slot_NoneType_hash tn PySem.F.entry_NoneType_hash
      (show wpAny _ _ (do let _ ← slotArgs "__hash__" 0 _; retInt 0xFCA86420) _ _ s from ?_) (by kernel_rfl)))
  refine wpAny_bind (wpAny_pure ?_)
  refine wpAny_ret_mkInt ?_
  show wpAny _ _ (if (decide (-(2 : Int) ^ 63 ≤ 0xFCA86420) && decide ((0xFCA86420 : Int) < 2 ^ 63)) = true then _ else _) Q E _
  rw [if_pos (by decide)]
  exact wpAny_pure h
end
end DJ
/-! ### None is no key of a dict whose keys are tuples -/
namespace DJ
open PySem PySem.W PyProof.Rows PySem.Spec L2
section
variable {prog : Program} {w : World} {K : Type} [DecidableEq K] {knd : HeapKind prog w K} {A : Around} {E : Value → Shared → Prop} {s : Shared}
theorem walk_none {d : Addr} {o : Obj} {es : Array DictEntry} {ep : Nat} {hs : Int} {places : List Nat} {Q : Option Nat → Shared → Prop} (ho : s.heap.get? d = some o) (hd : o.data = .dict es ep)
    (hne : ∀ e ∈ es, ∀ (Q : Bool → Shared → Prop), Q false s → wpAny (model prog w) A (eqBool e.key .none) Q E s) (h : Q none s) : wpAny (model prog w) A (dictWalkPlain d .none hs es places) Q E s := by
  unfold dictWalkPlain
  refine wpAny_bind ?_
  refine wpAny_forIn_list _ (fun rest b s' => s' = s ∧ b = (none, ())) _ ?_ ?_ _ _ ⟨rfl, rfl⟩
  · rintro i rest b s' ⟨rfl, rfl⟩
    cases hi : es[i]? with
    | none => exact wpAny_pure ⟨rfl, rfl⟩
    | some e =>
      have hm : e ∈ es := Array.mem_of_getElem? hi
      dsimp only
      by_cases hh : (e.hash == hs) = true
      · rw [if_pos hh]
        refine wpAny_bind (wpAny_dictEpoch ho hd (wpAny_bind (hne e hm _ (wpAny_bind (wpAny_dictEpoch ho hd ?_)))))
        show wpAny _ _ (if (ep != ep) = true then _ else _) _ E _
        rw [if_neg (by simp)]
        simp only [Bool.false_eq_true, if_false]
        refine wpAny_bind (wpAny_rule ?_)
        exact wpAny_pure ⟨rfl, rfl⟩
      · rw [if_neg hh]
        exact wpAny_pure ⟨rfl, rfl⟩
  · rintro b s' ⟨rfl, rfl⟩
    exact wpAny_pure h
theorem quiet0 {Q : Bool → Shared → Prop} (h : Q true s) : wpAny (model prog w) A (eqIsQuiet 8 .none) Q E s := by
  unfold eqIsQuiet
  exact wpAny_pure h
theorem quiet_none {st : List Value} {Q : Bool → Shared → Prop} (hst : ∀ v ∈ st, ∃ k' b, v = .ref b ∧ knd.is s.heap k' b) (h : Q false s) : wpAny (model prog w) A (tableMayTell .none st) Q E s := by
  unfold tableMayTell
  split
  · exact wpAny_pure h
  · refine wpAny_bind (quiet0 ?_)
    simp only [Bool.not_true, Bool.false_eq_true, if_false]
    refine wpAny_bind ?_
    refine wpAny_forIn_list _ (fun rest r s' => s' = s ∧ r = (none, ()) ∧ ∀ v ∈ rest, ∃ k' b, v = .ref b ∧ knd.is s.heap k' b) _ ?_ ?_ _ _ ⟨rfl, rfl, hst⟩
    · rintro x rest r s' ⟨rfl, rfl, hr⟩
      obtain ⟨k', b, rfl, hb⟩ := hr x List.mem_cons_self
      refine wpAny_bind (knd.quiet hb ?_)
      simp only [Bool.not_true, Bool.false_eq_true, if_false]
      exact wpAny_pure ⟨rfl, rfl, fun v hv => hr v (List.mem_cons_of_mem _ hv)⟩
    · rintro r s' ⟨rfl, rfl, _⟩
      exact wpAny_pure h
theorem find_none {d : Addr} {o : Obj} {es : Array DictEntry} {ep : Nat} {hs : Int} {Q : Option Nat → Shared → Prop} (ho : s.heap.get? d = some o) (hd : o.data = .dict es ep)
    (hk : ∀ e ∈ es, ∃ k' b, e.key = .ref b ∧ knd.is s.heap k' b) (hne : ∀ e ∈ es, ∀ (Q : Bool → Shared → Prop), Q false s → wpAny (model prog w) A (eqBool e.key .none) Q E s) (h : Q none s) : wpAny (model prog w) A (dictFind d .none hs) Q E s := by
  have hst : ∀ v ∈ (placesWithHash es.size (fun i => es[i]?.map (·.hash)) hs).filterMap (fun i => es[i]?.map (·.key)), ∃ k' b, v = .ref b ∧ knd.is s.heap k' b := by
    intro v hv
    obtain ⟨i, _, hi⟩ := List.mem_filterMap.mp hv
    cases hei : es[i]? with
    | none => rw [hei] at hi; cases hi
    | some e =>
      rw [hei] at hi
      obtain rfl : e.key = v := by simpa using hi
      exact hk e (Array.mem_of_getElem? hei)
  unfold dictFind
  try with_reducible refine wpAny_holding ?_
  refine wpAny_bind (wpAny_dictEntries ho hd ?_)
  dsimp only
  by_cases hc : (Value.none :: (placesWithHash es.size (fun i => es[i]?.map (·.hash)) hs).filterMap (fun i => es[i]?.map (·.key))).all carriedByValue = true
  · rw [if_pos hc]
    exact walk_none ho hd hne h
  · rw [if_neg hc]
    by_cases hone : (((placesWithHash es.size (fun i => es[i]?.map (·.hash)) hs).filterMap (fun i => es[i]?.map (·.key))) == [Value.none]) = true <;>
    (first | rw [if_pos hone] | rw [if_neg hone]) <;> (first | refine wpAny_bind (wpAny_pure ?_) | refine wpAny_bind (quiet_none hst ?_)) <;> (
      rw [if_neg (by simp)]
      refine wpAny_bind ?_
      refine wpAny_forIn_list _ (fun rest b s' => s' = s ∧ b = (none, none)) _ ?_ ?_ _ _ ⟨rfl, rfl⟩
      · rintro i rest b s' ⟨rfl, rfl⟩
        cases hi : es[i]? with
        | none => exact wpAny_pure ⟨rfl, rfl⟩
        | some e =>
          have hm : e ∈ es := Array.mem_of_getElem? hi
          dsimp only
          by_cases hh : (e.hash == hs) = true
          · rw [if_pos hh]
            refine wpAny_bind (wpAny_dictEpoch ho hd (wpAny_bind (hne e hm _ (wpAny_bind (wpAny_dictEpoch ho hd ?_)))))
            show wpAny _ _ (if (ep != ep) = true then _ else _) _ E _
            rw [if_neg (by simp)]
            simp only [Bool.false_eq_true, if_false]
            refine wpAny_bind (wpAny_rule ?_)
            first | rw [if_neg (by simp)] | skip
            first
              | exact wpAny_pure ⟨rfl, rfl⟩
              | exact wpAny_bind (wpAny_pure (wpAny_pure ⟨rfl, rfl⟩))
          · rw [if_neg hh]
            exact wpAny_pure ⟨rfl, rfl⟩
      · rintro b s' ⟨rfl, rfl⟩
        exact wpAny_pure h)
end
end DJ
/-! ### d.get(None, x) of a dict whose keys are tuples of texts -/
namespace DJ
open PySem PySem.W PyProof.Rows PySem.Spec L2
section
variable {prog : Program} {w : World} {K : Type} [DecidableEq K] {knd : HeapKind prog w K} {A : Around} {E : Value → Shared → Prop} {s : Shared}
theorem get_none {d : Addr} {xs : List (K × Addr × Value)} {Q : Option Value → Shared → Prop} (hm : s.heap.DictOfH knd d xs)
    (hne : ∀ x ∈ xs, ∀ (Q : Bool → Shared → Prop), Q false { s with toks := s.toks + 1 } → wpAny (model prog w) A (eqBool (.ref x.2.1) .none) Q E { s with toks := s.toks + 1 }) (h : Q none { s with toks := s.toks + 1 }) : wpAny (model prog w) A (dictGet d .none) Q E s := by
  obtain ⟨o, es, ep, ho, _, hd, he, his, hn⟩ := hm
  have hmem : ∀ e ∈ es, ∃ x ∈ xs, e = entryOfKey knd x := by
    intro e hin
    have : e ∈ xs.map (entryOfKey knd) := he ▸ Array.mem_toList_iff.mpr hin
    obtain ⟨x, hx, rfl⟩ := List.mem_map.mp this
    exact ⟨x, hx, rfl⟩
  unfold dictGet
  try with_reducible refine wpAny_holding ?_
  refine wpAny_bind (pyHash_none (wpAny_bind (find_none (knd := knd) (s := { s with toks := s.toks + 1 }) ho hd (fun e hin => ?_) (fun e hin Q hq => ?_) (wpAny_pure h))))
  · obtain ⟨x, hx, rfl⟩ := hmem e hin
    exact ⟨x.1, x.2.1, rfl, his x hx⟩
  · obtain ⟨x, hx, rfl⟩ := hmem e hin
    exact hne x hx Q hq
theorem meets_get_none {d : Addr} (hd : (d == sysModules) = false) (dflt : Value) :
    MeetsIn prog w (Builtin.«dict.get» ⟨[.ref d, .none, dflt], []⟩) (fun A R s => (∃ xs, s.heap.DictOfH knd d xs ∧ ∀ x ∈ xs, ∀ (E : Value → Shared → Prop) (Q : Bool → Shared → Prop), Q false { s with toks := s.toks + 1 } → wpAny (model prog w) A.in1 (eqBool (.ref x.2.1) .none) Q E { s with toks := s.toks + 1 }) ∧
      R (.ok (.ret dflt)) { s with toks := s.toks + 1 }) :=
  .of_wp fun A R s ⟨⟨xs, hm, hne⟩, h⟩ => by
    show wpAny _ _ (dictGet d .none >>= _) _ _ s
    refine wpAny_bind (get_none hm (fun x hx Q hq => hne x hx _ Q hq) ?_)
    show wpAny _ _ (Builtin.Dict.missed d .none >>= _) _ _ _
    exact wpAny_bind (wpAny_missed_other hd (wpAny_pure ⟨dflt, rfl, h⟩))
/-- a tuple of texts is not None -/
theorem tup_none {b : Addr} {xs : List Str} {vs : List Value} {Q : Bool → Shared → Prop} (hb : IsTup s.heap b vs.toArray) (hv : Vals (xs.map V.str) vs) (ha : ∀ x ∈ xs, (PyData.str x).canLay0 = true) (hu : A.units < cLine) (h : Q false s) : wpAny (model prog w) A (eqBool (.ref b) .none) Q E s := by
  have all : ∀ {xs : List Str} {vs : List Value}, Vals (xs.map V.str) vs → ReadsAll s.heap vs (xs.map PyData.str) [] := by
    intro xs
    induction xs with
    | nil =>
      intro vs hv
      cases hv
      exact .nil
    | cons x xs ih =>
      intro vs hv
      cases hv with
      | cons r1 r2 =>
        obtain ⟨t, rfl⟩ := r1
        exact .cons (as := []) (.str x t) (ih r2)
  obtain ⟨o, ho, hc, n, hd⟩ := hb
  refine PySem.SeqAt.eqBoolOverData prog w A E s (.ref b) .none (.tuple (xs.map PyData.str)) .none [] [] Q (.tuple ho hc hd (by simpa using all hv)) .none ?_ rfl ?_ h
  · have lay : ∀ xs : List Str, (∀ x ∈ xs, (PyData.str x).canLay0 = true) → PyData.canLayAll0 (xs.map PyData.str) = true := fun xs ha => by
      induction xs with
      | nil => rfl
      | cons x xs ih =>
        show (PyData.canLay0 (.str x) && PyData.canLayAll0 (xs.map PyData.str)) = true
        rw [ih fun y hy => ha y (List.mem_cons_of_mem _ hy), ha x List.mem_cons_self] <;> rfl
    exact lay xs ha
  · show A.units + min _ 0 < cLine
    omega
end
end DJ
/-! ### .get(k, x) of a dict of tuples of texts, k such a tuple or None -/
namespace DJ
open PySem PySem.W PyProof.Rows PySem.Spec L2
/-- all keys are told in signs below 128 -/
def AscTb (kvs : Tb) : Prop := ∀ kv ∈ kvs, ∀ l ∈ kv.1, (PyData.str (tx l)).canLay0 = true
section
variable {X : Cx} {A : Around} {E : Value → Shared → Prop} {s : Shared} {H : Hp} {σ : L2.St} {pins : List (Addr × Obj)} {a : Addr}
theorem d_getN {kvs : Tb} {d : V} {r : Value} {Q : Value → Shared → Prop} (hu : A.units + 1 < cLine) (I : Inv X pins σ H s) (e : Rd H a (.dT (encTb kvs))) (ha : AscTb kvs) (rd : RelV d r) (h : ∀ w' s', Inv X pins σ H s' → RelV d w' → Q w' s') :
    wpAny (model X.prog X.w) A (call (.builtin "dict.get") [.ref a, .none, r]) Q E s := by
  obtain ⟨z, hd, xs, rel, dd⟩ := dt_rd I.hok e
  refine call_meetsIn PySem.F.slot_dict_get dd.typeIs PySem.F.entry_dict_get (PySem.F.args_dict_get_3 _ _ _) (meets_get_none (knd := tupleKind (mixKind X.prog X.w)) hd r) ⟨⟨xs, dd, fun x hx E Q hq => ?_⟩, h _ _ (I.tok _) rd⟩
  obtain ⟨j, hj⟩ := List.mem_iff_getElem?.mp hx
  obtain ⟨e0, he0, r1, r2, r3⟩ := DX.pget rel hj
  have hm := List.mem_of_getElem? he0
  obtain ⟨kv, hkv, rfl⟩ := List.mem_map.mp hm
  obtain ⟨_, its, rv, ot, hot, hct, nt, hdt⟩ := (show ObjOk X.prog X.w H s.heap x.2.1 _ from I.hok x.2.1 _ r2)
  refine tup_none (xs := kv.1.map tx) (vs := its) ⟨ot, hot, hct, nt, hdt⟩ ?_ (fun y hy => ?_) ?_ hq
  · have e1 : (kv.1.map tx).map V.str = (encT kv).1.map kV := by
      rw [List.map_map]
      show _ = (kv.1.map fun k => (Sum.inr (tx k) : Key)).map kV
      rw [List.map_map] <;> rfl
    rw [e1]
    exact rv
  · obtain ⟨l, hl, rfl⟩ := List.mem_map.mp hy
    exact ha kv hkv l hl
  · show A.in1.units < cLine
    have : A.in1.units ≤ A.units + 1 := by first | exact Nat.le_refl _ | (unfold Around.in1; simp)
    omega
end
end DJ
namespace DJ
open PySem PySem.W PyProof.Rows PySem.Spec L2
def tGetN (td ty te : TE) : TE := fun σ H Q => td σ H fun x H1 => ∃ a, x = .ref a ∧ IsD H1 a ∧ ty σ H1 fun y H2 => te σ H2 fun z H3 => ∃ o, (DGet H3 a y o ∨ (y = .non ∧ o = none ∧ ∃ kvs : Tb, Rd H3 a (.dT (encTb kvs)) ∧ AscTb kvs)) ∧ Q (o.getD z) H3
section
variable {X : Cx} {td ty te : TE} {o e f : Expr} {apos cpos : Pos}
theorem pe_getN (hu : X.A.units + 1 < cLine) (ho : PE X o td) (he : PE X e ty) (hf : PE X f te) (m : M2 X o "get" apos e f cpos) : PE X (.Call (.Attribute o "get" apos) [e, f] [] cpos) (tGetN td ty te) := by
  refine ⟨fun pins s σ H Q I h => ?_⟩
  refine wpAny_Call_method m.base m.few m.line PySem.F.plainAttrs_dict PySem.F.slot_dict_get PySem.F.type_dict_get (thn (ho.run pins s σ H _ I h) fun u s1 ⟨x, H1, I1, rx, a, ex, d, q1⟩ => ?_)
  subst ex
  obtain rfl : u = Value.ref a := rx
  obtain ⟨t1, t2, _⟩ := isD_at I1 d
  refine ⟨t1, t2, ?_⟩
  rw [m.trees]
  refine Calls.callWith_builtin rfl (Calls.evalArgs_plain (Calls.spliced_cons (thn (he.run pins s1 σ H1 _ I1 q1) fun iv s2 ⟨y, H2, I2, ry, q2⟩ =>
    Calls.spliced_cons (thn (hf.run pins s2 σ H2 _ I2 q2) fun fv s3 ⟨z, H3, I3, rz, ov, g, q3⟩ => Calls.spliced_nil ?_))))
  rcases g with g | ⟨e1, e2, kvs, g, ha⟩
  · exact d_get2 hu I3 g ry rz fun w' s4 I4 rw' => ⟨_, H3, I4, rw', q3⟩
  · subst e1; subst e2
    obtain rfl : iv = Value.none := ry
    exact d_getN hu I3 g ha rz fun w' s4 I4 rw' => ⟨_, H3, I4, rw', q3⟩
end
/-- a tuple of texts, or None -/
def keyN : Option (List (List Nat)) → Dt
  | some ks => keyD ks
  | none => .non
section
variable {K : PySem.W.Frag} {G : List (Option Sl)} {M M1 M2 M3 : List MO} {td ty te : TE}
theorem ev_getN {k : Nat} {kvs kv0 : Tb} {ks : Option (List (List Nat))} {z : List Nat} (hd : EvE K td G M (.o k) M1) (hk : EvE K ty G M1 (.d (keyN ks)) M2) (hx : EvE K te G M2 (.d (.str z)) M3) (h1 : M1[k]? = some (dcO kv0)) (hm : M3[k]? = some (dcO kvs)) (ha : AscTb kvs) :
    EvE K (tGetN td ty te) G M (.d (.str ((ks.bind (getTb kvs)).getD z))) M3 := fun F B as σ H ow sl Q q =>
  hd F B as σ H ow sl _ fun v B1 as1 H1 g1 p1 o1 r1 => by
    obtain ⟨a, hA, rfl⟩ := r1
    obtain ⟨_, _, own1, _⟩ := o1.own k a _ hA h1 (fun z => nomatch z)
    have own1 : H1 a = some (.dT (encTb kv0)) := own1
    refine ⟨a, rfl, .inr ⟨_, .inl own1⟩, hk F B1 as1 σ H1 o1 (sl.mono g1.1 p1) _ fun y B2 as2 H2 g2 p2 o2 r2 => hx F B2 as2 σ H2 o2 ((sl.mono g1.1 p1).mono g2.1 p2) _ fun w B3 as3 H3 g3 p3 o3 r3 => ?_⟩
    obtain ⟨_, _, own3, _⟩ := o3.own k a _ ((p2.trans p3).get hA) hm (fun z => nomatch z)
    have own3 : H3 a = some (.dT (encTb kvs)) := own3
    have r3 : w = .str (tx z) := r3
    subst r3
    cases ks with
    | none =>
      have r2 : y = .non := r2
      subst r2
      exact ⟨none, .inr ⟨rfl, rfl, kvs, .inl own3, ha⟩, q _ B3 as3 H3 ((g1.trans g2).trans g3) ((p1.trans p2).trans p3) o3 rfl⟩
    | some ks =>
      obtain ⟨b, rfl, hb⟩ := r2 B2 (Same.refl _)
      refine ⟨_, .inl (.inr ⟨_, _, b, .inl own3, rfl, o3.bb _ _ (g3.1 _ _ hb), rfl⟩), q _ B3 as3 H3 ((g1.trans g2).trans g3) ((p1.trans p2).trans p3) o3 ?_⟩
      rw [get_tb]
      show SlR K B3 as3 (.d (.str ((getTb kvs ks).getD z))) _
      cases getTb kvs ks with
      | none => rfl
      | some u => rfl
end
end DJ
/-! ### a table put together word by word -/
namespace DJ
open PySem PySem.Spec PyProof.Rows L2
theorem get_put (T : Tb) (k : List (List Nat)) (v : List Nat) (k' : List (List Nat)) : getTb (putTb T k v) k' = if k' = k then some v else getTb T k' := by
  have upd : ∀ T : Tb, (T.map fun kv => if kv.1 = k then (kv.1, v) else kv).find? (fun kv => decide (kv.1 = k')) = (T.find? fun kv => decide (kv.1 = k')).map fun kv => if kv.1 = k then (kv.1, v) else kv := by
    intro T
    induction T with
    | nil => rfl
    | cons x T ih =>
      rw [List.map_cons, List.find?_cons, List.find?_cons]
      have e : (if x.1 = k then (x.1, v) else x).1 = x.1 := by split <;> rfl
      rw [e]
      by_cases h : x.1 = k'
      · rw [decide_eq_true h] <;> rfl
      · rw [decide_eq_false h]
        exact ih
  unfold putTb getTb
  by_cases h : T.any (fun kv => decide (kv.1 = k)) = true
  · rw [if_pos h, upd, Option.map_map]
    by_cases e : k' = k
    · subst e
      rw [if_pos rfl]
      obtain ⟨x, hx, hk⟩ := List.any_eq_true.mp h
      cases hf : T.find? fun kv => decide (kv.1 = k') with
      | none => exact absurd hk (by have := List.find?_eq_none.mp hf x hx; simpa using this)
      | some y =>
        have hy := List.find?_some hf
        show some (if y.1 = k' then (y.1, v) else y).2 = some v
        rw [if_pos (of_decide_eq_true hy)]
    · rw [if_neg e]
      cases hf : T.find? fun kv => decide (kv.1 = k') with
      | none => rfl
      | some y =>
        have hy0 := List.find?_some hf
        have hy : y.1 = k' := of_decide_eq_true hy0
        show some (if y.1 = k then (y.1, v) else y).2 = some y.2
        rw [if_neg (by rw [hy]; exact e)]
  · rw [if_neg h]
    rw [List.find?_append]
    have hno : ∀ y ∈ T, y.1 ≠ k := fun y hy e => h (List.any_eq_true.mpr ⟨y, hy, decide_eq_true e⟩)
    by_cases e : k' = k
    · subst e
      rw [if_pos rfl, List.find?_eq_none.mpr (fun y hy => by simpa using hno y hy)]
      rw [Option.none_or, List.find?_cons, decide_eq_true rfl] <;> rfl
    · rw [if_neg e]
      cases hf : T.find? fun kv => decide (kv.1 = k') with
      | none =>
        rw [Option.none_or, List.find?_cons, decide_eq_false (Ne.symm e)] <;> rfl
      | some y => rfl
section
variable (cw : List Nat → Option (List Nat × List Nat)) (lt : List Nat → List Nat → Bool) (nn : List Nat)
def tabS (T : Tb) (w : List Nat) : Tb := match cw w with
  | none => T
  | some k => if lt w ((getTb T [k.1, k.2]).getD nn) = true then putTb T [k.1, k.2] w else T
/-- each key's word is the least one so far -/
structure TabOk (T : Tb) (S : List Nat → Prop) : Prop where
  all : ∀ e w, cw w = some e → S w → ∃ v, getTb T [e.1, e.2] = some v ∧ lt w v = false
  key : ∀ k v, getTb T k = some v → ∃ e, k = [e.1, e.2] ∧ cw v = some e ∧ S v
theorem two_inj {a b : List Nat × List Nat} (h : [a.1, a.2] = [b.1, b.2]) : a = b := by
  injection h with h1 h2
  injection h2 with h2 _
  exact Prod.ext h1 h2
theorem tab_step {T : Tb} {S : List Nat → Prop} {w : List Nat} (h : TabOk cw lt T S) (hr : ∀ a, lt a a = false) (hs : ∀ a b, lt a b = true → lt b a = false) (ht : ∀ a b c, lt b a = false → lt c b = false → lt c a = false) (hn : lt w nn = true) :
    TabOk cw lt (tabS cw lt nn T w) fun x => S x ∨ x = w := by
  unfold tabS
  cases hw : cw w with
  | none =>
    refine ⟨fun e x hx hS => ?_, fun k v hv => ?_⟩
    · rcases hS with hS | rfl
      · exact h.all e x hx hS
      · rw [hw] at hx; cases hx
    · obtain ⟨e, h1, h2, h3⟩ := h.key k v hv
      exact ⟨e, h1, h2, .inl h3⟩
  | some k =>
    show TabOk cw lt (if lt w ((getTb T [k.1, k.2]).getD nn) = true then putTb T [k.1, k.2] w else T) _
    by_cases hl : lt w ((getTb T [k.1, k.2]).getD nn) = true
    · rw [if_pos hl]
      refine ⟨fun e x hx hS => ?_, fun k' v hv => ?_⟩
      · rw [get_put]
        by_cases e1 : [e.1, e.2] = [k.1, k.2]
        · rw [if_pos e1]
          refine ⟨w, rfl, ?_⟩
          rcases hS with hS | rfl
          · obtain ⟨v, h1, h2⟩ := h.all e x hx hS
            rw [e1] at h1
            rw [h1] at hl
            exact ht w v x (hs w v hl) h2
          · exact hr _
        · rw [if_neg e1]
          rcases hS with hS | rfl
          · exact h.all e x hx hS
          · rw [hw] at hx
            cases hx
            exact absurd rfl e1
      · rw [get_put] at hv
        by_cases e1 : k' = [k.1, k.2]
        · rw [if_pos e1] at hv
          cases hv
          exact ⟨k, e1, hw, .inr rfl⟩
        · rw [if_neg e1] at hv
          obtain ⟨e, h1, h2, h3⟩ := h.key k' v hv
          exact ⟨e, h1, h2, .inl h3⟩
    · rw [if_neg hl]
      refine ⟨fun e x hx hS => ?_, fun k' v hv => ?_⟩
      · rcases hS with hS | rfl
        · exact h.all e x hx hS
        · rw [hw] at hx
          cases hx
          cases hc : getTb T [k.1, k.2] with
          | none =>
            rw [hc] at hl
            exact absurd hn hl
          | some v =>
            rw [hc] at hl
            exact ⟨v, rfl, Bool.eq_false_iff.mpr hl⟩
      · obtain ⟨e, h1, h2, h3⟩ := h.key k' v hv
        exact ⟨e, h1, h2, .inl h3⟩
theorem tab_all (hr : ∀ a, lt a a = false) (hs : ∀ a b, lt a b = true → lt b a = false) (ht : ∀ a b c, lt b a = false → lt c b = false → lt c a = false) : ∀ (ws : List (List Nat)) {T : Tb} {S : List Nat → Prop}, TabOk cw lt T S → (∀ w ∈ ws, lt w nn = true) → TabOk cw lt (ws.foldl (tabS cw lt nn) T) fun x => S x ∨ x ∈ ws
  | [], T, S, h, _ => ⟨fun e x hx hS => h.all e x hx (hS.elim id fun z => nomatch z), fun k v hv => by
    obtain ⟨e, h1, h2, h3⟩ := h.key k v hv
    exact ⟨e, h1, h2, .inl h3⟩⟩
  | w :: ws, T, S, h, hn => by
    have h1 := tab_step cw lt nn h hr hs ht (hn w List.mem_cons_self)
    have h2 := tab_all hr hs ht ws h1 fun x hx => hn x (List.mem_cons_of_mem w hx)
    refine ⟨fun e x hx hS => h2.all e x hx ?_, fun k v hv => ?_⟩
    · rcases hS with hS | hS
      · exact .inl (.inl hS)
      · rcases List.mem_cons.mp hS with e | e
        · exact .inl (.inr e)
        · exact .inr e
    · obtain ⟨e, a, b, c⟩ := h2.key k v hv
      refine ⟨e, a, b, ?_⟩
      rcases c with (c | c) | c
      · exact .inl c
      · exact .inr (by rw [c]; exact List.mem_cons_self)
      · exact .inr (List.mem_cons_of_mem _ c)
end
end DJ
/-! ### dicts whose keys are whole numbers, their values plain -/
namespace DJ
open PySem PySem.Spec PyProof.Rows L2
abbrev Di := List (Int × V)
def enI (ds : Di) : List (Key × V) := ds.map fun p => (Sum.inl p.1, p.2)
def getI (ds : Di) (k : Int) : Option V := (ds.find? fun p => decide (p.1 = k)).map (·.2)
def putI (ds : Di) (k : Int) (v : V) : Di := if (ds.any fun p => decide (p.1 = k)) = true then ds.map (fun p => if p.1 = k then (p.1, v) else p) else ds ++ [(k, v)]
theorem inl_dec (a b : Int) : decide ((Sum.inl a : Key) = Sum.inl b) = decide (a = b) := by
  by_cases h : a = b
  · subst h; rw [decide_eq_true rfl, decide_eq_true rfl]
  · rw [decide_eq_false h, decide_eq_false fun e => h (Sum.inl.inj e)]
theorem get_enI (k : Int) : ∀ ds : Di, valV (enI ds) (Sum.inl k) = getI ds k
  | [] => rfl
  | p :: ds => by
    by_cases h : p.1 = k
    · have e1 : getI (p :: ds) k = some p.2 := by
        unfold getI
        rw [List.find?_cons_of_pos (by exact decide_eq_true h)] <;> rfl
      rw [e1]
      exact valV_pos (p := (Sum.inl p.1, p.2)) (by rw [← h])
    · have e1 : getI (p :: ds) k = getI ds k := by
        unfold getI
        rw [List.find?_cons_of_neg (by rw [decide_eq_true_eq]; exact h)]
      rw [e1, ← get_enI k ds]
      exact valV_neg (p := (Sum.inl p.1, p.2)) fun z => h (Sum.inl.inj z)
theorem put_enI (k : Int) (v : V) (ds : Di) : putK (enI ds) (Sum.inl k) v = enI (putI ds k v) := by
  unfold putK putI enI
  rw [List.any_map]
  have e : ((fun kv : Key × V => decide (kv.1 = Sum.inl k)) ∘ fun p : Int × V => ((Sum.inl p.1 : Key), p.2)) = fun p => decide (p.1 = k) := funext fun p => inl_dec p.1 k
  rw [e]
  split
  · rw [List.map_map, List.map_map]
    refine List.map_congr_left fun p _ => ?_
    show (if (Sum.inl p.1 : Key) = Sum.inl k then ((Sum.inl p.1 : Key), v) else (Sum.inl p.1, p.2)) = (Sum.inl (if p.1 = k then (p.1, v) else p).1, (if p.1 = k then (p.1, v) else p).2)
    by_cases z : p.1 = k
    · rw [if_pos z, if_pos (by rw [z])]
    · rw [if_neg z, if_neg fun y => z (Sum.inl.inj y)]
  · rw [List.map_append] <;> rfl
theorem getI_put (ds : Di) (k : Int) (v : V) (j : Int) : getI (putI ds k v) j = if j = k then some v else getI ds j := by
  rw [← get_enI, ← put_enI, valV_put, get_enI]
  by_cases h : j = k
  · rw [if_pos h, if_pos (by rw [h])]
  · rw [if_neg h, if_neg fun z => h (Sum.inl.inj z)]
theorem putI_new {ds : Di} {k : Int} (v : V) (h : getI ds k = none) : putI ds k v = ds ++ [(k, v)] := by
  unfold putI
  rw [if_neg]
  intro z
  obtain ⟨p, hp, e⟩ := List.any_eq_true.mp z
  unfold getI at h
  rw [Option.map_eq_none_iff, List.find?_eq_none] at h
  exact h p hp e
theorem putI_len (ds : Di) (k : Int) (v : V) : (putI ds k v).length ≤ ds.length + 1 := by
  unfold putI
  split
  · rw [List.length_map]; exact Nat.le_succ _
  · rw [List.length_append]; exact Nat.le_refl _
def diO (ds : Di) : MO := .hob (.dK (enI ds))
def diD (ds : Di) : Dt := .ext fun H v => ∃ a, v = .ref a ∧ H a = some (.dK (enI ds))
section
variable {K : PySem.W.Frag} {F B H : Hp} {as : List Addr} {G G1 : List (Option Sl)} {M M1 M2 M3 : List MO} {te td ty : TE} {x y : Dt} {v : V} {ds : Di} {k : Nat} {n : Int}
theorem mor_di {a : Addr} (e : H a = some (.dK (enI ds))) : MoR K B H a (diO ds) := ⟨e, fun _ z => (nomatch z)⟩
theorem ev_dnewI : EvE K tDNewK G M (.o M.length) (M ++ [diO []]) := fun F B as σ H ow sl Q q p hp => by
  refine q _ B (as ++ [p]) _ (Gr.refl F B) ⟨[p], rfl⟩ (ow.newO hp (mor_di upd_same)) ⟨p, ?_, rfl⟩
  rw [← ow.len, List.getElem?_append_right (Nat.le_refl _), Nat.sub_self] <;> rfl
theorem es_putI (hv : EvE K te G M (.d x) M1) (hx : ∀ B w, Rp K B x w → w = v) (hd : EvE K td G M1 (.o k) M2) (hk : EvE K ty G M2 (.d (.int n)) M3) (hm : M3[k]? = some (diO ds)) (hl : ds.length < 100000) :
    EvS K (sDPut td ty te) G M (.nx G (M3.set k (diO (putI ds n v)))) := fun F B as σ H ow sl D gd =>
  hv F B as σ H ow sl _ fun w B1 as1 H1 g1 p1 o1 r1 => hd F B1 as1 σ H1 o1 (sl.mono g1.1 p1) _ fun y B2 as2 H2 g2 p2 o2 r2 => hk F B2 as2 σ H2 o2 ((sl.mono g1.1 p1).mono g2.1 p2) _ fun z B3 as3 H3 g3 p3 o3 r3 => by
    obtain ⟨a, ha, rfl⟩ := r2
    obtain rfl : z = .int n := r3
    obtain rfl := hx B1 w r1
    have ha3 : as3[k]? = some a := p3.get ha
    obtain ⟨f0, b0, hH, _⟩ := o3.own k a _ ha3 hm (fun z => nomatch z)
    refine ⟨a, _, rfl, .inl ⟨enI ds, Sum.inl n, hH, rfl, by unfold enI; rw [List.length_map, sizeLine_eq]; omega, rfl⟩, ?_⟩
    rw [put_enI]
    exact gd B3 as3 σ _ ((g1.trans g2).trans g3) ((p1.trans p2).trans p3) (o3.put ha3 hm (fun z => nomatch z) (mor_di upd_same)) (((sl.mono g1.1 p1).mono g2.1 p2).mono g3.1 p3)
theorem ev_atI (hd : EvE K td G M (.o k) M1) (hk : EvE K ty G M1 (.d (.int n)) M2) (hm : M2[k]? = some (diO ds)) (hz : getI ds n = some v) (hy : ∀ B, Rp K B y v) : EvE K (tDGet td ty) G M (.d y) M2 := fun F B as σ H ow sl Q q =>
  hd F B as σ H ow sl _ fun u B1 as1 H1 g1 p1 o1 r1 => hk F B1 as1 σ H1 o1 (sl.mono g1.1 p1) _ fun z B2 as2 H2 g2 p2 o2 r2 => by
    obtain ⟨a, ha, rfl⟩ := r1
    obtain rfl : z = .int n := r2
    obtain ⟨f0, b0, hH, _⟩ := o2.own k a _ (p2.get ha) hm (fun z => nomatch z)
    exact ⟨a, v, rfl, .inl ⟨enI ds, Sum.inl n, .inl hH, rfl, by rw [get_enI, hz]⟩, q v B2 as2 H2 (g1.trans g2) (p1.trans p2) o2 (hy B2)⟩
theorem ev_atID (hd : EvE K td G M (.d (diD ds)) M1) (hk : EvE K ty G M1 (.d (.int n)) M2) (hz : getI ds n = some v) (hy : ∀ B, Rp K B y v) : EvE K (tDGet td ty) G M (.d y) M2 := fun F B as σ H ow sl Q q =>
  hd F B as σ H ow sl _ fun u B1 as1 H1 g1 p1 o1 r1 => hk F B1 as1 σ H1 o1 (sl.mono g1.1 p1) _ fun z B2 as2 H2 g2 p2 o2 r2 => by
    obtain ⟨a, rfl, ha⟩ := r1 B2 g2.1
    obtain rfl : z = .int n := r2
    exact ⟨a, v, rfl, .inl ⟨enI ds, Sum.inl n, .inl (o2.bb _ _ ha), rfl, by rw [get_enI, hz]⟩, q v B2 as2 H2 (g1.trans g2) (p1.trans p2) o2 (hy B2)⟩
/-- d.get(k, x) of numbers -/
theorem ev_get2I {z : Int} {ds0 : Di} (hd : EvE K td G M (.o k) M1) (hk : EvE K ty G M1 (.d (.int n)) M2) (hx : EvE K te G M2 (.d (.int z)) M3) (h1 : M1[k]? = some (diO ds0)) (hm : M3[k]? = some (diO ds)) (hy : ∀ B, Rp K B y ((getI ds n).getD (.int z))) : EvE K (tDGet2 td ty te) G M (.d y) M3 := fun F B as σ H ow sl Q q =>
  hd F B as σ H ow sl _ fun u B1 as1 H1 g1 p1 o1 r1 => by
    obtain ⟨a, ha, rfl⟩ := r1
    obtain ⟨_, _, h0, _⟩ := o1.own k a _ ha h1 (fun z => nomatch z)
    refine ⟨a, rfl, .inl ⟨_, .inl h0⟩, hk F B1 as1 σ H1 o1 (sl.mono g1.1 p1) _ fun w B2 as2 H2 g2 p2 o2 r2 => hx F B2 as2 σ H2 o2 ((sl.mono g1.1 p1).mono g2.1 p2) _ fun w' B3 as3 H3 g3 p3 o3 r3 => ?_⟩
    obtain rfl : w = .int n := r2
    obtain rfl : w' = .int z := r3
    obtain ⟨_, _, h3, _⟩ := o3.own k a _ ((p2.trans p3).get ha) hm (fun z => nomatch z)
    refine ⟨_, .inl ⟨enI ds, Sum.inl n, .inl h3, rfl, rfl⟩, q _ B3 as3 H3 ((g1.trans g2).trans g3) ((p1.trans p2).trans p3) o3 ?_⟩
    rw [get_enI]
    exact hy B3
/-- k in d, k not in d -/
theorem ev_dinI (hk : EvE K ty G M (.d (.int n)) M1) (hd : EvE K td G M1 (.o k) M2) (hm : M2[k]? = some (diO ds)) : EvE K (tDIn ty td) G M (.d (.bl (getI ds n).isSome)) M2 := fun F B as σ H ow sl Q q =>
  hk F B as σ H ow sl _ fun u B1 as1 H1 g1 p1 o1 r1 => hd F B1 as1 σ H1 o1 (sl.mono g1.1 p1) _ fun z B2 as2 H2 g2 p2 o2 r2 => by
    obtain ⟨a, ha, rfl⟩ := r2
    obtain rfl : u = .int n := r1
    obtain ⟨f0, b0, hH, _⟩ := o2.own k a _ ha hm (fun z => nomatch z)
    refine ⟨a, _, rfl, .inl ⟨enI ds, Sum.inl n, .inl hH, rfl, rfl⟩, q _ B2 as2 H2 (g1.trans g2) (p1.trans p2) o2 ?_⟩
    rw [get_enI] <;> rfl
theorem ev_dninI (hk : EvE K ty G M (.d (.int n)) M1) (hd : EvE K td G M1 (.o k) M2) (hm : M2[k]? = some (diO ds)) : EvE K (tDNotIn ty td) G M (.d (.bl (!(getI ds n).isSome))) M2 := fun F B as σ H ow sl Q q =>
  hk F B as σ H ow sl _ fun u B1 as1 H1 g1 p1 o1 r1 => hd F B1 as1 σ H1 o1 (sl.mono g1.1 p1) _ fun z B2 as2 H2 g2 p2 o2 r2 => by
    obtain ⟨a, ha, rfl⟩ := r2
    obtain rfl : u = .int n := r1
    obtain ⟨f0, b0, hH, _⟩ := o2.own k a _ ha hm (fun z => nomatch z)
    refine ⟨a, _, rfl, .inl ⟨enI ds, Sum.inl n, .inl hH, rfl, rfl⟩, q _ B2 as2 H2 (g1.trans g2) (p1.trans p2) o2 ?_⟩
    rw [get_enI] <;> rfl
/-- from here on it is data -/
theorem ev_freezeI (h : EvE K te G M (.o k) M1) (hm : M1[k]? = some (diO ds)) : EvE K te G M (.d (diD ds)) (M1.set k .gone) := fun F B as σ H ow sl Q q =>
  h F B as σ H ow sl _ fun v B1 as1 H1 g p o1 r => by
    obtain ⟨a, ha, rfl⟩ := r
    obtain ⟨g', ow'⟩ := o1.freezeO ha hm
    exact q _ _ as1 H1 (g.trans g') p ow' fun H' s => ⟨a, rfl, s _ _ upd_same⟩
/-- list(d), the keys -/
theorem ints_keys {B : Hp} (ds : Di) : RpL K B (ds.map fun p => Dt.int p.1) ((enI ds).map fun kv => kV kv.1) := by
  unfold enI
  rw [List.map_map]
  induction ds with
  | nil => rfl
  | cons p ds ih => exact ⟨_, _, rfl, rfl, ih⟩
theorem ev_listI {tr : TA} (h : EvA K tr G M [.o k] M1) (hm : M1[k]? = some (diO ds)) : EvE K (tCB rListD tr) G M (.d (lstX K (ds.map fun p => Dt.int p.1))) M1 := fun F B as σ H ow sl Q q =>
  h F B as σ H ow sl _ fun vs B1 as1 H1 g1 p1 o1 r1 => by
    obtain ⟨u, r, e, ⟨a, ha, eu⟩, e2⟩ := r1
    have e2 : r = [] := e2
    subst e2; subst eu; subst e
    obtain ⟨f0, b0, hH, _⟩ := o1.own k a _ ha hm (fun z => nomatch z)
    refine ⟨a, enI ds, rfl, hH, fun p hp => ?_⟩
    refine q _ _ as1 _ (g1.trans (o1.gr hp _)) p1 (o1.new hp _) fun H' s => ⟨p, _, rfl, s _ _ upd_same, ints_keys ds⟩
end
end DJ
/-! ### set(xs), xs a list of whole numbers -/
namespace DJ
open PySem PySem.Spec PyProof.Rows L2
abbrev setOb (w : World) : Obj := { cls := .type "set", dict := none, data := .set #[] 0 (.fresh 0 0 (!w.params.followText "set-order")) }
abbrev hpS (w : World) (s : Shared) : Heap := s.heap.push (setOb w)
section
variable {P : Program} {w : World} {A : Around} {E : Value → Shared → Prop} {s : Shared}
theorem set_ofL {l : Addr} {xs : Array Value} (ms : List Int) {Q : Value → Shared → Prop} (calm : A.handled = none) (isl : s.heap.IsList l xs) (isI : IntsAre xs.toList ms) (room : ms.length + 1 < scanBound)
    (fin : ∀ (g : Heap) (tk c : Nat), SetR w g s.heap.objs.size (fun j => decide (j ∈ ms)) c → c ≤ ms.length → (∀ b o, s.heap.get? b = some o → g.get? b = some o) → Q (.ref s.heap.objs.size) { s with heap := g, toks := tk }) :
    wpAny (model P w) A (call (.type "set") [.ref l]) Q E s := by
  have size_is : xs.size = ms.length := by have q := IntsAre.length isI; rw [Array.length_toList] at q; exact q
  obtain ⟨c0, tl0, mro0⟩ := PySem.F.called_set.mro
  have made0 := PySem.F.called_set.made
  have sub0 := PySem.F.called_set.sub
  refine wpAny_call (codeAny_of_tree ?_)
  show wpAny _ _ (callAny (.type "set") _) _ _ _
  refine wpAny_pure ⟨Code.quiet_builtin _ (by decide +kernel), codeAny_builtin PySem.F.entry_type_call ?_⟩
  rw [Around.under_plain (weight_type_call_type "set" [.ref l] []) rfl]
  have nt := PySem.F.called_set.notType
  have cc := PySem.F.called_set.canCreate
  have ct := PySem.F.typeCall_set_1 (.ref l)
  repeat (any_goals (first | assumption | wp_step))
  refine codeAny_mono (code_set_led1 (.ref l) (E := E) (Q₁ := fun obj s₁ => obj = .ref s.heap.objs.size ∧ s₁ = { s with heap := hpS w s }) ⟨rfl, rfl⟩) fun r s₁ hr => ?_
  cases r with
  | error e => exact hr
  | ok fl =>
    cases fl with
    | ret obj =>
      obtain ⟨rfl, rfl⟩ := hr
      have at0 : (hpS w s).get? s.heap.objs.size = some (setOb w) := Heap.get?_push_size _ rfl
      have ty0 : Shared.TypeIs { s with heap := hpS w s } (.ref s.heap.objs.size) "set" := ⟨_, at0, rfl⟩
      have li := PySem.F.called_set.init.lookup
      have bi := PySem.F.called_set.init.bind (.ref s.heap.objs.size)
      repeat (any_goals (first | assumption | wp_step))
      refine codeAny_mono (codeAny_call_builtin (R := wants (fun r s₂ => r = .none ∧ ∃ g tk c, s₂ = { s with heap := g, toks := tk } ∧ SetR w g s.heap.objs.size (fun j => decide (j ∈ ms)) c ∧ c ≤ ms.length ∧ (∀ b o, s.heap.get? b = some o → g.get? b = some o)) E)
        PySem.F.called_set.init.plain PySem.F.entry_set_init (check_set_init_1 ty0 ?_)) fun r₂ s₂ hr₂ => ?_
      · obtain ⟨ol, hol, cl, nl, dl⟩ := isl
        obtain ⟨ocls, odict, odata, oslots⟩ := ol
        simp only at cl dl
        subst cl; subst dl
        have at1 : (hpS w s).get? l = some { cls := .type "list", dict := odict, data := .seq xs nl, slots := oslots } := Heap.get?_push_of_some _ hol
        have nsub := PySem.F.sub_list_set
        have nfro := PySem.F.sub_list_frozenset
        have nd : (Value.type "list" == Value.type "dict") = false := by decide
        have isl1 : (hpS w s).IsList l xs := ⟨_, at1, rfl, nl, rfl⟩
        unfold Builtin.«set.__init__» noKeywords Builtin.Frozenset.updateFrom
        generalize gPI : pyIter = PI
        wp_walk
        subst gPI
        refine wpAny_pyIter_list isl1 ?_
        refine wpAny_bind (wpAny_runValue ?_)
        have ls : l < s.heap.objs.size := Heap.lt_size hol
        have calm3 : A.in1.in1.in1.handled = none := by simp [calm]
        have z1 : (hpS w s).objs.size = s.heap.objs.size + 1 := Heap.size_push ..
        have nI : l ≠ (hpS w s).objs.size := by rw [z1]; exact Nat.ne_of_lt (Nat.lt_succ_of_lt ls)
        have notf : s.heap.objs.size ∉ [(hpS w s).objs.size, l] := by
          rw [z1]
          simp only [List.mem_cons, List.mem_singleton, List.not_mem_nil, or_false, not_or]
          exact ⟨Nat.ne_of_lt (Nat.lt_succ_self _), Nat.ne_of_gt ls⟩
        have vals : ∀ (i : Nat) (v : Value), xs[i]? = some v → ∃ k t, ms[i]? = some k ∧ v = .int k t := fun i v hv => by
          have hi : i < ms.length := size_is ▸ (Array.getElem?_eq_some_iff.mp hv).1
          obtain ⟨t, e⟩ := PyProof.Rows.IntsAre.int_at isI i v (by rw [Array.getElem?_toList]; exact hv)
          exact ⟨ms[i], t, List.getElem?_eq_getElem hi, by rw [e, List.getD_eq_getElem?_getD, List.getElem?_eq_getElem hi] <;> rfl⟩
        refine set_update_ints ((Walks.list calm3 _ l nI xs).toS) s.heap.objs.size notf ms size_is room vals (xs.size - 0) 0 _ (by omega) (Nat.zero_le _) ⟨⟨_, Heap.get?_push_size _ rfl, rfl, rfl⟩, (isl1.push _)⟩ ?start ?rest
        case start => exact ⟨0, Nat.le_refl 0, setR_new_at (Heap.get?_push_of_some _ at0)⟩
        case rest =>
          intro s' c' hm hc' hS'
          obtain ⟨g, g2, d', tk', os'⟩ := s'
          obtain rfl : g2 = s.gens := hm.gens
          obtain rfl : d' = s.drawn := hm.drawn
          obtain rfl : os' = s.os := hm.os
          show wpAny _ _ _ _ _ _
          refine wpAny_pure ?_
          show wpAny _ _ (ret Value.none) _ _ _
          rw [size_is] at hc'
          refine wpAny_pure ⟨rfl, g, tk', c', rfl, hS', hc', fun b o e => ?_⟩
          have bl : b < s.heap.objs.size := Heap.lt_size e
          refine hm.heap b o ?_ (Heap.get?_push_of_some _ (Heap.get?_push_of_some _ e))
          simp only [List.mem_cons, List.mem_singleton, List.not_mem_nil, or_false, not_or]
          exact ⟨Nat.ne_of_lt bl, by rw [z1]; exact Nat.ne_of_lt (Nat.lt_succ_of_lt bl)⟩
      · cases r₂ with
        | error e => exact hr₂
        | ok fl₂ =>
          cases fl₂ with
          | ret r =>
            obtain ⟨rfl, g, tk, c', rfl, hS', hc', hk'⟩ := hr₂
            repeat (any_goals (first | assumption | wp_step))
            exact fin _ _ _ hS' hc' hk'
          | _ => exact hr₂.elim
    | _ => exact hr.elim
end
end DJ
/-! ### owned lists: pop, truth; sorted numbers; sets of numbers -/
namespace DJ
open PySem PySem.Spec PyProof.Rows L2
section
variable {K : PySem.W.Frag} {F B H : Hp} {as : List Addr} {G G1 : List (Option Sl)} {M M1 M2 M3 : List MO} {te td ty to : TE} {tr : TA} {x y : Dt} {k : Nat} {n : Int}
theorem RpL.snoc {xs : List Dt} {vs : List V} : RpL K H (xs ++ [x]) vs → ∃ us u, vs = us ++ [u] ∧ RpL K H xs us ∧ Rp K H x u := by
  induction xs generalizing vs with
  | nil =>
    intro h
    obtain ⟨v, r, e, h1, h2⟩ := h
    have h2 : r = [] := h2
    subst h2; subst e
    exact ⟨[], v, rfl, rfl, h1⟩
  | cons z xs ih =>
    intro h
    obtain ⟨v, r, e, h1, h2⟩ := h
    obtain ⟨us, u, e2, h3, h4⟩ := ih h2
    subst e2; subst e
    exact ⟨v :: us, u, rfl, ⟨v, us, rfl, h1, h3⟩, h4⟩
/-- xs.pop() -/
theorem ev_popO {xs : List Dt} (ho : EvE K to G M (.o k) M1) (hm : M1[k]? = some (.lst (xs ++ [x]))) : EvE K (tBM0 K "list" rPop to) G M (.d x) (M1.set k (.lst xs)) := fun F B as σ H ow sl Q q =>
  ho F B as σ H ow sl _ fun w B1 as1 H1 g1 p1 o1 r1 => by
    obtain ⟨a, ha, rfl⟩ := r1
    obtain ⟨_, _, vs, hv, hr⟩ := o1.own k a _ ha hm (fun z => nomatch z)
    obtain ⟨us, u, rfl, h1, h2⟩ := RpL.snoc hr
    refine ⟨.inl ⟨rfl, _, .inl (.inl hv)⟩, a, _, u, rfl, rfl, hv, ?_, ?_⟩
    · rw [List.length_append, List.length_singleton, Nat.add_sub_cancel, List.getElem?_append_right (Nat.le_refl _), Nat.sub_self] <;> rfl
    · rw [List.dropLast_concat]
      exact q u B1 as1 _ g1 p1 (o1.put ha hm (fun z => nomatch z) ⟨_, upd_same, h1⟩) h2
/-- the truth of a list that is owned -/
theorem et_truO {xs : List Dt} (h : EvE K te G M (.o k) M1) (hm : M1[k]? = some (.lst xs)) : EvT K (fun σ H Q => te σ H fun x H' => ∃ k, TruV K x H' k ∧ Q k H') G M (!xs.isEmpty) M1 := fun F B as σ H ow sl Q q =>
  h F B as σ H ow sl _ fun w B1 as1 H1 g1 p1 o1 r1 => by
    obtain ⟨a, ha, rfl⟩ := r1
    obtain ⟨_, _, vs, hv, hr⟩ := o1.own k a _ ha hm (fun z => nomatch z)
    refine ⟨_, .inl ⟨vs, .inl (.inl hv), rfl⟩, ?_⟩
    have e : (!vs.isEmpty) = !xs.isEmpty := by
      have := hr.len
      cases vs <;> cases xs <;> first | rfl | simp at this
    rw [e]
    exact q B1 as1 H1 g1 p1 o1
theorem RpL.nums {ns : List Int} {vs : List V} (h : RpL K H (ns.map Dt.int) vs) : vs = ns.map V.int := by
  induction ns generalizing vs with
  | nil => exact h
  | cons z ns ih =>
    obtain ⟨v, r, e, h1, h2⟩ := h
    obtain rfl : v = .int z := h1
    rw [e, ih h2] <;> rfl
theorem RpL.nums_of (ns : List Int) : RpL K H (ns.map Dt.int) (ns.map V.int) := by
  induction ns with
  | nil => rfl
  | cons z ns ih => exact ⟨_, _, rfl, rfl, ih⟩
/-- sorted(xs), whole numbers -/
def sortI (ns : List Int) : List Int := ns.mergeSort fun a b => decide (a ≤ b)
theorem sortI_perm (ns : List Int) : (sortI ns).Perm ns := List.mergeSort_perm _ _
theorem sortI_le (ns : List Int) : (sortI ns).Pairwise (· ≤ ·) := by
  have h := List.pairwise_mergeSort (le := fun a b : Int => decide (a ≤ b)) (fun a b c h1 h2 => by
    simp only [decide_eq_true_eq] at *
    omega) (fun a b => by
    simp only [Bool.or_eq_true, decide_eq_true_eq]
    omega) ns
  exact h.imp fun z => of_decide_eq_true z
theorem sortI_uniq {ns ms : List Int} (hp : ms.Perm ns) (hs : ms.Pairwise (· ≤ ·)) : ms = sortI ns :=
  perm_uniq (lt := fun a b : Int => decide (a < b)) (fun a b h1 h2 => by simp only [decide_eq_false_iff_not] at *; omega) _ _ (hp.trans (sortI_perm ns).symm) (hs.imp fun z => decide_eq_false (by omega)) ((sortI_le ns).imp fun z => decide_eq_false (by omega))
theorem ev_sortI {ns : List Int} (h : EvA K tr G M [.d (.lst (ns.map Dt.int))] M1) : EvE K (tCB (rSortedI K) tr) G M (.d (lstX K ((sortI ns).map Dt.int))) M1 := fun F B as σ H ow sl Q q =>
  h F B as σ H ow sl _ fun vs B1 as1 H1 g1 p1 o1 r1 => by
    obtain ⟨u, r, e, ⟨a, us, eu, hq, hr⟩, e2⟩ := r1
    have e2 : r = [] := e2
    subst e2; subst eu; subst e
    obtain rfl := RpL.nums hr
    refine ⟨a, ns, rfl, o1.bb.seq hq, fun ms p hp hs hn => ?_⟩
    obtain rfl := sortI_uniq hp hs
    exact q _ _ as1 _ (g1.trans (o1.gr hn _)) p1 (o1.new hn _) fun H' s => ⟨p, _, rfl, s _ _ upd_same, RpL.nums_of _⟩
/-- xs.count(n) -/
theorem ev_countI {ns : List Int} (ho : EvE K to G M (.d (.lst (ns.map Dt.int))) M1) (h : EvE K te G M1 (.d (.int n)) M2) : EvE K (tBM K "list" (rCntI K) to (tCons te tNil)) G M (.d (.int (ns.count n : Nat))) M2 := fun F B as σ H ow sl Q q =>
  ho F B as σ H ow sl _ fun w B1 as1 H1 g1 p1 o1 r1 => by
    obtain ⟨a, vs, rfl, hq, hr⟩ := r1
    obtain rfl := RpL.nums hr
    refine ⟨.inl ⟨rfl, _, o1.bb.seq hq⟩, h F B1 as1 σ H1 o1 (sl.mono g1.1 p1) _ fun v B2 as2 H2 g2 p2 o2 r2 => ?_⟩
    obtain rfl : v = .int n := r2
    exact ⟨a, ns, n, rfl, rfl, o2.bb.seq (g2.1.seq hq), q _ B2 as2 H2 (g1.trans g2) (p1.trans p2) o2 rfl⟩
/-- a new list of data turned round -/
theorem ev_revX {xs : List Dt} (h : EvE K te G M (.d (.lst xs)) M1) : EvE K (tRevL K te) G M (.d (lstX K xs.reverse)) M1 := fun F B as σ H ow sl Q q =>
  h F B as σ H ow sl _ fun v B1 as1 H1 g1 p1 o1 r1 => by
    obtain ⟨a, vs, rfl, hq, hr⟩ := r1
    refine ⟨a, vs, rfl, o1.bb.seq hq, fun p hp => ?_⟩
    exact q _ _ as1 _ (g1.trans (o1.gr hp _)) p1 (o1.new hp _) fun H' s => ⟨p, _, rfl, s _ _ upd_same, RpL.mono ((o1.gr hp _).1.trans s) _ _ hr.reverse⟩
end
end DJ
/-! ### {k: v for ..}, keys whole numbers, values plain; a comprehension over a dict that is owned -/
namespace DJ
open PySem PySem.Spec PyProof.Rows L2
theorem kp_any {o : HO} (h : ∀ vs, o ≠ .tup vs) : Kp (some o) := ⟨fun z => (nomatch z), fun vs z => h vs (Option.some.inj z)⟩
section
variable {K : PySem.W.Frag} {F B B1 H : Hp} {as : List Addr} {G G1 : List (Option Sl)} {M : List MO} {te tk tv : TE}
theorem Gr.of_sideK {D : Addr} {o : HO} (ho : ∀ vs, o ≠ .tup vs) (h : Gr (upd F D o) B B1) : Gr F B B1 := ⟨h.1, fun a f n => h.2 a (by
  by_cases e : a = D
  · rw [e, upd_same]; exact kp_any ho
  · rw [upd_ne e]; exact f) n⟩
/-- a fresh thing at the side -/
theorem Ow.new_side {D : Addr} {o : HO} (h : Ow K F B as M H) (hD : H D = none) : Ow K (upd F D o) B as M (upd H D o) := by
  obtain ⟨fD, bD, aD⟩ := h.fresh hD
  refine ⟨fun a u e => ?_, fun a u e => ?_, h.len, h.nd, fun a ha => ?_, fun a ha => by rw [upd_ne (fun e : a = D => aD (e ▸ ha))]; exact h.fa a ha, fun k a m e1 e2 hm => ?_⟩
  · by_cases z : a = D
    · rw [z, upd_same] at e ⊢; exact e
    · rw [upd_ne z] at e ⊢; exact h.fb a u e
  · rw [upd_ne (ne_of_none e bD)]; exact h.bb a u e
  · rw [upd_ne (fun e : a = D => aD (e ▸ ha))]; exact h.al a ha
  · have ne : a ≠ D := fun e : a = D => aD (e ▸ List.mem_of_getElem? e1)
    obtain ⟨q1, q2, q3⟩ := h.own k a m e1 e2 hm
    exact ⟨by rw [upd_ne ne]; exact q1, q2, MoR.mono (Same.refl B) (upd_ne ne) q3⟩
/-- what stood at the side is data from here on -/
theorem Ow.side_data {D : Addr} {o : HO} (h : Ow K (upd F D o) B as M H) (hD : H D = some o) (fD : F D = none) (bD : B D = none) : Ow K F (upd B D o) as M H := by
  have sm : Same B (upd B D o) := fun c u e => by rw [upd_ne (ne_of_none e bD)]; exact e
  refine ⟨?_, ?_, h.len, h.nd, h.al, ?_, ?_⟩
  · exact fun c u e => h.fb c u (by rw [upd_ne (ne_of_none e fD)]; exact e)
  · intro c u e
    by_cases z : c = D
    · rw [z, upd_same] at e; rw [z, ← e]; exact hD
    · rw [upd_ne z] at e; exact h.bb c u e
  · intro c hc
    have q1 := h.fa c hc
    rw [upd_ne (fun e : c = D => h.out (e ▸ hc))] at q1
    exact q1
  · intro k a m e1 e2 hm
    obtain ⟨q1, q2, q3⟩ := h.own k a m e1 e2 hm
    have ne : a ≠ D := fun e => by rw [e, upd_same] at q1; cases q1
    rw [upd_ne ne] at q1
    exact ⟨q1, by rw [upd_ne ne]; exact q2, MoR.mono sm rfl q3⟩
theorem asideK {D : Addr} {o o' : HO} (h : Ow K (upd F D o) B as M H) (fD : F D = none) (bD : B D = none) : Ow K (upd F D o') B as M (upd H D o') := by
  have nd : D ∉ as := h.out
  refine ⟨fun a u e => ?_, fun a u e => ?_, h.len, h.nd, fun a ha => ?_, fun a ha => ?_, fun k a m e1 e2 hm => ?_⟩
  · by_cases z : a = D
    · rw [z, upd_same] at e ⊢; exact e
    · rw [upd_ne z] at e ⊢; exact h.fb a u (by rw [upd_ne z]; exact e)
  · rw [upd_ne (ne_of_none e bD)]; exact h.bb a u e
  · rw [upd_ne (fun e : a = D => nd (e ▸ ha))]; exact h.al a ha
  · have ne : a ≠ D := fun e => nd (e ▸ ha)
    have q := h.fa a ha
    rw [upd_ne ne] at q ⊢; exact q
  · have ne : a ≠ D := fun e : a = D => nd (e ▸ List.mem_of_getElem? e1)
    obtain ⟨q1, q2, q3⟩ := h.own k a m e1 e2 hm
    rw [upd_ne ne] at q1
    exact ⟨by rw [upd_ne ne]; exact q1, q2, MoR.mono (Same.refl B) (upd_ne ne) q3⟩
def mkDi {β : Type} (kf : β → Int) (vf : β → V) (xs : List β) : Di := xs.foldl (fun d x => putI d (kf x) (vf x)) []
theorem mkDi_len {β : Type} (kf : β → Int) (vf : β → V) (xs : List β) : (mkDi kf vf xs).length ≤ xs.length := by
  have : ∀ (xs : List β) (d : Di), (xs.foldl (fun d x => putI d (kf x) (vf x)) d).length ≤ d.length + xs.length := by
    intro xs
    induction xs with
    | nil => exact fun d => Nat.le_refl _
    | cons x xs ih =>
      intro d
      have h1 := ih (putI d (kf x) (vf x))
      have h2 := putI_len d (kf x) (vf x)
      rw [List.foldl_cons, List.length_cons]
      omega
  have h := this xs []
  unfold mkDi
  simpa using h
theorem ev_dcI {β : Type} {wi : TI} {g : TG} {vs : List Nat} (xs : List β) (en : β → Dt) (kf : β → Int) (vf : β → V) (yf : β → Dt) (hy : ∀ x B w, Rp K B (yf x) w → w = vf x) (hI : EvI K wi G M (xs.map en) M) (hx : xs.length ≤ 100000)
    (hw : ∀ v σ H Q, g v (wipe σ vs) H (fun σ2 H2 => wipe σ2 vs = wipe σ vs → Q σ2 H2) → g v (wipe σ vs) H Q)
    (turn : ∀ x, x ∈ xs → ∃ G1, EvG K g (wipeG G vs) (.d (en x)) G1 ∧ EvE K tk G1 M (.d (.int (kf x))) M ∧ EvE K tv G1 M (.d (yf x)) M) :
    EvE K (tDc wi g tYes tk tv vs) G M (.d (diD (mkDi kf vf xs))) M := fun F B as σ H ow sl Q k => by
  have nt : ∀ ds : Di, ∀ vs, (HO.dK (enI ds)) ≠ .tup vs := fun _ _ z => nomatch z
  refine hI F B as σ H ow sl _ fun J B1 as1 H1 g1 p1 o1 yl => fun D hD => ?_
  obtain ⟨fD, bD, aD⟩ := o1.fresh hD
  refine ⟨fun i n H' => ∃ B' as', n = xs.length - i ∧ i ≤ xs.length ∧ Gr F B1 B' ∧ B' D = none ∧ Px as1 as' ∧ Ow K (upd F D (.dK (enI (mkDi kf vf (xs.take i))))) B' as' M H' ∧ H' D = some (.dK (enI (mkDi kf vf (xs.take i)))),
    ⟨xs.length, B1, as1, by simp, Nat.zero_le _, Gr.refl F B1, bD, Px.refl as1, o1.new_side hD, upd_same⟩, fun i n H' w => ?_⟩
  obtain ⟨B', as', rfl, hi, g', bD', p', o', hD'⟩ := w
  obtain ⟨y1, y2⟩ := yl _ B' as' _ H' i g'.1 o'
  by_cases hlt : i < xs.length
  · have hxi : xs[i]? = some xs[i] := List.getElem?_eq_getElem hlt
    obtain ⟨go, yld⟩ := y1 (en xs[i]) (by rw [List.getElem?_map, hxi] <;> rfl)
    have mt : mkDi kf vf (xs.take (i + 1)) = putI (mkDi kf vf (xs.take i)) (kf xs[i]) (vf xs[i]) := by
      unfold mkDi
      rw [List.take_add_one, hxi, List.foldl_append] <;> rfl
    refine .inr ⟨go, fun H2 => ∃ B' as', i + 1 ≤ xs.length ∧ Gr F B1 B' ∧ B' D = none ∧ Px as1 as' ∧ Ow K (upd F D (.dK (enI (mkDi kf vf (xs.take (i + 1)))))) B' as' M H2 ∧ H2 D = some (.dK (enI (mkDi kf vf (xs.take (i + 1))))), fun H2 n2 => ?_, fun v H2 yv => ?_⟩
    · obtain ⟨B2, as2, q1, q2, q3, q4, q5, q6⟩ := n2
      exact ⟨xs.length - (i + 1), by omega, B2, as2, rfl, q1, q2, q3, q4, q5, q6⟩
    · obtain ⟨B2, g2, o2, r2⟩ := yld v H2 yv
      obtain ⟨G1, hg, h1, h2⟩ := turn xs[i] (List.getElem_mem hlt)
      have keep : ∀ {C C' : Hp}, Gr (upd F D (.dK (enI (mkDi kf vf (xs.take i))))) C C' → C D = none → C' D = none := fun gg z => gg.2 D (by rw [upd_same]; exact kp_any (nt _)) z
      have bD2 := keep g2 bD'
      refine hw v σ H2 _ ?_
      refine hg _ B2 as' M (wipe σ vs) H2 v o2 ((slt_wipe (sl.mono ((g1.1.trans g'.1).trans g2.1) (p1.trans p')) vs)) r2 _ fun B3 as3 σ3 H3 g3 p3 o3 s3 => fun hwp => ⟨hwp, ?_⟩
      have bD3 := keep g3 bD2
      refine et_yes _ B3 as3 σ3 H3 o3 s3 _ fun B4 as4 H4 g4 p4 o4 => ?_
      rw [if_pos rfl]
      have bD4 := keep g4 bD3
      refine h1 _ B4 as4 σ3 H4 o4 (s3.mono g4.1 p4) _ fun u B5 as5 H5 g5 p5 o5 r5 => ?_
      have bD5 := keep g5 bD4
      refine h2 _ B5 as5 σ3 H5 o5 ((s3.mono g4.1 p4).mono g5.1 p5) _ fun w B6 as6 H6 g6 p6 o6 r6 => ?_
      have bD6 := keep g6 bD5
      obtain rfl : u = .int (kf xs[i]) := r5
      obtain rfl := hy _ _ _ r6
      have hl := mkDi_len kf vf (xs.take i)
      rw [List.length_take] at hl
      refine ⟨enI (mkDi kf vf (xs.take i)), Sum.inl (kf xs[i]), rfl, o6.fb D _ upd_same, by unfold enI; rw [List.length_map, sizeLine_eq]; omega, B6, as6, hlt, g'.trans ((g2.trans (g3.trans (g4.trans (g5.trans g6)))).of_sideK (nt _)), bD6, p'.trans (p3.trans (p4.trans (p5.trans p6))), ?_, ?_⟩
      · rw [mt, put_enI]
        exact asideK o6 fD bD6
      · rw [mt, put_enI]
        exact upd_same
  · have e : i = xs.length := by omega
    subst e
    rw [List.take_length] at o' hD'
    refine .inl ⟨y2 (by rw [List.length_map]; exact Nat.le_refl _), ?_⟩
    have sm : Same B' (upd B' D (.dK (enI (mkDi kf vf xs)))) := fun c u e => by rw [upd_ne (ne_of_none e bD')]; exact e
    have gg := g1.trans g'
    exact k _ (upd B' D (.dK (enI (mkDi kf vf xs)))) as' H' ⟨gg.1.trans sm, fun c z n => by rw [upd_ne (fun e : c = D => z.1 (by rw [e]; exact fD))]; exact gg.2 c z n⟩ (p1.trans p') (o'.side_data hD' fD bD') fun H' s => ⟨D, rfl, s _ _ upd_same⟩
/-- [x for x in d if p x], d owned, read within -/
theorem ev_lcL {g : TG} {tt : TT} {td : TE} {vs : List Nat} {k : Nat} {ds : Di} (p : Int → Bool) (hm : M[k]? = some (diO ds)) (hx : ds.length ≤ 100000) (hd : ∀ M, EvE K td G M (.o k) M)
    (hw : ∀ v σ H Q, g v (wipe σ vs) H (fun σ2 H2 => wipe σ2 vs = wipe σ vs → Q σ2 H2) → g v (wipe σ vs) H Q)
    (turn : ∀ od x, x ∈ ds.map (·.1) → ∃ G1, EvG K g (wipeG G vs) (.d (.int x)) G1 ∧ EvT K tt G1 (M.set k (.hob (.frz od (.dK (enI ds))))) (p x) (M.set k (.hob (.frz od (.dK (enI ds))))) ∧ (p x = true → EvE K te G1 (M.set k (.hob (.frz od (.dK (enI ds))))) (.d (.int x)) (M.set k (.hob (.frz od (.dK (enI ds))))))) :
    EvE K (tLockE (tLc (iKeys td) g tt te vs)) G M (.d (.lst (((ds.map (·.1)).filter p).map Dt.int))) M := fun F B as σ H ow sl Q kq => by
  have hk : k < as.length := by rw [ow.len]; exact (List.getElem?_eq_some_iff.mp hm).1
  have ha : as[k]? = some as[k] := List.getElem?_eq_getElem hk
  generalize as[k] = a at ha
  obtain ⟨fa, ba, ea, _⟩ := ow.own k a _ ha hm (fun z => nomatch z)
  refine ⟨a, _, ea, trivial, fun od => ?_⟩
  have hml : k < M.length := (List.getElem?_eq_some_iff.mp hm).1
  generalize hM' : M.set k (.hob (.frz od (.dK (enI ds)))) = M' at turn
  have hm' : M'[k]? = some (.hob (.frz od (.dK (enI ds)))) := by rw [← hM', List.getElem?_set_self hml]
  have back : M'.set k (diO ds) = M := by
    rw [← hM', List.set_set]
    obtain ⟨_, e⟩ := List.getElem?_eq_some_iff.mp hm
    rw [← e]
    exact List.set_getElem_self hml
  have ow1 : Ow K F B as M' (upd H a (.frz od (.dK (enI ds)))) := by
    rw [← hM']
    exact ow.put ha hm (fun z => nomatch z) (show MoR K B _ a (.hob _) from ⟨upd_same, fun _ z => nomatch z⟩)
  generalize upd H a (.frz od (.dK (enI ds))) = H0 at *
  refine hd M' F B as σ H0 ow1 sl _ fun v B1 as1 H1 g1 p1 o1 r1 => ?_
  obtain ⟨a', ha', rfl⟩ := r1
  have ha1 := p1.get ha
  rw [ha1] at ha'
  cases ha'
  obtain ⟨_, _, e1, _⟩ := o1.own k a _ ha1 hm' (fun z => nomatch z)
  refine ⟨a, od, rfl, .inl ⟨enI ds, e1, fun D hD => ?_⟩⟩
  obtain ⟨fD, bD, aD⟩ := o1.fresh hD
  refine ⟨fun i n H' => ∃ B' as', n = ds.length - i ∧ i ≤ ds.length ∧ Gr F B1 B' ∧ B' D = none ∧ Px as1 as' ∧ Ow K (upd F D (.lst (((((ds.map (·.1)).take i).filter p)).map V.int))) B' as' M' H' ∧ H' D = some (.lst (((((ds.map (·.1)).take i).filter p)).map V.int)),
    ⟨ds.length, B1, as1, by simp, Nat.zero_le _, Gr.refl F B1, bD, Px.refl as1, o1.new_side hD, upd_same⟩, fun i n H' w => ?_⟩
  obtain ⟨B', as', rfl, hi, g', bD', p', o', hD'⟩ := w
  have ha' := (p1.trans p').get ha
  obtain ⟨_, _, eH, _⟩ := o'.own k a _ ha' hm' (fun z => nomatch z)
  have hlen : (enI ds).length = ds.length := by unfold enI; rw [List.length_map]
  by_cases hlt : i < ds.length
  · have hxi : (ds.map (·.1))[i]? = some ds[i].1 := by rw [List.getElem?_map, List.getElem?_eq_getElem hlt] <;> rfl
    have tk : (ds.map (·.1)).take (i + 1) = (ds.map (·.1)).take i ++ [ds[i].1] := by rw [List.take_add_one, hxi] <;> rfl
    refine .inr ⟨⟨eH, by rw [hlen]; exact hlt⟩, fun H2 => ∃ B' as', i + 1 ≤ ds.length ∧ Gr F B1 B' ∧ B' D = none ∧ Px as1 as' ∧ Ow K (upd F D (.lst (((((ds.map (·.1)).take (i + 1)).filter p)).map V.int))) B' as' M' H2 ∧ H2 D = some (.lst (((((ds.map (·.1)).take (i + 1)).filter p)).map V.int)), fun H2 n2 => ?_, fun v H2 yv => ?_⟩
    · obtain ⟨B2, as2, q1, q2, q3, q4, q5, q6⟩ := n2
      exact ⟨ds.length - (i + 1), by omega, B2, as2, rfl, q1, q2, q3, q4, q5, q6⟩
    · obtain ⟨rfl, kk, vv, ek, rfl⟩ := yv
      have ek2 : kk = Sum.inl ds[i].1 := by
        unfold enI at ek
        rw [List.getElem?_map, List.getElem?_eq_getElem hlt] at ek
        cases ek
        rfl
      subst ek2
      generalize hus : ((((ds.map (·.1)).take i).filter p)).map V.int = us at *
      obtain ⟨G1, hg, ht, he⟩ := turn od ds[i].1 (List.mem_of_getElem? hxi)
      rw [hM'] at ht he
      have nt : ∀ vs, HO.lst us ≠ .tup vs := fun _ z => nomatch z
      have keep : ∀ {C C' : Hp}, Gr (upd F D (.lst us)) C C' → C D = none → C' D = none := fun gg z => gg.2 D (by rw [upd_same]; exact kp_any nt) z
      refine hw _ σ H2 _ ?_
      refine hg _ B' as' M' (wipe σ vs) H2 _ o' (slt_wipe (sl.mono (g1.1.trans g'.1) (p1.trans p')) vs) (show Rp K B' (.int ds[i].1) _ from rfl) _ fun B3 as3 σ3 H3 g3 p3 o3 s3 => fun hwp => ⟨hwp, ?_⟩
      have bD3 := keep g3 bD'
      refine ht _ B3 as3 σ3 H3 o3 s3 _ fun B4 as4 H4 g4 p4 o4 => ?_
      have bD4 := keep g4 bD3
      cases e : p ds[i].1 with
      | false =>
        rw [if_neg Bool.false_ne_true]
        have et : (((ds.map (·.1)).take (i + 1)).filter p).map V.int = us := by rw [tk, List.filter_append, List.filter_cons_of_neg (by rw [e]; exact Bool.false_ne_true), List.filter_nil, List.append_nil, hus]
        rw [et]
        exact ⟨B4, as4, hlt, g'.trans ((g3.trans g4).of_sideK nt), bD4, p'.trans (p3.trans p4), o4, o4.fb D _ upd_same⟩
      | true =>
        rw [if_pos rfl]
        refine he e _ B4 as4 σ3 H4 o4 (s3.mono g4.1 p4) _ fun w B5 as5 H5 g5 p5 o5 r5 => ?_
        have bD5 := keep g5 bD4
        obtain rfl : w = .int ds[i].1 := r5
        have et : (((ds.map (·.1)).take (i + 1)).filter p).map V.int = us ++ [.int ds[i].1] := by rw [tk, List.filter_append, List.filter_cons_of_pos e, List.filter_nil, List.map_append, hus] <;> rfl
        have hl : us.length < sizeLine := by
          rw [← hus, List.length_map, sizeLine_eq]
          have h1 := List.length_filter_le p ((ds.map (·.1)).take i)
          rw [List.length_take] at h1
          omega
        rw [et]
        exact ⟨us, o5.fb D _ upd_same, hl, B5, as5, hlt, g'.trans ((g3.trans (g4.trans g5)).of_sideK nt), bD5, p'.trans (p3.trans (p4.trans p5)), asideK o5 fD bD5, upd_same⟩
  · have e : i = ds.length := by omega
    subst e
    have ft : (ds.map (·.1)).take ds.length = ds.map (·.1) := List.take_of_length_le (by rw [List.length_map]; exact Nat.le_refl _)
    rw [ft] at o' hD'
    refine .inl ⟨⟨eH, by rw [hlen]; exact Nat.le_refl _⟩, eH, ?_⟩
    have o2 := o'.side_data hD' fD bD'
    have gg := g1.trans g'
    generalize hus : ((ds.map (·.1)).filter p).map V.int = us at *
    have sm : Same B' (upd B' D (.lst us)) := fun c u e => by rw [upd_ne (ne_of_none e bD')]; exact e
    have o3 := o2.put ha' hm' (fun z => nomatch z) (mor_di (K := K) (ds := ds) upd_same)
    rw [back] at o3
    refine kq _ _ as' _ ⟨gg.1.trans sm, fun c z n => by rw [upd_ne (fun e : c = D => z.1 (by rw [e]; exact fD))]; exact gg.2 c z n⟩ (p1.trans p') o3 ⟨D, us, rfl, .inl (.inl upd_same), ?_⟩
    rw [← hus]
    exact RpL.nums_of _
/-- d[n] of a dict that is locked -/
theorem ev_atF {td ty : TE} {M1 M2 : List MO} {k : Nat} {n : Int} {v : V} {y : Dt} {od : Obj} {ds : Di} (hd : EvE K td G M (.o k) M1) (hk : EvE K ty G M1 (.d (.int n)) M2) (hm : M2[k]? = some (.hob (.frz od (.dK (enI ds))))) (hz : getI ds n = some v) (hy : ∀ B, Rp K B y v) : EvE K (tDGet td ty) G M (.d y) M2 := fun F B as σ H ow sl Q q =>
  hd F B as σ H ow sl _ fun u B1 as1 H1 g1 p1 o1 r1 => hk F B1 as1 σ H1 o1 (sl.mono g1.1 p1) _ fun z B2 as2 H2 g2 p2 o2 r2 => by
    obtain ⟨a, ha, rfl⟩ := r1
    obtain rfl : z = .int n := r2
    obtain ⟨f0, b0, hH, _⟩ := o2.own k a _ (p2.get ha) hm (fun z => nomatch z)
    exact ⟨a, v, rfl, .inl ⟨enI ds, Sum.inl n, .inr ⟨od, hH⟩, rfl, by rw [get_enI, hz]⟩, q v B2 as2 H2 (g1.trans g2) (p1.trans p2) o2 (hy B2)⟩
end
end DJ
/-! ### sets of whole numbers -/
namespace DJ
open PySem PySem.Spec PyProof.Rows L2
theorem nodup_ed : ∀ (n : Nat) (l : List Int), l.length ≤ n → l.eraseDups.Nodup
  | _, [], _ => by simp [List.eraseDups]
  | 0, a :: l, h => by cases h
  | n + 1, a :: l, h => by
    rw [List.eraseDups_cons]
    refine List.nodup_cons.mpr ⟨fun z => ?_, nodup_ed n _ (Nat.le_trans (List.length_filter_le _ _) (Nat.le_of_succ_le_succ h))⟩
    have := (List.mem_filter.mp (List.mem_eraseDups.mp z)).2
    simp at this
theorem nodup_eraseDups (l : List Int) : l.eraseDups.Nodup := nodup_ed _ l (Nat.le_refl _)
theorem nodup_len {l m : List Int} (hl : l.Nodup) (hm : m.Nodup) (h : ∀ k, k ∈ l ↔ k ∈ m) : l.length = m.length := ((List.perm_ext_iff_of_nodup hl hm).mpr h).length_eq
theorem setR_num {w : World} {h : Heap} {a : Addr} {ns : List Int} {c : Nat} (R : SetR w h a (fun j => decide (j ∈ ns)) c) : c = ns.eraseDups.length := by
  obtain ⟨o, es, ep, t, _, _, _, _, nd, hm, _, _, hn, _⟩ := R
  have e := nodup_len nd (nodup_eraseDups ns) fun k => by
    rw [List.mem_eraseDups, ← hm k]
    exact decide_eq_true_iff
  rw [List.length_map, Array.length_toList, hn] at e
  exact e
def rSetL (K : PySem.W.Frag) (w : World) : List V → Hp → VK → Prop := fun vs H Q => ∃ (a : Addr) (ns : List Int), vs = [V.ref a] ∧ SqL K H a (ns.map V.int) ∧ ns.length + 1 < scanBound ∧
  ∀ (p : Addr), H p = none → Q (.ref p) (upd H p (SetO w p (fun j => decide (j ∈ ns)) ns.eraseDups.length))
theorem cr_setL {X : Cx} (hc : X.calm = true) : CallR X (.type "set") (rSetL X.K X.w) := by
  intro pins s σ H vs us Q I r h
  obtain ⟨a, ns, rfl, hq, hb, q⟩ := h
  obtain ⟨u, rfl, ru⟩ := vals1 r
  obtain rfl : u = Value.ref a := ru
  obtain ⟨its, rv, hl, hz⟩ := I.list hq
  refine set_ofL ns (I.ok.hd hc) hl.isList (by simpa using ints_of_vals rv) hb fun g tk c R hcl keep => ?_
  have hn : H s.heap.objs.size = none := I.hok.fresh (Nat.le_refl _)
  obtain rfl := setR_num R
  exact ⟨.ref _, _, I.laid (t' := tk) keep (Nat.le_refl _) (setO_new R), rfl, q _ hn⟩
/-- the numbers of a list, each once, in their order -/
def sortU (ns : List Int) : List Int := sortI ns.eraseDups
theorem sortU_mem (ns : List Int) (k : Int) : k ∈ sortU ns ↔ k ∈ ns := (sortI_perm _).mem_iff.trans List.mem_eraseDups
theorem sortU_uniq {ns ms : List Int} (hs : ms.Pairwise (· < ·)) (hm : ∀ k, k ∈ ms ↔ k ∈ ns) : ms = sortU ns := by
  refine sortI_uniq ?_ (hs.imp fun z => by omega)
  exact (List.perm_ext_iff_of_nodup (hs.imp fun z e => by omega) (nodup_eraseDups ns)).mpr fun k => (hm k).trans List.mem_eraseDups.symm
def setD (w : World) (ns : List Int) : Dt := .ext fun H v => ∃ a, v = .ref a ∧ H a = some (SetO w a (fun j => decide (j ∈ ns)) ns.eraseDups.length)
def stM (w : World) (ns : List Int) : MO := .abx fun _ a o => o = SetO w a (fun j => decide (j ∈ ns)) ns.length
section
variable {K : PySem.W.Frag} {w : World} {F B H : Hp} {as : List Addr} {G G1 : List (Option Sl)} {M M1 M2 M3 : List MO} {te td ty to : TE} {tr : TA} {x y : Dt} {k : Nat} {n : Int} {ns : List Int}
theorem ev_setL (h : EvA K tr G M [.d (.lst (ns.map Dt.int))] M1) (hb : ns.length < 4000) : EvE K (tCB (rSetL K w) tr) G M (.d (setD w ns)) M1 := fun F B as σ H ow sl Q q =>
  h F B as σ H ow sl _ fun vs B1 as1 H1 g1 p1 o1 r1 => by
    obtain ⟨u, r, e, ⟨a, us, eu, hq, hr⟩, e2⟩ := r1
    have e2 : r = [] := e2
    subst e2; subst eu; subst e
    obtain rfl := RpL.nums hr
    refine ⟨a, ns, rfl, o1.bb.seq hq, by show _ < 4096; omega, fun p hn => ?_⟩
    exact q _ _ as1 _ (g1.trans (o1.gr hn _)) p1 (o1.new hn _) fun H' s => ⟨p, rfl, s _ _ upd_same⟩
theorem ev_sortU (h : EvA K tr G M [.d (setD w ns)] M1) (hb : ns.eraseDups.length < 64) : EvE K (tCB (rSortedSet w) tr) G M (.d (lstX K ((sortU ns).map Dt.int))) M1 := fun F B as σ H ow sl Q q =>
  h F B as σ H ow sl _ fun vs B1 as1 H1 g1 p1 o1 r1 => by
    obtain ⟨u, r, e, ru, e2⟩ := r1
    obtain ⟨a, eu, ha⟩ := ru B1 (Same.refl B1)
    have e2 : r = [] := e2
    subst e2; subst eu; subst e
    refine ⟨a, _, _, rfl, o1.bb _ _ ha, hb, fun ms p hs hm _ hn => ?_⟩
    obtain rfl := sortU_uniq hs fun k => (hm k).trans decide_eq_true_iff
    exact q _ _ as1 _ (g1.trans (o1.gr hn _)) p1 (o1.new hn _) fun H' s => ⟨p, _, rfl, s _ _ upd_same, RpL.nums_of _⟩
theorem mor_st {a : Addr} (e : H a = some (SetO w a (fun j => decide (j ∈ ns)) ns.length)) : MoR K B H a (stM w ns) := ⟨_, e, fun _ z => (nomatch z), fun _ _ => rfl⟩
theorem ev_set0 : EvE K (tCB (rSet0 w) tNil) G M (.o M.length) (M ++ [stM w []]) := fun F B as σ H ow sl Q q => by
  refine ⟨rfl, fun p hp => ?_⟩
  have e : (fun j : Int => decide (j ∈ ([] : List Int))) = fun _ => false := funext fun j => decide_eq_false (fun z => nomatch z)
  refine q _ B (as ++ [p]) _ (Gr.refl F B) ⟨[p], rfl⟩ (ow.newO hp (mor_st (ns := []) (by rw [e]; exact upd_same))) ⟨p, ?_, rfl⟩
  rw [← ow.len, List.getElem?_append_right (Nat.le_refl _), Nat.sub_self] <;> rfl
/-- found.add(n), n new -/
theorem es_sadd {ms : List Int} (ho : EvE K to G M (.o k) M1) (h : EvE K te G M1 (.d (.int n)) M2) (h1 : M1[k]? = some (stM w ms)) (hm : M2[k]? = some (stM w ns)) (hn : n ∉ ns) (hb : ns.length < 4000) :
    EvS K (tDrop (tSAdd w to (tCons te tNil))) G M (.nx G (M2.set k (stM w (ns ++ [n])))) := fun F B as σ H ow sl D gd =>
  ho F B as σ H ow sl _ fun v B1 as1 H1 g1 p1 o1 r1 => by
    obtain ⟨a, ha, rfl⟩ := r1
    obtain ⟨_, _, o, e1, _, f1⟩ := o1.own k a _ ha h1 (fun z => nomatch z)
    have f1 := f1 B1 (Same.refl _)
    subst f1
    refine ⟨⟨a, _, _, rfl, e1⟩, h F B1 as1 σ H1 o1 (sl.mono g1.1 p1) _ fun u B2 as2 H2 g2 p2 o2 r2 => ?_⟩
    obtain rfl : u = .int n := r2
    have ha2 := p2.get ha
    obtain ⟨_, _, o, e2, _, f2⟩ := o2.own k a _ ha2 hm (fun z => nomatch z)
    have f2 := f2 B2 (Same.refl _)
    subst f2
    refine ⟨a, n, _, _, rfl, rfl, e2, by show _ < 4096; omega, ?_⟩
    have ef : (fun j : Int => decide (j ∈ ns) || decide (j = n)) = fun j => decide (j ∈ ns ++ [n]) := funext fun j => by
      rw [← Bool.decide_or]
      exact decide_eq_decide.mpr (by simp)
    rw [if_neg (by rw [decide_eq_true_eq]; exact hn), ef]
    refine gd B2 as2 σ _ (g1.trans g2) (p1.trans p2) (o2.put ha2 hm (fun z => nomatch z) (mor_st (ns := ns ++ [n]) ?_)) ((sl.mono g1.1 p1).mono g2.1 p2)
    rw [List.length_append]
    exact upd_same
/-- n in found, n not in found -/
theorem ev_sin (hk : EvE K ty G M (.d (.int n)) M1) (hd : EvE K td G M1 (.o k) M2) (hm : M2[k]? = some (stM w ns)) : EvE K (tOp (rSIn w) ty td) G M (.d (.bl (decide (n ∈ ns)))) M2 := fun F B as σ H ow sl Q q =>
  hk F B as σ H ow sl _ fun u B1 as1 H1 g1 p1 o1 r1 => hd F B1 as1 σ H1 o1 (sl.mono g1.1 p1) _ fun z B2 as2 H2 g2 p2 o2 r2 => by
    obtain ⟨a, ha, rfl⟩ := r2
    obtain rfl : u = .int n := r1
    obtain ⟨_, _, o, e2, _, f2⟩ := o2.own k a _ ha hm (fun z => nomatch z)
    have f2 := f2 B2 (Same.refl _)
    subst f2
    exact ⟨n, a, _, _, rfl, rfl, e2, q _ B2 as2 H2 (g1.trans g2) (p1.trans p2) o2 rfl⟩
theorem ev_snin (hk : EvE K ty G M (.d (.int n)) M1) (hd : EvE K td G M1 (.o k) M2) (hm : M2[k]? = some (stM w ns)) : EvE K (tOp (rSNotIn w) ty td) G M (.d (.bl (!decide (n ∈ ns)))) M2 := fun F B as σ H ow sl Q q =>
  hk F B as σ H ow sl _ fun u B1 as1 H1 g1 p1 o1 r1 => hd F B1 as1 σ H1 o1 (sl.mono g1.1 p1) _ fun z B2 as2 H2 g2 p2 o2 r2 => by
    obtain ⟨a, ha, rfl⟩ := r2
    obtain rfl : u = .int n := r1
    obtain ⟨_, _, o, e2, _, f2⟩ := o2.own k a _ ha hm (fun z => nomatch z)
    have f2 := f2 B2 (Same.refl _)
    subst f2
    exact ⟨n, a, _, _, rfl, rfl, e2, q _ B2 as2 H2 (g1.trans g2) (p1.trans p2) o2 rfl⟩
end
end DJ
namespace LJ
open PySem PySem.Spec PyProof.Rows L2 LamX DJ
/-! ### instances of own classes whose attributes are any data -/
abbrev Fd := List (Str × Dt)
def FsR (K : PySem.W.Frag) (H : Hp) : Fd → Fs → Prop
  | [], fs => fs = []
  | d :: ds, fs => ∃ v r, fs = (d.1, v) :: r ∧ Rp K H d.2 v ∧ FsR K H ds r
theorem FsR.mono {K : PySem.W.Frag} {H H' : Hp} (e : Same H H') : ∀ {ds : Fd} {fs : Fs}, FsR K H ds fs → FsR K H' ds fs
  | [], _, h => h
  | d :: ds, _, ⟨v, r, e1, h1, h2⟩ => ⟨v, r, e1, Rp.mono e _ _ h1, FsR.mono e h2⟩
theorem FsR.len {K : PySem.W.Frag} {H : Hp} : ∀ {ds : Fd} {fs : Fs}, FsR K H ds fs → fs.length = ds.length
  | [], _, h => by rw [show _ = [] from h]; rfl
  | d :: ds, _, ⟨v, r, e, _, h⟩ => by rw [e, List.length_cons, List.length_cons, FsR.len h]
theorem FsR.get {K : PySem.W.Frag} {H : Hp} {f : Str} {y : Dt} : ∀ {ds : Fd} {fs : Fs}, FsR K H ds fs → ds.lookup f = some y → ∃ v, fs.lookup f = some v ∧ Rp K H y v
  | [], _, _, e => by cases e
  | (g, d) :: ds, _, ⟨v, r, e, h1, h⟩, hl => by
    subst e
    rw [List.lookup_cons] at hl ⊢
    cases hg : (f == g) with
    | true =>
      rw [hg] at hl
      cases hl
      exact ⟨v, rfl, h1⟩
    | false =>
      rw [hg] at hl
      obtain ⟨u, h2, h3⟩ := FsR.get h hl
      exact ⟨u, h2, h3⟩
def putFd (f : Str) (y : Dt) : Fd → Fd
  | [] => [(f, y)]
  | (g, x) :: r => if g = f then (g, y) :: r else (g, x) :: putFd f y r
theorem FsR.put {K : PySem.W.Frag} {H : Hp} {f : Str} {y : Dt} {u : V} (hy : Rp K H y u) : ∀ {ds : Fd} {fs : Fs}, FsR K H ds fs → FsR K H (putFd f y ds) (putF f u fs)
  | [], _, h => by rw [show _ = [] from h]; exact ⟨u, [], rfl, hy, rfl⟩
  | (g, d) :: ds, _, ⟨v, r, e, h1, h⟩ => by
    subst e
    show FsR K H (if g = f then (g, y) :: ds else (g, d) :: putFd f y ds) (if g = f then (g, u) :: r else (g, v) :: putF f u r)
    by_cases z : g = f
    · rw [if_pos z, if_pos z]
      exact ⟨u, r, rfl, hy, h⟩
    · rw [if_neg z, if_neg z]
      exact ⟨v, _, rfl, h1, FsR.put hy h⟩
def insXM (K : PySem.W.Frag) (C : Addr) (fd : Fd) : MO := .abx fun B _ o => ∃ dx fs, o = .ins C dx fs ∧ FsR K B fd fs
def insX (K : PySem.W.Frag) (C : Addr) (fd : Fd) : Dt := .ext fun H v => ∃ a dx fs, v = .ref a ∧ H a = some (.ins C dx fs) ∧ FsR K H fd fs
theorem insX_at {K : PySem.W.Frag} {B : Hp} {C : Addr} {fd : Fd} {v : V} (h : Rp K B (insX K C fd) v) : ∃ a dx fs, v = .ref a ∧ B a = some (.ins C dx fs) ∧ FsR K B fd fs := h B (Same.refl B)
theorem insX_of {K : PySem.W.Frag} {B : Hp} {C a dx : Addr} {fd : Fd} {fs : Fs} (h : B a = some (.ins C dx fs)) (r : FsR K B fd fs) : Rp K B (insX K C fd) (.ref a) := fun H' e => ⟨a, dx, fs, rfl, e _ _ h, r.mono e⟩
section
variable {K : PySem.W.Frag} {F B H : Hp} {as : List Addr} {G : List (Option Sl)} {M M1 M2 : List MO} {ta tb tv : TE} {tr : TA} {C : Addr} {fd gd : Fd} {E : XK}
theorem mor_insX {a dx : Addr} {fs : Fs} (e : H a = some (.ins C dx fs)) (r : FsR K B fd fs) : MoR K B H a (insXM K C fd) := ⟨_, e, fun _ z => (nomatch z), fun B' s => ⟨dx, fs, rfl, r.mono s⟩⟩
/-- C(..), es what the defaults give -/
theorem ev_makeF {n : Nat} {R : List Sl → List MO → Sl → List MO → Prop} {ds es : List Dt} {dvs : List V} (h : EvA K tr G M (ds.map Sl.d) M1) (hd : ∀ B, RpL K B es dvs) (hR : R (.o 0 :: (ds ++ es).map Sl.d) [insXM K C []] (.d .non) [insXM K C fd]) (hn : (ds ++ es).length + 1 = n) :
    EvE K (tMake C (SpR K n R) dvs E tr) G M (.d (insX K C fd)) M1 := fun F B as σ H ow sl Q q =>
  h F B as σ H ow sl _ fun vs B1 as1 H1 g1 p1 o1 r1 => fun x dx hx hdx ne => by
    have od := o1.new hdx (.own x)
    have gd := o1.gr hdx (.own x)
    have hx1 : (upd H1 dx (.own x)) x = none := by rw [upd_ne (Ne.symm ne)]; exact hx
    have bx : (upd B1 dx (.own x)) x = none := od.bb.free hx1
    have fx : F x = none := od.fb.free hx1
    have oc : Ow K (upd H1 dx (.own x)) (upd B1 dx (.own x)) [x] [insXM K C []] (upd (upd H1 dx (.own x)) x (.ins C dx [])) := by
      refine ⟨fun b u e => ?_, fun b u e => ?_, rfl, by simp, fun b hb => ?_, fun b hb => ?_, fun j b m e1 e2 hm => ?_⟩
      · rw [upd_ne (ne_of_none e hx1)]; exact e
      · rw [upd_ne (ne_of_none e bx)]; exact od.bb b u e
      · obtain rfl : b = x := by simpa using hb
        rw [upd_same]; exact fun z => nomatch z
      · obtain rfl : b = x := by simpa using hb
        exact hx1
      · cases j with
        | zero =>
          obtain rfl : x = b := Option.some.inj e1
          obtain rfl : insXM K C [] = m := Option.some.inj e2
          exact ⟨hx1, bx, mor_insX upd_same rfl⟩
        | succ j => simp at e1
    have rl : RpL K (upd B1 dx (.own x)) (ds ++ es) (vs ++ dvs) := RpL.append (RpL.mono gd.1 _ _ (SlL.data r1)) (hd _)
    refine ⟨_, _, [x], .o 0 :: (ds ++ es).map Sl.d, [insXM K C []], .d .non, [insXM K C fd], hR, oc, ⟨.ref x, vs ++ dvs, rfl, ⟨x, rfl, rfl⟩, SlL.of_data rl⟩, ?_, fun v B' as' H' g p o' r' => ⟨r', ?_⟩⟩
    · rw [List.length_cons, rl.len]; exact hn
    · obtain ⟨tl, rfl⟩ := p
      obtain ⟨f0, b0, o, ho, nt, φ⟩ := o'.own 0 x _ rfl rfl (fun z => nomatch z)
      obtain ⟨dx', fs, rfl, hfs⟩ := φ B' (Same.refl B')
      obtain ⟨g2, o2⟩ := back0 od g o'
      obtain ⟨g3, o3⟩ := Ow_know o2 ho b0 fx (fun hm => od.al x hm hx1)
      exact q _ _ as1 H' (g1.trans (gd.trans (g2.trans g3))) p1 o3 (insX_of upd_same (hfs.mono g3.1))
/-- self.f = value, self made anew -/
theorem es_fldX {k : Nat} {f : Str} {y : Dt} (hv : EvE K tv G M (.d y) M1) (hs : EvE K ta G M1 (.o k) M2) (hm : M2[k]? = some (insXM K C fd)) (c : Cls K C) (n : NoAttr K C f) (hl : fd.length < 1000) :
    EvS K (sFld K ta tv f) G M (.nx G (M2.set k (insXM K C (putFd f y fd)))) := fun F B as σ H ow sl D gd =>
  hv F B as σ H ow sl _ fun w B1 as1 H1 g1 p1 o1 r1 => hs F B1 as1 σ H1 o1 (sl.mono g1.1 p1) _ fun x B2 as2 H2 g2 p2 o2 r2 => by
    obtain ⟨a, ha, rfl⟩ := r2
    obtain ⟨f0, b0, o, ho, nt, φ⟩ := o2.own k a _ ha hm (fun z => nomatch z)
    obtain ⟨dx, fs, rfl, hfs⟩ := φ B2 (Same.refl B2)
    refine ⟨a, C, dx, fs, rfl, ho, c, n, by rw [hfs.len]; exact hl, ?_⟩
    exact gd B2 as2 σ _ (g1.trans g2) (p1.trans p2) (o2.put ha hm (fun z => nomatch z) (mor_insX upd_same (hfs.put (Rp.mono g2.1 _ _ r1)))) (sl.mono (g1.trans g2).1 (p1.trans p2))
/-- e.f -/
theorem ev_fldX {f : Str} {y : Dt} (h : EvE K ta G M (.d (insX K C fd)) M1) (c : Cls K C) (n : NoAttr K C f) (l : fd.lookup f = some y) : EvE K (tFld K ta f) G M (.d y) M1 := fun F B as σ H ow sl Q q =>
  h F B as σ H ow sl _ fun x B1 as1 H1 g1 p1 o1 r1 => by
    obtain ⟨a, dx, fs, rfl, e, hfs⟩ := insX_at r1
    obtain ⟨v, h1, h2⟩ := hfs.get l
    exact ⟨a, C, dx, fs, v, rfl, o1.bb _ _ e, c, n, h1, q v B1 as1 H1 g1 p1 o1 h2⟩
theorem rc_isF (c : C8.InsC K C) : RC K (rIsi K) [insX K C fd, .raw (.ref C)] (.bl true) := fun F B as M H vs Q ow r q => by
  obtain ⟨v1, rr, e, h1, v2, rr2, e2, h2, h3⟩ := r
  obtain ⟨a, dx, fs, rfl, ea, _⟩ := insX_at h1
  obtain rfl : v2 = V.ref C := h2
  obtain rfl : rr2 = [] := h3
  subst e2; subst e
  exact ⟨.ref a, .ref C, .ref C, .ref C, true, rfl, .own C, .base (TyOf.ins (ow.bb _ _ ea) c.cl c.ha c.hn c.htk c.hm), c.me, q _ B H (Gr.refl F B) ow rfl⟩
theorem ro_ownX {R : List Sl → List MO → Sl → List MO → Prop} {z : Dt} (hR : R [.d (insX K C fd), .d (insX K C gd)] [] (.d z) []) : RO K (rOwnI C (SpR K 2 R) E) (insX K C fd) (insX K C gd) z := fun F B as M H v u Q ow rv ru q => by
  obtain ⟨a, dx, fs, rfl, ea, _⟩ := insX_at rv
  obtain ⟨b, dy, gs, rfl, eb, _⟩ := insX_at ru
  refine ⟨a, b, dx, dy, fs, gs, rfl, rfl, ow.bb _ _ ea, ow.bb _ _ eb, ?_⟩
  exact call_core (ds := [insX K C fd, insX K C gd]) hR rfl ow ⟨_, _, rfl, rv, _, _, rfl, ru, rfl⟩ fun w B' as' H' g o' r' => by
    obtain ⟨g2, o2⟩ := back0 ow g o'
    exact q w B' H' g2 o2 r'
end
section
variable {P : Program} {w : World} {K : PySem.W.Frag} {mg : Str → Option Value} {base : Heap}
/-- __init__, one of whose parameters has a default -/
structure MtdD (P : Program) (w : World) (K : PySem.W.Frag) (mg : Str → Option Value) (base : Heap) (k : Nat) (f : Addr) (sp : Sp) (dvs : List V) : Prop where
  ex : ∃ (fd : FuncData) (ps : List Str) (ds : List Value), FnOk P w K mg base CX0 k f fd ps sp ∧ Binds K fd ps ds ∧ Vals dvs ds
structure MkrD (P : Program) (w : World) (K : PySem.W.Frag) (mg : Str → Option Value) (base : Heap) (k : Nat) (x : Str) (C : Addr) (sp : Sp) (dvs : List V) : Prop where
  ex : ∃ (f : Addr), Mk K C f ∧ mg x = some (.ref C) ∧ MtdD P w K mg base k f sp dvs
end
section
variable {X : Cx} {k j : Nat} {C : Addr} {x f g : Str} {sp : Sp} {dvs : List V} {p pos : Pos} {e : Expr} {es : List Expr} {ta : TE} {t : TA}
theorem pe_mkrD (c : MkrD X.prog X.w X.K X.mg X.base k x C sp dvs) (hr : Room j X.A) (hk : k + 1 ≤ j) (hg : Gl X x) (ha : PA X (e :: es) t)
    (hdb : (x == ("__debug__" : Str)) = false := by decide) (he : starEach (e :: es) X.env = (false, eval e X.env) :: starEach es X.env := by rfl) (hpl : (backTo pos (starEach es X.env)).any (·.1) = false := by rfl) :
    PE X (.Call (.Name x p) (e :: es) [] pos) (tMake C sp dvs L2.E0 t) := by
  obtain ⟨f, M, hm, fd, ps, ds, F, b, v⟩ := c.ex
  exact pe_make M F (hr.mono hk) hg hm b v L2.pass0 ha hdb he hpl
end
end LJ
/-! ### a while told by its runs; walks over a graph, by worklists -/
namespace DJ
open PySem PySem.Spec PyProof.Rows L2
inductive Runs {α : Type} (c : α → Bool) (f : α → α) : α → α → Prop where
  | done {a : α} (h : c a = false) : Runs c f a a
  | step {a b : α} (h : c a = true) (r : Runs c f (f a) b) : Runs c f a b
theorem Runs.one {α : Type} {c : α → Bool} {f : α → α} {a b d : α} (h1 : Runs c f a b) (h2 : Runs c f a d) : b = d := by
  induction h1 with
  | done h =>
    cases h2 with
    | done _ => rfl
    | step h' _ => rw [h] at h'; cases h'
  | step h r ih =>
    cases h2 with
    | done h' => rw [h] at h'; cases h'
    | step _ r' => exact ih r'
open Classical in
noncomputable def runW {α : Type} (c : α → Bool) (f : α → α) (a : α) : α ⊕ Out := .inl (if h : ∃ b, Runs c f a b then Classical.choose h else a)
theorem runW_is {α : Type} {c : α → Bool} {f : α → α} {a b : α} (h : Runs c f a b) : runW c f a = .inl b := by
  unfold runW
  have e : ∃ b, Runs c f a b := ⟨b, h⟩
  rw [dif_pos e]
  exact congrArg _ ((Classical.choose_spec e).one h)
/-- a while that comes to its end in the state af -/
theorem es_whileR {K : PySem.W.Frag} {G : List (Option Sl)} {M : List MO} {tt : TT} {α : Type} {tb : TS} (enc : α → List (Option Sl)) (encM encT : α → List MO) (P : α → Prop) (c : α → Bool) (f : α → α) (μ : α → Nat) (a0 af : α) (run : Runs c f a0 af) (hp : P a0)
    (ex : ∀ a, P a → ∃ b, Runs c f a b) (h0 : Lg G (enc a0)) (hM : M = encM a0) (hT : ∀ a, P a → c a = false → encT a = encM a) (test : ∀ a, P a → EvT K tt (enc a) (encM a) (c a) (encT a))
    (turn : ∀ a, P a → c a = true → EvS K tb (enc a) (encT a) (.nx (enc (f a)) (encM (f a))) ∧ P (f a) ∧ μ (f a) < μ a) : EvS K (tWhile tt tb) G M (.nx (enc af) (encM af)) := by
  refine es_whileT enc encM encT P c (fun a => .inl (f a)) μ (runW c f) a0 (by rw [runW_is run] <;> rfl) hp (fun a pa => ?_) h0 hM hT test fun a pa hc => ?_
  · obtain ⟨b, r⟩ := ex a pa
    rw [runW_is r]
    cases r with
    | done h => rw [if_neg (by rw [h]; exact Bool.false_ne_true)]
    | step h r =>
      rw [if_pos h]
      show _ = runW c f (f a)
      rw [runW_is r]
  · obtain ⟨t1, t2, t3⟩ := turn a pa hc
    exact ⟨.inl t1, fun a' e => by cases e; exact ⟨t2, t3⟩⟩
/-! ### worklists -/
section
variable (kid : Nat → List Nat)
/-- what is met, in its order, behind what was met, by what is still to be met -/
inductive Wk : List Nat → List Nat → List Nat → Prop where
  | nil {s : List Nat} : Wk s [] s
  | old {s r t : List Nat} {n : Nat} (h : n ∈ s) (w : Wk s r t) : Wk s (n :: r) t
  | new {s r t : List Nat} {n : Nat} (h : n ∉ s) (w : Wk (s ++ [n]) (kid n ++ r) t) : Wk s (n :: r) t
end
section
variable {kid : Nat → List Nat} {s r t : List Nat} {n : Nat}
theorem Wk.one {u : List Nat} (h1 : Wk kid s r t) (h2 : Wk kid s r u) : t = u := by
  induction h1 with
  | nil => cases h2; rfl
  | old h w ih =>
    cases h2 with
    | old _ w' => exact ih w'
    | new h' _ => exact absurd h h'
  | new h w ih =>
    cases h2 with
    | old h' _ => exact absurd h' h
    | new _ w' => exact ih w'
theorem Wk.cat {xs ys u : List Nat} (h1 : Wk kid s xs t) (h2 : Wk kid t ys u) : Wk kid s (xs ++ ys) u := by
  induction h1 with
  | nil => exact h2
  | old h w ih => exact .old h (ih h2)
  | @new s r t n h w ih =>
    show Wk kid s (n :: (r ++ ys)) u
    exact .new h (by rw [← List.append_assoc]; exact ih h2)
theorem Wk.cut {zs u : List Nat} (h : Wk kid s zs u) : ∀ xs ys, zs = xs ++ ys → ∃ t, Wk kid s xs t ∧ Wk kid t ys u := by
  induction h with
  | nil =>
    intro xs ys e
    obtain ⟨rfl, rfl⟩ := List.append_eq_nil_iff.mp e.symm
    exact ⟨_, .nil, .nil⟩
  | @old s r t n h w ih =>
    intro xs ys e
    cases xs with
    | nil =>
      have e : n :: r = ys := e
      subst e
      exact ⟨_, .nil, .old h w⟩
    | cons x xs =>
      obtain ⟨rfl, rfl⟩ := List.cons.inj e
      obtain ⟨u, h1, h2⟩ := ih xs ys rfl
      exact ⟨u, .old h h1, h2⟩
  | @new s r t n h w ih =>
    intro xs ys e
    cases xs with
    | nil =>
      have e : n :: r = ys := e
      subst e
      exact ⟨_, .nil, .new h w⟩
    | cons x xs =>
      obtain ⟨rfl, rfl⟩ := List.cons.inj e
      obtain ⟨u, h1, h2⟩ := ih (kid n ++ xs) ys (List.append_assoc _ _ _).symm
      exact ⟨u, .new h h1, h2⟩
theorem Wk.pre (h : Wk kid s r t) : ∃ u, t = s ++ u := by
  induction h with
  | nil => exact ⟨[], (List.append_nil _).symm⟩
  | old _ _ ih => exact ih
  | @new s r t n _ _ ih =>
    obtain ⟨u, e⟩ := ih
    exact ⟨n :: u, by rw [e, List.append_assoc] <;> rfl⟩
theorem Wk.sub (h : Wk kid s r t) : ∀ x ∈ s, x ∈ t := fun x hx => by
  obtain ⟨u, e⟩ := h.pre
  rw [e]
  exact List.mem_append_left _ hx
theorem Wk.nodup (h : Wk kid s r t) (hs : s.Nodup) : t.Nodup := by
  induction h with
  | nil => exact hs
  | old _ _ ih => exact ih hs
  | new h _ ih => exact ih (List.nodup_append.mpr ⟨hs, List.nodup_cons.mpr ⟨(fun z => nomatch z), List.nodup_nil⟩, fun a ha b hb => by rw [List.mem_singleton.mp hb]; exact fun e => h (e ▸ ha)⟩)
theorem Wk.work (h : Wk kid s r t) : ∀ x ∈ r, x ∈ t := by
  induction h with
  | nil => exact fun _ z => nomatch z
  | old h w ih =>
    intro x hx
    rcases List.mem_cons.mp hx with e | e
    · exact w.sub _ (e ▸ h)
    · exact ih x e
  | new h w ih =>
    intro x hx
    rcases List.mem_cons.mp hx with e | e
    · exact w.sub _ (by rw [e]; exact List.mem_append_right _ (List.mem_singleton.mpr rfl))
    · exact ih x (List.mem_append_right _ e)
/-- what is met is closed -/
theorem Wk.closed (h : Wk kid s r t) (hs : ∀ n ∈ s, ∀ x ∈ kid n, x ∈ s ∨ x ∈ r) : ∀ n ∈ t, ∀ x ∈ kid n, x ∈ t := by
  induction h with
  | nil => exact fun n hn x hx => (hs n hn x hx).elim id fun z => nomatch z
  | old h w ih =>
    refine ih fun n hn x hx => ?_
    rcases hs n hn x hx with z | z
    · exact .inl z
    · rcases List.mem_cons.mp z with e | e
      · exact .inl (e ▸ h)
      · exact .inr e
  | @new s r t n h w ih =>
    refine ih fun m hm x hx => ?_
    rcases List.mem_append.mp hm with hm | hm
    · rcases hs m hm x hx with z | z
      · exact .inl (List.mem_append_left _ z)
      · rcases List.mem_cons.mp z with e | e
        · exact .inl (by rw [e]; exact List.mem_append_right _ (List.mem_singleton.mpr rfl))
        · exact .inr (List.mem_append_right _ e)
    · rw [List.mem_singleton.mp hm] at hx
      exact .inr (List.mem_append_left _ hx)
/-- everything met has a property that goes to what is in it -/
theorem Wk.all {p : Nat → Prop} (h : Wk kid s r t) (hk : ∀ n, p n → ∀ x ∈ kid n, p x) (hs : ∀ n ∈ s, p n) (hr : ∀ n ∈ r, p n) : ∀ n ∈ t, p n := by
  induction h with
  | nil => exact hs
  | old _ _ ih => exact ih hs fun n hn => hr n (List.mem_cons_of_mem _ hn)
  | @new s r t n _ _ ih =>
    have hn := hr n List.mem_cons_self
    refine ih (fun m hm => ?_) fun m hm => ?_
    · rcases List.mem_append.mp hm with z | z
      · exact hs m z
      · rw [List.mem_singleton.mp z]; exact hn
    · rcases List.mem_append.mp hm with z | z
      · exact hk n hn m z
      · exact hr m (List.mem_cons_of_mem _ z)
/-- ways of any length -/
inductive Rch (kid : Nat → List Nat) : Nat → Nat → Prop where
  | refl {a : Nat} : Rch kid a a
  | step {a b c : Nat} (h : b ∈ kid a) (r : Rch kid b c) : Rch kid a c
theorem Rch.snoc {a b c : Nat} (h : Rch kid a b) (hc : c ∈ kid b) : Rch kid a c := by
  induction h with
  | refl => exact .step hc .refl
  | step h _ ih => exact .step h (ih hc)
theorem closed_rch {t : List Nat} (hc : ∀ n ∈ t, ∀ x ∈ kid n, x ∈ t) {a b : Nat} (h : Rch kid a b) (ha : a ∈ t) : b ∈ t := by
  induction h with
  | refl => exact ha
  | step h _ ih => exact ih (hc _ ha _ h)
theorem wk_rch {a : Nat} (h : Wk kid [] [a] t) (b : Nat) : b ∈ t ↔ Rch kid a b := by
  constructor
  · exact h.all (p := fun b => Rch kid a b) (fun n hn x hx => hn.snoc hx) (fun _ z => nomatch z) (fun n hn => by rw [List.mem_singleton.mp hn]; exact .refl) b
  · intro r
    exact closed_rch (h.closed fun _ z => nomatch z) r (h.work a (List.mem_singleton.mpr rfl))
/-! ### there is an end -/
def wt (kid : Nat → List Nat) (N : Nat) (s : List Nat) : Nat := ((List.range N).map fun i => if i ∈ s then 0 else 1 + (kid i).length).sum
theorem sum_wt (g : Nat → Nat) (s : List Nat) (n : Nat) : ∀ l : List Nat, l.Nodup → n ∉ s → (l.map fun i => if i ∈ s ++ [n] then 0 else g i).sum + (if n ∈ l then g n else 0) = (l.map fun i => if i ∈ s then 0 else g i).sum
  | [], _, _ => rfl
  | a :: l, hl, hn => by
    have ih := sum_wt g s n l (List.nodup_cons.mp hl).2 hn
    have hal := (List.nodup_cons.mp hl).1
    rw [List.map_cons, List.map_cons, List.sum_cons, List.sum_cons, ← ih]
    by_cases e : a = n
    · subst e
      rw [if_pos (List.mem_append_right _ (List.mem_singleton.mpr rfl)), if_neg hn, if_pos List.mem_cons_self, if_neg hal]
      omega
    · have h1 : (a ∈ s ++ [n]) ↔ a ∈ s := by simp [e]
      have h2 : (n ∈ a :: l) ↔ n ∈ l := by simp [Ne.symm e]
      simp only [h1, h2]
      omega
theorem wt_new {N : Nat} (hn : n ∉ s) (h : n < N) : wt kid N (s ++ [n]) + (1 + (kid n).length) = wt kid N s := by
  have := sum_wt (fun i => 1 + (kid i).length) s n (List.range N) List.nodup_range hn
  rw [if_pos (List.mem_range.mpr h)] at this
  exact this
theorem wt_le {N b : Nat} (hb : ∀ i, i < N → (kid i).length ≤ b) (s : List Nat) : wt kid N s ≤ N * (1 + b) := by
  unfold wt
  have : ∀ l : List Nat, (∀ i ∈ l, i < N) → (l.map fun i => if i ∈ s then 0 else 1 + (kid i).length).sum ≤ l.length * (1 + b) := by
    intro l
    induction l with
    | nil => exact fun _ => Nat.zero_le _
    | cons a l ih =>
      intro h
      have h1 := ih fun i hi => h i (List.mem_cons_of_mem _ hi)
      have h2 := hb a (h a List.mem_cons_self)
      rw [List.map_cons, List.sum_cons, List.length_cons, Nat.succ_mul]
      split <;> omega
  have h := this (List.range N) fun i hi => List.mem_range.mp hi
  rw [List.length_range] at h
  exact h
theorem wk_ex {N : Nat} (hk : ∀ i, i < N → ∀ x ∈ kid i, x < N) : ∀ (k : Nat) (s r : List Nat), wt kid N s + r.length ≤ k → (∀ x ∈ r, x < N) → ∃ t, Wk kid s r t
  | _, s, [], _, _ => ⟨s, .nil⟩
  | 0, s, a :: r, h, _ => by rw [List.length_cons] at h; omega
  | k + 1, s, a :: r, h, hr => by
    have hr' : ∀ x ∈ r, x < N := fun x hx => hr x (List.mem_cons_of_mem _ hx)
    have ha := hr a List.mem_cons_self
    rw [List.length_cons] at h
    by_cases z : a ∈ s
    · obtain ⟨t, w⟩ := wk_ex hk k s r (by omega) hr'
      exact ⟨t, .old z w⟩
    · have e := wt_new (kid := kid) z ha
      obtain ⟨t, w⟩ := wk_ex hk k (s ++ [a]) (kid a ++ r) (by rw [List.length_append]; omega) fun x hx => (List.mem_append.mp hx).elim (hk a ha x) (hr' x)
      exact ⟨t, .new z w⟩
end
end DJ
/-! ### {k: v} that will change; how often numbers stand in a list -/
namespace DJ
open PySem PySem.Spec PyProof.Rows L2
section
variable {K : PySem.W.Frag} {F B H : Hp} {as : List Addr} {G : List (Option Sl)} {M : List MO} {tk tv : TE} {n : Int} {v : V} {y : Dt}
/-- what stood at the side is owned from here on -/
theorem Ow.side_own {D : Addr} {o o' : HO} {m : MO} (h : Ow K (upd F D o) B as M H) (fD : F D = none) (bD : B D = none) (hm : MoR K B (upd H D o') D m) : Ow K F B (as ++ [D]) (M ++ [m]) (upd H D o') := by
  have nD := h.out
  refine ⟨fun a u e => ?_, fun a u e => ?_, by rw [List.length_append, List.length_append, h.len]; rfl, List.nodup_append.mpr ⟨h.nd, by simp, fun a ha b hb => ?_⟩, fun a ha => ?_, fun a ha => ?_, fun k a m' e1 e2 hm' => ?_⟩
  · have ne := ne_of_none e fD
    rw [upd_ne ne]
    exact h.fb a u (by rw [upd_ne ne]; exact e)
  · rw [upd_ne (ne_of_none e bD)]; exact h.bb a u e
  · obtain rfl : b = D := by simpa using hb
    exact fun e : a = b => nD (e ▸ ha)
  · rcases List.mem_append.mp ha with ha | ha
    · rw [upd_ne (fun e : a = D => nD (e ▸ ha))]; exact h.al a ha
    · obtain rfl : a = D := by simpa using ha
      rw [upd_same]; exact fun z => nomatch z
  · rcases List.mem_append.mp ha with ha | ha
    · have q := h.fa a ha
      rw [upd_ne (fun e : a = D => nD (e ▸ ha))] at q
      exact q
    · obtain rfl : a = D := by simpa using ha
      exact fD
  · by_cases hk : k < as.length
    · rw [List.getElem?_append_left hk] at e1
      rw [List.getElem?_append_left (by rw [← h.len]; exact hk)] at e2
      have ne : a ≠ D := fun e : a = D => nD (e ▸ List.mem_of_getElem? e1)
      obtain ⟨q1, q2, q3⟩ := h.own k a m' e1 e2 hm'
      rw [upd_ne ne] at q1
      exact ⟨q1, q2, MoR.mono (Same.refl B) (upd_ne ne) q3⟩
    · have hl : k = as.length := by
        have := (List.getElem?_eq_some_iff.mp e1).1
        rw [List.length_append, List.length_singleton] at this
        omega
      subst hl
      rw [List.getElem?_append_right (Nat.le_refl _), Nat.sub_self] at e1
      rw [h.len, List.getElem?_append_right (Nat.le_refl _), Nat.sub_self] at e2
      obtain rfl : D = a := Option.some.inj e1
      obtain rfl : m = m' := Option.some.inj e2
      exact ⟨fD, bD, hm⟩
theorem ev_disp1I (hk : EvE K tk G M (.d (.int n)) M) (hv : EvE K tv G M (.d y) M) (hy : ∀ B w, Rp K B y w → w = v) : EvE K (tDisp [(tk, tv)]) G M (.o M.length) (M ++ [diO [(n, v)]]) := fun F B as σ H ow sl Q q p hp => by
  obtain ⟨f1, f2, _⟩ := ow.fresh hp
  refine hk (upd F p (.dK [])) B as σ _ (ow.frame hp _) sl _ fun u B1 as1 H1 g1 p1 o1 r1 => hv _ B1 as1 σ H1 o1 (sl.mono g1.1 p1) _ fun w B2 as2 H2 g2 p2 o2 r2 => ?_
  obtain rfl : u = .int n := r1
  obtain rfl := hy _ _ r2
  have gg := g1.trans g2
  have b2 : B2 p = none := gg.2 p (by rw [upd_same]; exact ⟨fun z => (nomatch z), fun _ z => (nomatch z)⟩) f2
  refine ⟨o2.fb p _ upd_same, [(Sum.inl n, w)], rfl, show 1 ≤ 15 by decide, ?_⟩
  refine q _ B2 (as2 ++ [p]) _ (Gr.of_sideK (D := p) (o := .dK []) (fun _ z => (nomatch z)) gg) ((p1.trans p2).trans ⟨[p], rfl⟩) (o2.side_own f1 b2 (mor_di (ds := [(n, w)]) upd_same)) ⟨p, ?_, rfl⟩
  rw [← o2.len, List.getElem?_append_right (Nat.le_refl _), Nat.sub_self] <;> rfl
end
/-- how often each number stands in a list -/
def addC (d : Di) (x : Nat) : Di := putI d (x : Int) (match (getI d (x : Int)).getD (.int 0) with | .int i => .int (i + 1) | z => z)
def cntD (L : List Nat) : Di := L.foldl addC []
theorem cnt_snoc (L : List Nat) (x : Nat) : cntD (L ++ [x]) = addC (cntD L) x := by unfold cntD; rw [List.foldl_append] <;> rfl
theorem snoc_ind {p : List Nat → Prop} (h0 : p []) (h1 : ∀ l a, p l → p (l ++ [a])) (l : List Nat) : p l := by
  rw [← List.reverse_reverse l]
  induction l.reverse with
  | nil => exact h0
  | cons a r ih => rw [List.reverse_cons]; exact h1 _ _ ih
theorem cnt_get (L : List Nat) : ∀ x : Nat, getI (cntD L) (x : Int) = if x ∈ L then some (V.int (L.count x : Nat)) else none := by
  refine snoc_ind (p := fun L => ∀ x : Nat, getI (cntD L) (x : Int) = if x ∈ L then some (V.int (L.count x : Nat)) else none) (fun x => rfl) (fun l a ih x => ?_) L
  have ia := ih a
  have val : (getI (cntD l) (a : Int)).getD (.int 0) = V.int (l.count a : Nat) := by
    rw [ia]
    by_cases z : a ∈ l
    · rw [if_pos z] <;> rfl
    · rw [if_neg z, List.count_eq_zero.mpr z] <;> rfl
  rw [cnt_snoc]
  unfold addC
  rw [val, getI_put]
  by_cases e : x = a
  · subst e
    rw [if_pos rfl, if_pos (List.mem_append_right _ (List.mem_singleton.mpr rfl)), List.count_append]
    show some (V.int ((l.count x : Nat) + 1)) = _
    simp
  · rw [if_neg (show ¬ ((x : Int) = (a : Int)) from fun y => e (Int.ofNat.inj y)), ih x]
    have h1 : (x ∈ l ++ [a]) ↔ x ∈ l := by simp [e]
    have h2 : (l ++ [a]).count x = l.count x := by
      rw [List.count_append, List.count_eq_zero.mpr (fun z => e (List.mem_singleton.mp z)), Nat.add_zero]
    simp only [h1, h2]
theorem putI_keys (ds : Di) (k : Int) (v : V) : (putI ds k v).map (·.1) = if k ∈ ds.map (·.1) then ds.map (·.1) else ds.map (·.1) ++ [k] := by
  unfold putI
  have e : (ds.any fun p => decide (p.1 = k)) = true ↔ k ∈ ds.map (·.1) := by
    rw [List.any_eq_true]
    constructor
    · rintro ⟨p, hp, h⟩
      exact List.mem_map.mpr ⟨p, hp, of_decide_eq_true h⟩
    · intro h
      obtain ⟨p, hp, h⟩ := List.mem_map.mp h
      exact ⟨p, hp, decide_eq_true h⟩
  by_cases z : k ∈ ds.map (·.1)
  · rw [if_pos z, if_pos (e.mpr z), List.map_map]
    refine List.map_congr_left fun p _ => ?_
    show (if p.1 = k then (p.1, v) else p).1 = p.1
    split <;> rfl
  · rw [if_neg z, if_neg (fun y => z (e.mp y)), List.map_append] <;> rfl
theorem cnt_keys (L : List Nat) : ((cntD L).map (·.1)).Nodup ∧ ∀ k : Int, k ∈ (cntD L).map (·.1) ↔ ∃ x ∈ L, k = (x : Int) := by
  refine snoc_ind (p := fun L => ((cntD L).map (·.1)).Nodup ∧ ∀ k : Int, k ∈ (cntD L).map (·.1) ↔ ∃ x ∈ L, k = (x : Int)) ⟨List.nodup_nil, fun k => ⟨(fun z => nomatch z), (fun ⟨_, z, _⟩ => nomatch z)⟩⟩ (fun l a ih => ?_) L
  rw [cnt_snoc]
  unfold addC
  generalize (match (getI (cntD l) (a : Int)).getD (.int 0) with | .int i => V.int (i + 1) | z => z) = v
  rw [putI_keys]
  by_cases z : (a : Int) ∈ (cntD l).map (·.1)
  · rw [if_pos z]
    refine ⟨ih.1, fun k => (ih.2 k).trans ⟨fun ⟨x, hx, e⟩ => ⟨x, List.mem_append_left _ hx, e⟩, fun ⟨x, hx, e⟩ => ?_⟩⟩
    rcases List.mem_append.mp hx with h | h
    · exact ⟨x, h, e⟩
    · rw [List.mem_singleton.mp h] at e
      rw [e]
      exact (ih.2 _).mp z
  · rw [if_neg z]
    refine ⟨List.nodup_append.mpr ⟨ih.1, by simp, fun x hx y hy => by rw [List.mem_singleton.mp hy]; exact fun e => z (e ▸ hx)⟩, fun k => ?_⟩
    rw [List.mem_append, ih.2 k, List.mem_singleton]
    constructor
    · rintro (⟨x, hx, e⟩ | e)
      · exact ⟨x, List.mem_append_left _ hx, e⟩
      · exact ⟨a, List.mem_append_right _ (List.mem_singleton.mpr rfl), e⟩
    · rintro ⟨x, hx, e⟩
      rcases List.mem_append.mp hx with h | h
      · exact .inl ⟨x, h, e⟩
      · exact .inr (by rw [e, List.mem_singleton.mp h])
theorem cnt_len (L : List Nat) : (cntD L).length ≤ L.length := by
  refine snoc_ind (p := fun L => (cntD L).length ≤ L.length) (Nat.le_refl _) (fun l a ih => ?_) L
  rw [cnt_snoc]
  unfold addC
  have := putI_len (cntD l) (a : Int) (match (getI (cntD l) (a : Int)).getD (.int 0) with | .int i => V.int (i + 1) | z => z)
  rw [List.length_append]
  show _ ≤ l.length + 1
  omega
end DJ
namespace DJ
open PySem PySem.Spec PyProof.Rows L2
section
variable {K : PySem.W.Frag} {G : List (Option Sl)} {M M1 : List MO} {tr : TA} {xs : List Dt}
/-- list(xs), which will change -/
theorem ev_listO (h : EvA K tr G M [.d (.lst xs)] M1) : EvE K (tCB (fun xs H Q => ∃ p ys, xs = [.ref p] ∧ (SqL K H p ys ∨ SqT K H p ys) ∧ ∀ l, H l = none → Q (.ref l) (upd H l (.lst ys))) tr) G M (.o M1.length) (M1 ++ [.lst xs]) := fun F B as σ H ow sl Q q =>
  h F B as σ H ow sl _ fun vs B1 as1 H1 g1 p1 o1 r1 => by
    obtain ⟨u, r, e, ⟨a, us, eu, hq, hr⟩, e2⟩ := r1
    have e2 : r = [] := e2
    subst e2; subst eu; subst e
    refine ⟨a, us, rfl, .inl (o1.bb.seq hq), fun p hp => ?_⟩
    refine q _ B1 (as1 ++ [p]) _ g1 (p1.trans ⟨[p], rfl⟩) (o1.newO hp ⟨us, upd_same, hr⟩) ⟨p, ?_, rfl⟩
    rw [← o1.len, List.getElem?_append_right (Nat.le_refl _), Nat.sub_self] <;> rfl
end
theorem ev_isM {K : PySem.W.Frag} {G : List (Option Sl)} {M M1 M2 : List MO} {te : TE} {s : Sl} (h : EvE K te G M s M1) (e : M1 = M2) : EvE K te G M s M2 := e ▸ h
theorem take_s {α : Type} {xs : List α} {i : Nat} {x : α} (h : xs[i]? = some x) : xs.take (i + 1) = xs.take i ++ [x] := by
  rw [List.take_add_one, h] <;> rfl
theorem nodup_le {α : Type} [DecidableEq α] : ∀ {l m : List α}, l.Nodup → (∀ x ∈ l, x ∈ m) → l.length ≤ m.length
  | [], _, _, _ => Nat.zero_le _
  | a :: l, m, hl, h => by
    have ha := h a List.mem_cons_self
    have hn := List.nodup_cons.mp hl
    have ih := nodup_le (l := l) (m := m.erase a) hn.2 fun x hx => (List.mem_erase_of_ne (fun e : x = a => hn.1 (e ▸ hx))).mpr (h x (List.mem_cons_of_mem _ hx))
    rw [List.length_erase_of_mem ha] at ih
    have := List.length_pos_of_mem ha
    rw [List.length_cons]
    omega
theorem count_cast (x : Nat) : ∀ l : List Nat, (l.map fun (n : Nat) => (n : Int)).count (x : Int) = l.count x
  | [] => rfl
  | a :: l => by
    rw [List.map_cons, List.count_cons, List.count_cons, count_cast x l]
    congr 1
    by_cases e : a = x
    · subst e; simp
    · have : ¬ ((a : Int) = (x : Int)) := fun y => e (Int.ofNat.inj y)
      simp [e, this]
theorem mem_cast {x : Nat} {l : List Nat} : (x : Int) ∈ (l.map fun (n : Nat) => (n : Int)) ↔ x ∈ l := by
  rw [List.mem_map]
  exact ⟨fun ⟨y, hy, e⟩ => by have e : (y : Int) = (x : Int) := e; have := Int.ofNat.inj e; rw [← this]; exact hy, fun h => ⟨x, h, rfl⟩⟩
theorem nodup_cast {l : List Nat} (h : l.Nodup) : (l.map fun (n : Nat) => (n : Int)).Nodup := by
  induction l with
  | nil => exact List.nodup_nil
  | cons a l ih =>
    have hn := List.nodup_cons.mp h
    rw [List.map_cons]
    exact List.nodup_cons.mpr ⟨fun z => hn.1 (mem_cast.mp z), ih hn.2⟩
theorem sort_filter {l m : List Int} (p : Int → Bool) (hl : l.Nodup) (hm : m.Nodup) (h : ∀ x, x ∈ l ↔ x ∈ m) : sortI (l.filter p) = (sortI m).filter p := by
  refine (sortI_uniq (List.Perm.trans ((sortI_perm m).filter p) (List.Perm.filter p ?_)) ((sortI_le m).filter p)).symm
  exact (List.perm_ext_iff_of_nodup hm hl).mpr fun x => (h x).symm
end DJ
/-! ### a call that hands an owned thing back; what an expression made is let go; numbers in lists -/
namespace DJ
open PySem PySem.Spec PyProof.Rows L2
section
variable {K : PySem.W.Frag} {G : List (Option Sl)} {M M1 M2 X : List MO} {te td ty : TE} {x : Dt}
theorem ev_callS {E : XK} {n : Nat} {R : List Sl → List MO → Sl → List MO → Prop} {ta : TA} {ss : List Sl} {r : Sl} (h : EvA K ta G M ss M1) (hR : R ss M1 r M2) (hn : ss.length = n) : EvE K (tCall (SpR K n R) [] E ta) G M r M2 := fun F B as σ H ow sl Q q =>
  h F B as σ H ow sl _ fun vs B1 as1 H1 g1 p1 o1 r1 =>
    ⟨F, B1, as1, ss, M1, r, M2, hR, o1, by rw [List.append_nil]; exact r1, by rw [List.append_nil, r1.len]; exact hn, fun v B' as' H' g p o' r' => q v B' as' H' (g1.trans g) (p1.trans p) o' r'⟩
theorem ev_letgo (h : EvE K te G M (.d x) (M ++ X)) : EvE K te G M (.d x) M := fun F B as σ H ow sl Q q =>
  h F B as σ H ow sl _ fun v B' as' H' g p o' r' => by
    obtain ⟨tl, rfl⟩ := p
    have up : ∀ {α : Type} {l m : List α} {k : Nat} {a : α}, l[k]? = some a → (l ++ m)[k]? = some a := fun e => by
      rw [List.getElem?_append_left (List.getElem?_eq_some_iff.mp e).1]; exact e
    exact q v B' as H' g (Px.refl as) ⟨o'.fb, o'.bb, ow.len, ow.nd, fun a ha => o'.al a (List.mem_append_left _ ha), fun a ha => o'.fa a (List.mem_append_left _ ha), fun k a m e1 e2 hm => o'.own k a m (up e1) (up e2) hm⟩ r'
theorem inV_nums (n : Int) : ∀ ns : List Int, inV (.int n) (ns.map V.int) = decide (n ∈ ns)
  | [] => rfl
  | a :: ns => by
    show (eqV (.int a) (.int n) || inV (.int n) (ns.map V.int)) = _
    rw [inV_nums n ns]
    have e : eqV (.int a) (.int n) = decide (n = a) := by
      show (a == n) = _
      rw [Bool.eq_iff_iff, beq_iff_eq, decide_eq_true_iff]
      exact eq_comm
    rw [e, ← Bool.decide_or]
    exact decide_eq_decide.mpr (by simp)
theorem flat_nums : ∀ ns : List Int, (ns.map V.int).all flatV = true
  | [] => rfl
  | a :: ns => by rw [List.map_cons, List.all_cons, flat_nums ns] <;> rfl
/-- n in xs, xs owned -/
theorem ev_inNO {k : Nat} {n : Int} {ns : List Int} (hk : EvE K ty G M (.d (.int n)) M1) (hd : EvE K td G M1 (.o k) M2) (hm : M2[k]? = some (.lst (ns.map Dt.int))) : EvE K (tOp (rIn K false) ty td) G M (.d (.bl (decide (n ∈ ns)))) M2 := fun F B as σ H ow sl Q q =>
  hk F B as σ H ow sl _ fun u B1 as1 H1 g1 p1 o1 r1 => hd F B1 as1 σ H1 o1 (sl.mono g1.1 p1) _ fun z B2 as2 H2 g2 p2 o2 r2 => by
    obtain ⟨a, ha, rfl⟩ := r2
    obtain rfl : u = .int n := r1
    obtain ⟨_, _, vs, hv, hr⟩ := o2.own k a _ ha hm (fun z => nomatch z)
    obtain rfl := RpL.nums hr
    refine ⟨a, _, rfl, .inl (.inl (.inl hv)), rfl, flat_nums ns, q _ B2 as2 H2 (g1.trans g2) (p1.trans p2) o2 ?_⟩
    show V.bl (inV _ _) = _
    rw [inV_nums]
theorem ro_inN {n : Int} {ns : List Int} : RO K (rIn K false) (.int n) (.lst (ns.map Dt.int)) (.bl (decide (n ∈ ns))) := fun F B as M H v u Q ow r1 r2 q => by
  obtain ⟨a, vs, e, h1, h2⟩ := r2
  obtain rfl := RpL.nums h2
  subst e
  obtain rfl : v = .int n := r1
  refine ⟨a, _, rfl, .inl (ow.bb.seq h1), rfl, flat_nums ns, q _ B H (Gr.refl F B) ow ?_⟩
  show V.bl (inV _ _) = _
  rw [inV_nums]
end
end DJ
/-! ### slices and sums of tuples; dict(..) of pairs -/
namespace DJ
open PySem PySem.Spec PyProof.Rows L2
section
variable {K : PySem.W.Frag} {G : List (Option Sl)} {M M1 M2 M3 : List MO} {te : TE} {tr : TA} {xs ys : List Dt}
theorem ev_slT {tl th : TO} {lo hi : Option Int} (h : EvE K te G M (.d (.tup xs)) M1) (h1 : EvO K tl G M1 lo M2) (h2 : EvO K th G M2 hi M3) (hn : ¬ (HT.sIx xs.length 0 lo = 0 ∧ HT.sIx xs.length xs.length hi = xs.length)) : EvE K (tSl (rSlT K) te tl th) G M (.d (.tup (cutL xs lo hi))) M3 := fun F B as σ H ow sl Q q =>
  h F B as σ H ow sl _ fun v B1 as1 H1 g1 p1 o1 r1 => h1 F B1 as1 σ H1 o1 (sl.mono g1.1 p1) _ fun B2 as2 H2 g2 p2 o2 => h2 F B2 as2 σ H2 o2 ((sl.mono g1.1 p1).mono g2.1 p2) _ fun B3 as3 H3 g3 p3 o3 => by
    obtain ⟨a, vs, e, h3, h4⟩ := r1
    have hl := h4.len
    refine ⟨a, vs, e, same_t o3.bb (same_t (g2.1.trans g3.1) h3), by rw [hl]; exact hn, fun p hp => ?_⟩
    have g4 := o3.gr hp (.tup (L2.cutV vs lo hi))
    refine q _ _ as3 _ (g1.trans (g2.trans (g3.trans g4))) (p1.trans (p2.trans p3)) (o3.new hp _) ⟨p, _, rfl, .inl (.inl upd_same), ?_⟩
    have r := RpL.mono (g2.1.trans (g3.1.trans g4.1)) _ _ h4
    generalize upd B3 p (HO.tup (L2.cutV vs lo hi)) = B4 at r ⊢
    unfold L2.cutV cutL
    rw [hl]
    exact RpL.take _ (RpL.drop _ r)
theorem ro_catT (hx : xs ≠ []) (hy : ys ≠ []) (hl : xs.length + ys.length ≤ 100000) : RO K (rCatT K) (.tup xs) (.tup ys) (.tup (xs ++ ys)) := fun F B as M H v u Q ow r1 r2 q => by
  obtain ⟨a, vs, e1, h1, h2⟩ := r1
  obtain ⟨b, us, e2, h3, h4⟩ := r2
  subst e1; subst e2
  have l1 := h2.len
  have l2 := h4.len
  refine ⟨a, b, vs, us, rfl, rfl, same_t ow.bb h1, same_t ow.bb h3, fun z => hx (List.length_eq_zero_iff.mp (by rw [← l1, z] <;> rfl)), by rw [l1, l2, sizeLine_eq]; omega, fun z => absurd (List.length_eq_zero_iff.mp (by rw [← l2, z] <;> rfl)) hy, fun _ p hp => ?_⟩
  have g := ow.gr hp (.tup (vs ++ us))
  exact q _ _ _ g (ow.new hp _) ⟨p, _, rfl, .inl (.inl upd_same), RpL.append (RpL.mono g.1 _ _ h2) (RpL.mono g.1 _ _ h4)⟩
theorem ev_gone {k : Nat} {s : Sl} (h : EvE K te G M s M1) : EvE K te G M s (M1.set k .gone) := fun F B as σ H ow sl Q q => h F B as σ H ow sl _ fun v B' as' H' g p o' r' => q v B' as' H' g p (o'.letgo k) r'
theorem es_dropgo {X : List MO} {G1 : List (Option Sl)} {t : TS} (h : EvS K t G M (.nx G1 (M ++ X))) (hg : ∀ k, some (Sl.o k) ∉ G1) : EvS K t G M (.nx G1 M) := es_nxT h hg
/-- sorted(xs), which will change -/
theorem ev_sortIO {ns : List Int} (h : EvA K tr G M [.d (.lst (ns.map Dt.int))] M1) : EvE K (tCB (rSortedI K) tr) G M (.o M1.length) (M1 ++ [.lst ((sortI ns).map Dt.int)]) := fun F B as σ H ow sl Q q =>
  h F B as σ H ow sl _ fun vs B1 as1 H1 g1 p1 o1 r1 => by
    obtain ⟨u, r, e, ⟨a, us, eu, hq, hr⟩, e2⟩ := r1
    have e2 : r = [] := e2
    subst e2; subst eu; subst e
    obtain rfl := RpL.nums hr
    refine ⟨a, ns, rfl, o1.bb.seq hq, fun ms p hp hs hn => ?_⟩
    obtain rfl := sortI_uniq hp hs
    refine q _ B1 (as1 ++ [p]) _ g1 (p1.trans ⟨[p], rfl⟩) (o1.newO hn ⟨_, upd_same, RpL.nums_of _⟩) ⟨p, ?_, rfl⟩
    rw [← o1.len, List.getElem?_append_right (Nat.le_refl _), Nat.sub_self] <;> rfl
theorem inV_nonN : ∀ ns : List Int, inV .non (ns.map V.int) = false
  | [] => rfl
  | a :: ns => by
    show (eqV (.int a) .non || inV .non (ns.map V.int)) = false
    rw [inV_nonN ns] <;> rfl
theorem ro_inNon {ns : List Int} : RO K (rIn K false) .non (.lst (ns.map Dt.int)) (.bl false) := fun F B as M H v u Q ow r1 r2 q => by
  obtain ⟨a, vs, e, h1, h2⟩ := r2
  obtain rfl := RpL.nums h2
  subst e
  obtain rfl : v = .non := r1
  refine ⟨a, _, rfl, .inl (ow.bb.seq h1), rfl, flat_nums ns, q _ B H (Gr.refl F B) ow ?_⟩
  show V.bl (inV _ _) = _
  rw [inV_nonN]
theorem mk_merge {β : Type} (kf : β → Int) (vf : β → V) (xs : List β) : mergeK [] (xs.map fun b => ((Sum.inl (kf b) : Key), vf b)) = enI (mkDi kf vf xs) := by
  have : ∀ (xs : List β) (d : Di), mergeK (enI d) (xs.map fun b => ((Sum.inl (kf b) : Key), vf b)) = enI (xs.foldl (fun d x => putI d (kf x) (vf x)) d) := by
    intro xs
    induction xs with
    | nil => exact fun _ => rfl
    | cons x xs ih =>
      intro d
      have h := ih (putI d (kf x) (vf x))
      rw [← put_enI] at h
      exact h
  exact this xs []
theorem ev_dictP {β : Type} (zs : List β) (kf : β → Int) (vf : β → V) (yf : β → Dt) (hy : ∀ b B w, Rp K B (yf b) w → w = vf b) (h : EvA K tr G M [.d (.lst (zs.map fun b => .tup [.int (kf b), yf b]))] M1) :
    EvE K (tCB (fun xs H Q => ∃ (a : Addr) (ps : List Addr) (kvs : List (Key × V)), xs = [.ref a] ∧ SqL K H a (ps.map V.ref) ∧ Paired (fun p kv => SqT K H p [kV kv.1, kv.2]) ps kvs ∧ ∀ p, H p = none → Q (.ref p) (upd H p (.dK (mergeK [] kvs)))) tr) G M (.d (diD (mkDi kf vf zs))) M1 := fun F B as σ H ow sl Q q =>
  h F B as σ H ow sl _ fun vs B1 as1 H1 g1 p1 o1 r1 => by
    obtain ⟨u, r, e, ⟨a, us, eu, hq, hr⟩, e2⟩ := r1
    have e2 : r = [] := e2
    subst e2; subst eu; subst e
    have pr : ∀ (zs : List β) (us : List V), RpL K B1 (zs.map fun b => Dt.tup [.int (kf b), yf b]) us → ∃ ps : List Addr, us = ps.map V.ref ∧ Paired (fun p kv => SqT K H1 p [kV kv.1, kv.2]) ps (zs.map fun b => ((Sum.inl (kf b) : Key), vf b)) := by
      intro zs
      induction zs with
      | nil => exact fun us h => ⟨[], h, .nil⟩
      | cons z zs ih =>
        intro us h
        obtain ⟨v, r, e, ⟨b, vs, eb, h1, h2⟩, h3⟩ := h
        obtain ⟨ps, e2, h4⟩ := ih r h3
        obtain ⟨v1, r1, e3, k1, v2, r2, e4, k2, k3⟩ := h2
        obtain rfl : v1 = .int (kf z) := k1
        obtain rfl := hy _ _ _ k2
        obtain rfl : r2 = [] := k3
        subst e4; subst e3; subst eb; subst e2; subst e
        exact ⟨b :: ps, rfl, .cons (same_t o1.bb h1) h4⟩
    obtain ⟨ps, e, hp⟩ := pr zs us hr
    subst e
    refine ⟨a, ps, _, rfl, o1.bb.seq hq, hp, fun p hn => ?_⟩
    rw [mk_merge]
    exact q _ _ as1 _ (g1.trans (o1.gr hn _)) p1 (o1.new hn _) fun H' s => ⟨p, rfl, s _ _ upd_same⟩
end
end DJ
/-! ### list(range(..)), a tuple of numbers some times over -/
namespace DJ
open PySem PySem.Spec PyProof.Rows L2
section
variable {K : PySem.W.Frag} {G : List (Option Sl)} {M M1 M2 M3 : List MO} {te : TE} {tr : TA}
theorem rgV_nat (n : Nat) : L2.rgV 0 (n : Int) = (List.range n).map fun (i : Nat) => V.int (i : Int) := by
  unfold L2.rgV
  rw [Int.sub_zero, Int.toNat_natCast]
  exact List.map_congr_left fun i _ => by rw [Int.zero_add]
theorem ev_listRg {n : Nat} (h : EvE K te G M (.d (.int (n : Int))) M1) (hn : n ≤ 100000) : EvE K (L2.tLstRg (L2.tRg1 te)) G M (.d (lstX K ((List.range n).map fun (i : Nat) => Dt.int (i : Int)))) M1 := fun F B as σ H ow sl Q q =>
  h F B as σ H ow sl _ fun v B1 as1 H1 g1 p1 o1 r1 => by
    obtain rfl : v = .int n := r1
    refine ⟨(n : Int), rfl, L2.RgOk.of_le (Int.le_refl _) (by omega) (by decide) (by omega), fun p hp => ?_⟩
    rw [rgV_nat]
    refine q _ _ as1 _ (g1.trans (o1.gr hp _)) p1 (o1.new hp _) fun H' s => ⟨p, _, rfl, s _ _ upd_same, ?_⟩
    have := RpL.nums_of (K := K) (H := H') ((List.range n).map fun (i : Nat) => (i : Int))
    rw [List.map_map, List.map_map] at this
    exact this
theorem ro_repT {ns : List Int} {k : Int} (h0 : ns ≠ []) (h1 : 2 ≤ k) (h2 : k ≤ 1000) (h3 : ns.length ≤ 1000) : RO K (L2.rRepT K) (.tup (ns.map Dt.int)) (.int k) (.tup ((List.replicate k.toNat ns).flatten.map Dt.int)) := fun F B as M H v u Q ow r1 r2 q => by
  obtain ⟨a, vs, e1, hq, hr⟩ := r1
  obtain rfl : u = .int k := r2
  subst e1
  obtain rfl := RpL.nums hr
  refine ⟨a, k, _, rfl, rfl, same_t ow.bb hq, fun e => h0 (List.map_eq_nil_iff.mp e), h1, h2, by rw [List.length_map]; exact h3, fun p hp => ?_⟩
  have g := ow.gr hp (.tup (List.replicate k.toNat (ns.map V.int)).flatten)
  refine q _ _ _ g (ow.new hp _) ⟨p, _, rfl, .inl (.inl upd_same), ?_⟩
  rw [← List.map_replicate, ← List.map_flatten]
  exact RpL.nums_of _
theorem ev_lcMX {β : Type} {wi : TI} {g : TG} {vs : List Nat} (xs : List β) (en f : β → Dt) (hI : EvI K wi G M (xs.map en) M) (hx : xs.length ≤ 100000)
    (hw : ∀ v σ H Q, g v (wipe σ vs) H (fun σ2 H2 => wipe σ2 vs = wipe σ vs → Q σ2 H2) → g v (wipe σ vs) H Q) (turn : ∀ x, x ∈ xs → ∃ G1, EvG K g (wipeG G vs) (.d (en x)) G1 ∧ EvE K te G1 M (.d (f x)) M) :
    EvE K (tLc wi g tYes te vs) G M (.d (lstX K (xs.map f))) M := by
  rw [← mapS_map f xs ()]
  exact ev_lcX xs en (fun _ => M) (fun (_ : Unit) x => some (f x, ())) (fun m _ => m) () hI hx hw fun m x hm => by
    obtain ⟨G1, h1, h2⟩ := turn x hm
    exact ⟨G1, h1, M, et_yes, h2⟩
/-- a class's __init__ with numbers as defaults -/
theorem init_ints {qn : Str} {st : Stmt} {fI T : Addr} {oc : Value} {od an : Option Addr} {osl qs : Array (Option Value)} {qc : Value} {qo : Option Addr} {qi : Array Value} {qk : Nat} {kV doc pm cdv ct : Value} {ls : List Int}
  (l : K.lookup fI = some ⟨oc, od, .func (PySem.W.fnOf "__init__" qn (defArgs st) (defBody st) (defScope st) (.ref T) kV doc pm an cdv ct), osl⟩) (c : PySem.W.codeIn K cdv qn = true) (k : PySem.W.keepIn K (.ref fI) = true) (r : K.lookup T = some ⟨qc, qo, .seq qi qk, qs⟩) (hs : intsOf ls qi.toList = true) (hd : ls ≠ []) :
    FunD K "__init__" qn (defArgs st) (defBody st) (defScope st) (ls.map V.int) [] fI (PySem.W.fnOf "__init__" qn (defArgs st) (defBody st) (defScope st) (.ref T) kV doc pm an cdv ct) :=
  ⟨⟨oc, od, .ref T, kV, doc, pm, an, cdv, ct, osl, rfl, l, c, .inr ⟨fun e => hd (List.map_eq_nil_iff.mp e), T, _, qi.toList, qk, rfl, r, rfl, vals_ints hs⟩, .inl rfl⟩, k⟩
end
end DJ
/-! ### own things whose attributes are data, made by an __init__ that may raise and has defaults -/
namespace LJ
open PySem PySem.Spec PyProof.Rows L2 LamX DJ
def tMkD (C : Addr) (sp : Sp) (dvs : List V) (E : L2.St → XK) (t : TA) : TE := fun σ H Q => t σ H fun vs H1 => ∀ x dx, H1 x = none → H1 dx = none → dx ≠ x →
  sp (.ref x :: (vs ++ dvs)) (upd (upd H1 dx (.own x)) x (.ins C dx [])) (fun v H2 => v = .non ∧ Q (.ref x) H2) (E σ)
section
variable {X : Cx} {CX : CXT} {k : Nat} {f C : Addr} {fd : FuncData} {ps : List Str} {sp : Sp} {E : L2.St → XK} {dvs : List V} {ds : List Value} {x : Str} {p pos : Pos} {e : Expr} {es : List Expr} {t : TA}
theorem run_mkD {pins : List (Addr × Obj)} {σ : L2.St} {H : Hp} {s : Shared} {Q : VK} {us : List Value} {vs : List V} (M : Mk X.K C f) (F : FnOk X.prog X.w X.K X.mg X.base CX k f fd ps sp) (hr : Room (k + 1) X.A) (hb : Binds X.K fd ps ds) (hd : Vals dvs ds)
    (hx : PassesAt CX X σ (E σ)) (I : Inv X pins σ H s) (r : Vals vs us)
    (h : ∀ x dx, H x = none → H dx = none → dx ≠ x → sp (.ref x :: (vs ++ dvs)) (upd (upd H dx (.own x)) x (.ins C dx [])) (fun v H2 => v = .non ∧ Q (.ref x) H2) (E σ)) :
    wpAny (model X.prog X.w) X.A (call (.ref C) us) (EP X pins σ Q) X.xe s := by
  have hq := h (s.heap.objs.size + 1) s.heap.objs.size (I.hok.fresh (Nat.le_succ _)) (I.hok.fresh (Nat.le_refl _)) (Nat.ne_of_lt (Nat.lt_succ_self _))
  have I2 := Inv.made (C := C) I
  have r2 : Vals (V.ref (s.heap.objs.size + 1) :: (vs ++ dvs)) (Value.ref (s.heap.objs.size + 1) :: (us ++ ds)) := .cons rfl (r.append hd)
  have hl : (Value.ref (s.heap.objs.size + 1) :: us ++ ds).length = ps.length := by
    have e := r2.length
    rw [F.len _ _ _ _ hq] at e
    exact e.symm
  refine wpAny_call (make_map (f := f) I.kIn M.makes M.init (beq_iff_eq.mp M.fn) (codeAny_mono (F.run _ X.stack _ _ ⟨Value.ref (s.heap.objs.size + 1) :: us, []⟩ (Value.ref (s.heap.objs.size + 1) :: (us ++ ds)) _ _ (E σ) (hr.make C us [])
    (I2.env0.make C us []) (hb _ (Value.ref (s.heap.objs.size + 1) :: us) I2.kIn hl) r2 hq) fun r s' hq' => ?_))
  cases r with
  | error e => exact hx pins _ _ e s' I2 hq'
  | ok fl =>
    cases fl with
    | ret u =>
      obtain ⟨v, H', I3, rv, ev, q3⟩ := I2.after hq'
      subst ev
      exact ⟨rv, ⟨V.ref (s.heap.objs.size + 1), H', I3, rfl, q3⟩⟩
    | next => exact False.elim hq'
    | brk => exact False.elim hq'
    | cont => exact False.elim hq'
theorem pe_mkD (M : Mk X.K C f) (F : FnOk X.prog X.w X.K X.mg X.base CX k f fd ps sp) (hr : Room (k + 1) X.A) (hg : Gl X x) (hm : X.mg x = some (.ref C)) (hb : Binds X.K fd ps ds) (hd : Vals dvs ds) (hx : ∀ σ, PassesAt CX X σ (E σ))
    (ha : PA X (e :: es) t) (hdb : (x == ("__debug__" : Str)) = false := by decide) (he : starEach (e :: es) X.env = (false, eval e X.env) :: starEach es X.env := by rfl) (hpl : (backTo pos (starEach es X.env)).any (·.1) = false := by rfl) :
    PE X (.Call (.Name x p) (e :: es) [] pos) (tMkD C sp dvs E t) := by
  refine ⟨fun pins s σ H Q I h => ?_⟩
  refine wpAny_Call_Name_kw (ld_glob I hg hm ?_ hdb)
  refine PySem.W.callWith_K (h₀ := X.base) I.ok.mod.kin M.kp (thn (ha.run pos pins s σ H _ I h) fun us s1 ⟨vs, H1, I1, r, q⟩ => ⟨I1.kIn, ?_⟩) he hpl
  exact run_mkD M F hr hb hd (hx σ) I1 r q
end
structure MtdXD (P : Program) (w : World) (K : PySem.W.Frag) (mg : Str → Option Value) (base : Heap) (k : Nat) (f : Addr) (sp : Sp) (dvs : List V) : Prop where
  ex : ∃ (fd : FuncData) (ps : List Str) (ds : List Value), FnOk P w K mg base (L2.CX P w) k f fd ps sp ∧ Binds K fd ps ds ∧ Vals dvs ds
structure MkrXD (P : Program) (w : World) (K : PySem.W.Frag) (mg : Str → Option Value) (base : Heap) (k : Nat) (x : Str) (C : Addr) (sp : Sp) (dvs : List V) : Prop where
  ex : ∃ (f : Addr), Mk K C f ∧ mg x = some (.ref C) ∧ MtdXD P w K mg base k f sp dvs
theorem pe_mkrXD {X : Cx} {W : WX} {k j : Nat} {C : Addr} {x : Str} {sp : Sp} {dvs : List V} {p pos : Pos} {e : Expr} {es : List Expr} {t : TA} (c : MkrXD X.prog X.w X.K X.mg X.base k x C sp dvs) (tk : Takes X W) (hr : Room j X.A) (hk : k + 1 ≤ j) (hg : Gl X x) (ha : PA X (e :: es) t)
    (hdb : (x == ("__debug__" : Str)) = false := by decide) (he : starEach (e :: es) X.env = (false, eval e X.env) :: starEach es X.env := by rfl) (hpl : (backTo pos (starEach es X.env)).any (·.1) = false := by rfl) :
    PE X (.Call (.Name x p) (e :: es) [] pos) (tMkD C sp dvs (WE W) t) := by
  obtain ⟨f, M, hm, fd, ps, ds, F, b, v⟩ := c.ex
  exact pe_mkD M F (hr.mono hk) hg hm b v (fun σ => L2.passAt tk σ) ha hdb he hpl
theorem mtd_mkXD {P : Program} {w : World} {K : PySem.W.Frag} {mg : Str → Option Value} {base : Heap} {x qual : Str} {f : Addr} {st : Stmt} {N ps : List Str} {k n : Nat} {dv dvs : List V} {R : List Sl → List MO → Sl → List MO → Prop} {RX : List Sl → List MO → Ex → List MO → Prop}
    (D : ∃ fd, L2.FunD K x qual (defArgs st) (defBody st) (defScope st) dv [] f fd ∧ ∃ ds, Vals dvs ds ∧ Binds K fd ps ds) (S : FnScope N ps (defScope st)) (hn : ps.length = n)
    (hb : ∀ (cdv : Value) (A : Around) (outer : List Env) (s : Shared) (H : Hp) (E : XK), Room k (A.deeper (envOfC qual (defScope st) s.heap.objs.size f cdv)) → Takes (cxOf (L2.CX P w) P w K mg base N qual (defScope st) f cdv A outer s H E) (fun cls d _ H => E cls d H) →
      PassesOwn (model P w) (cxOf (L2.CX P w) P w K mg base N qual (defScope st) f cdv A outer s H E).A (cxOf (L2.CX P w) P w K mg base N qual (defScope st) f cdv A outer s H E).env (cxOf (L2.CX P w) P w K mg base N qual (defScope st) f cdv A outer s H E).xe →
      (∀ ss M r M', R ss M r M' → ∃ t X G1, PSs (cxOf (L2.CX P w) P w K mg base N qual (defScope st) f cdv A outer s H E) (defBody st) t ∧ EvS K t (DJ.start N.length ss) M (.nx G1 (M' ++ X)) ∧ M.length ≤ M'.length ∧ r = .d .non) ∧
      (∀ ss M x' M', RX ss M x' M' → ∃ t X G', PSs (cxOf (L2.CX P w) P w K mg base N qual (defScope st) f cdv A outer s H E) (defBody st) t ∧ EvR K t (fun cls d _ H => E cls d H) (DJ.start N.length ss) M x' G' (M' ++ X) ∧ M.length ≤ M'.length)) :
    MtdXD P w K mg base (k + 1) f (SpX K n R RX) dvs := by
  obtain ⟨fd, F, ds, hv, b⟩ := D
  refine ⟨fd, ps, ds, F.ok S (fun vs H Q E h => ?_) (fun cdv A outer s H vs Q E hr h => ?_), b, hv⟩
  · obtain ⟨_, _, _, _, _, _, _, e, _⟩ := h
    rw [e, hn]
  · obtain ⟨F', B', as, ss, M, ow, sl, _, q⟩ := h
    obtain ⟨h1, h2⟩ := hb cdv A outer s H E hr (takes_of rfl rfl rfl rfl) (passes_of rfl)
    rcases q with ⟨r, M', hR, q⟩ | ⟨x', M', hR, q⟩
    · obtain ⟨t, X, G1, ht, he, hl, hr'⟩ := h1 ss M r M' hR
      subst hr'
      exact ⟨t, ht, run_bodyN (X := X) he hl ow sl q⟩
    · obtain ⟨t, X, G', ht, he, hl⟩ := h2 ss M x' M' hR
      exact ⟨t, ht, run_bodyX (X := X) he hl ow sl q⟩
section
variable {K : PySem.W.Frag} {F B B1 H H1 : Hp} {as as1 : List Addr} {G : List (Option Sl)} {M M1 : List MO} {tr : TA} {C : Addr} {fd : Fd} {E : L2.St → XK} {W : WX} {x' : Ex} {n : Nat} {R : List Sl → List MO → Sl → List MO → Prop} {RX : List Sl → List MO → Ex → List MO → Prop} {ds es : List Dt} {dvs : List V}
theorem made_ownX {x dx : Addr} (o1 : Ow K F B1 as1 M1 H1) (hx : H1 x = none) (hdx : H1 dx = none) (ne : dx ≠ x) :
    Ow K F (upd B1 dx (.own x)) as1 M1 (upd H1 dx (.own x)) ∧ Gr F B1 (upd B1 dx (.own x)) ∧ F x = none ∧ (upd H1 dx (.own x)) x = none ∧ Ow K (upd H1 dx (.own x)) (upd B1 dx (.own x)) [x] [insXM K C []] (upd (upd H1 dx (.own x)) x (.ins C dx [])) := by
  have od := o1.new hdx (.own x)
  have gd := o1.gr hdx (.own x)
  have hx1 : (upd H1 dx (.own x)) x = none := by rw [upd_ne (Ne.symm ne)]; exact hx
  have bx : (upd B1 dx (.own x)) x = none := od.bb.free hx1
  refine ⟨od, gd, od.fb.free hx1, hx1, ⟨fun b u e => ?_, fun b u e => ?_, rfl, by simp, fun b hb => ?_, fun b hb => ?_, fun j b m e1 e2 hm => ?_⟩⟩
  · rw [upd_ne (ne_of_none e hx1)]; exact e
  · rw [upd_ne (ne_of_none e bx)]; exact od.bb b u e
  · obtain rfl : b = x := by simpa using hb
    rw [upd_same]; exact fun z => nomatch z
  · obtain rfl : b = x := by simpa using hb
    exact hx1
  · cases j with
    | zero =>
      obtain rfl : x = b := Option.some.inj e1
      obtain rfl : insXM K C [] = m := Option.some.inj e2
      exact ⟨hx1, bx, mor_insX upd_same rfl⟩
    | succ j => simp at e1
theorem ev_mkD (h : EvA K tr G M (ds.map Sl.d) M1) (hd : ∀ B, RpL K B es dvs) (hR : R (.o 0 :: (ds ++ es).map Sl.d) [insXM K C []] (.d .non) [insXM K C fd]) (hn : (ds ++ es).length + 1 = n) :
    EvE K (tMkD C (SpX K n R RX) dvs E tr) G M (.d (insX K C fd)) M1 := fun F B as σ H ow sl Q q =>
  h F B as σ H ow sl _ fun vs B1 as1 H1 g1 p1 o1 r1 => fun x dx hx hdx ne => by
    obtain ⟨od, gd, fx, hx1, oc⟩ := made_ownX (C := C) o1 hx hdx ne
    have hv : RpL K (upd B1 dx (.own x)) (ds ++ es) (vs ++ dvs) := RpL.append (RpL.mono gd.1 _ _ (SlL.data r1)) (hd _)
    refine ⟨_, _, [x], .o 0 :: (ds ++ es).map Sl.d, [insXM K C []], oc, ⟨.ref x, vs ++ dvs, rfl, ⟨x, rfl, rfl⟩, SlL.of_data hv⟩, by rw [List.length_cons, hv.len]; exact hn, .inl ⟨.d .non, [insXM K C fd], hR, fun v B' as' H' g p o' r' => ⟨r', ?_⟩⟩⟩
    obtain ⟨tl, rfl⟩ := p
    obtain ⟨f0, b0, o, ho, nt, φ⟩ := o'.own 0 x _ rfl rfl (fun z => nomatch z)
    obtain ⟨dx', fs, rfl, hf⟩ := φ B' (Same.refl B')
    obtain ⟨g2, o2⟩ := back0 od g o'
    obtain ⟨g3, o3⟩ := Ow_know o2 ho b0 fx (fun hm => od.al x hm hx1)
    exact q _ _ as1 H' (g1.trans (gd.trans (g2.trans g3))) p1 o3 (insX_of upd_same (hf.mono g3.1))
theorem ex_mkD {N : List MO} (h : EvA K tr G M (ds.map Sl.d) M1) (hd : ∀ B, RpL K B es dvs) (hR : RX (.o 0 :: (ds ++ es).map Sl.d) [insXM K C []] x' N) (hn : (ds ++ es).length + 1 = n) :
    EvX K (tMkD C (SpX K n R RX) dvs (WE W) tr) W G M x' M1 := fun F B as σ H ow sl q Q =>
  h F B as σ H ow sl _ fun vs B1 as1 H1 g1 p1 o1 r1 => fun x dx hx hdx ne => by
    obtain ⟨od, gd, fx, hx1, oc⟩ := made_ownX (C := C) o1 hx hdx ne
    have hv : RpL K (upd B1 dx (.own x)) (ds ++ es) (vs ++ dvs) := RpL.append (RpL.mono gd.1 _ _ (SlL.data r1)) (hd _)
    refine ⟨_, _, [x], .o 0 :: (ds ++ es).map Sl.d, [insXM K C []], oc, ⟨.ref x, vs ++ dvs, rfl, ⟨x, rfl, rfl⟩, SlL.of_data hv⟩, by rw [List.length_cons, hv.len]; exact hn, .inr ⟨x', N, hR, fun cls d B' as' H' g p o' r' => ?_⟩⟩
    obtain ⟨g2, o2⟩ := back0 od g o'
    exact q B' as1 H' cls d (g1.trans (gd.trans g2)) p1 o2 r'
end
end LJ
/-! ### == by a def of the class, of a thing of any kind; isinstance of what is of another kind -/
namespace LJ
open PySem PySem.Spec PyProof.Rows L2 LamX DJ
def rOwnT (K : PySem.W.Frag) (C : Addr) (sp : Sp) (E : XK) : R2 := fun x y H Q => ∃ a dx fs t, x = .ref a ∧ H a = some (.ins C dx fs) ∧ TyX K H y t ∧ PySem.W.notFirst K C t = true ∧ sp [x, y] H Q E
theorem op_ownT {X : Cx} {CX : CXT} {C f : Addr} {fd : FuncData} {ps : List Str} {n : Nat} {sp : Sp} {E : XK} (F : FnOk X.prog X.w X.K X.mg X.base CX n f fd ps sp)
    (hs : PySem.W.findIn X.K (.ref C) "__eq__" = some (some (.ref f))) (hf : PySem.W.isFn X.K (.ref f) = true) (hb : Binds X.K fd ps []) (hr : Room n X.A) (hx : Passes CX X E) : OpR X (compareOp .Eq) (rOwnT X.K C sp E) := by
  intro pins s σ H x y v u Q I rx ry h
  obtain ⟨a, dx, fs, t, rfl, ha, hp, hn, q⟩ := h
  cases (show v = Value.ref a from rx)
  obtain ⟨mA, J, _⟩ := ins_get I.hok ha
  obtain ⟨od, J, _⟩ := J.look
  obtain ⟨m, hF⟩ := I.fr
  show wpAny (model X.prog X.w) X.A (richCompare .Eq (.ref a) u) (EP X pins σ Q) X.xe s
  obtain ⟨Pz, Z, hz, _⟩ := kit_of I ry hp
  have hl : PySem.W.Looks (model X.prog X.w) s.heap (typeOf u) t := Z.ty _ _ I.kIn hz
  refine PySem.W.cmp_K (op := .Eq) (tb := t) hr.units0 hF I.ok.mod.kin J hl hn hs hf ?_
  refine wpAny_mono (run_fn (us := [.ref a, u]) (vs := [.ref a, y]) (ds := []) (dvs := []) F hr hb .nil hx I (.cons rfl (.cons ry .nil)) (by rw [List.append_nil]; exact q)) (fun w s' z => ?_) fun _ _ x => x
  obtain ⟨z', H', I', rz, qz⟩ := z
  exact SlX.cmpback rz ⟨z', H', I', rz, qz⟩
theorem op_oeqT {X : Cx} {k j : Nat} {C : Addr} {sp : Sp} (c : OEq X.prog X.w X.K X.mg X.base k C sp) (hr : Room j X.A) (hk : k ≤ j) : OpR X (compareOp .Eq) (rOwnT X.K C sp L2.E0) := by
  obtain ⟨f, hs, hf, fd, ps, F, b⟩ := c.ex
  exact op_ownT F hs hf b (hr.mono hk) L2.pass0
section
variable {K : PySem.W.Frag} {F B H : Hp} {as : List Addr} {G : List (Option Sl)} {M M1 M2 : List MO} {C : Addr} {fd gd : Fd} {E : XK}
theorem ro_ownT {R : List Sl → List MO → Sl → List MO → Prop} {z y : Dt} {t : String} (k : KT y t) (hn : PySem.W.notFirst K C (.type t) = true) (hR : R [.d (insX K C fd), .d y] [] (.d z) []) : RO K (rOwnT K C (SpR K 2 R) E) (insX K C fd) y z := fun F B as M H v u Q ow rv ru q => by
  obtain ⟨a, dx, fs, rfl, ea, _⟩ := insX_at rv
  refine ⟨a, dx, fs, .type t, rfl, ow.bb _ _ ea, k.at ow ru, hn, ?_⟩
  exact call_core (ds := [insX K C fd, y]) hR rfl ow ⟨_, _, rfl, rv, _, _, rfl, ru, rfl⟩ fun w B' as' H' g o' r' => by
    obtain ⟨g2, o2⟩ := back0 ow g o'
    exact q w B' H' g2 o2 r'
theorem rc_isNC {d : Dt} {t : String} (k : KT d t) (hk : PySem.W.kitOne K (.type t) (.ref C) = some false) : RC K (rIsi K) [d, .raw (.ref C)] (.bl false) := fun F B as M H vs Q ow r q => by
  obtain ⟨v1, rr, e, h1, v2, rr2, e2, h2, h3⟩ := r
  obtain rfl : v2 = V.ref C := h2
  obtain rfl : rr2 = [] := h3
  subst e2; subst e
  exact ⟨_, .ref C, .type t, .ref C, false, rfl, .own C, k.at ow h1, hk, q _ B H (Gr.refl F B) ow rfl⟩
end
end LJ
/-! ### != of an own thing: what object says, by the class's own == -/
namespace PySem.W
open PySem PySem.Spec PySem.Calls PyProof.Rows
section
variable {prog : Program} {w : World} {A : Around} {E : Value → Shared → Prop} {s : Shared} {K : Frag} {x C L f : Addr} {h₀ : Heap} {m : Str → Option Value} {ox : Obj} {od : Option Obj} {b tb : Value}
theorem dj_objNe {Q : Fin → Shared → Prop} (hu : A.units < cLine) (X : K.In s.heap) (I : InstAt s.heap x ox C od) (hs : findIn K (.ref C) "__eq__" = some (some (.ref f))) (hf : isFn K (.ref f) = true)
    (hcall : wpAny (model prog w) A (call (.ref f) [.ref x, b]) (fun v s' => ∃ b, v = .bool b ∧ Q (.done (.ret (.bool (!b)))) s') E s) :
    wpAny (model prog w) A (Builtin.«object.__ne__» ⟨[.ref x, b], []⟩) Q E s := by
  obtain ⟨h, g, d, t, os⟩ := s
  unfold Builtin.«object.__ne__»
  repeat (first
    | with_reducible refine wpAny_cRoomFor hu ?_
    | (refine wpAny_bind (m := callSpecialIfBound? (.ref x) (Str.ofString "__eq__") [b])
        (ifBound_K X I hs hf (wpAny_mono hcall (fun r s' hr => by
          obtain ⟨b, rfl, hq⟩ := hr
          repeat (first | exact hq | exact wpAny_pure hq | exact wpAny_truthy_bool hq | (refine wpAny_bind (m := truthy (.bool _)) (wpAny_truthy_bool ?_)) | wp_step)) fun _ _ e => e)))
    | wp_step)
theorem dj_ne {Q : Value → Shared → Prop} (hu : A.units + 1 < cLine) (F : Fr h₀ L s.heap m) (X₀ : K.In h₀) (I : InstAt s.heap x ox C od) (hb : Looks (model prog w) s.heap (typeOf b) tb) (hn : notFirst K C tb = true)
    (hs : findIn K (.ref C) "__eq__" = some (some (.ref f))) (hf : isFn K (.ref f) = true) (hne : findIn K (.ref C) "__ne__" = some (some (.builtin "object.__ne__"))) (hsub : subIn K (.ref C) (.type "object") = some true)
    (hcall : wpAny (model prog w) A.in1 (call (.ref f) [.ref x, b]) (fun v s' => ∃ b, v = .bool b ∧ Q (.bool (!b)) s') E s) : wpAny (model prog w) A (richCompare .NotEq (.ref x) b) Q E s := by
  have X := X₀.keeps F.keep
  have one : wpAny (model prog w) A (tryCompare (.ref x) "__ne__" b) (fun r s' => ∃ v, r = some v ∧ Q v s') E s := by
    have lT := I.type (M := model prog w)
    have lS : Looks (model prog w) s.heap (isInstance (.ref x) (.type "object")) true := lT.andThen (looks_subIn X hsub)
    have go : wpAny (model prog w) A (call (.builtin "object.__ne__") [.ref x, b]) (fun v s' => ∃ c, v = .bool c ∧ Q (.bool c) s') E s := by
      refine wpAny_call (codeAny_call_builtin PySem.F.slot_object_ne.plain PySem.F.cmpEntry_ne ?_)
      refine check_slot PySem.F.cmpKind_ne PySem.F.cmpSplit_ne lS (PySem.F.cmpArgs_ne _ _) ?_
      refine dj_objNe (A := A.in1) (by exact hu) X I hs hf (wpAny_mono hcall (fun v s' hv => ?_) fun _ _ e => e)
      obtain ⟨b, rfl, hq⟩ := hv
      exact ⟨b, rfl, ⟨_, rfl, hq⟩⟩
    unfold tryCompare
    refine wpAny_bind ?_
    simp only [callSpecialIfBound?, bindSpecialIfBound?]
    refine wpAny_holding (wpAny_bind (wpAny_bind (wpAny_bind (I.type.here ((looks_findIn X hne).here ?_)))))
    refine wpAny_bind (wpAny_askSetting (wpAny_ite ?_))
    have hbind := PySem.F.slot_object_ne.bind (.ref x)
    split
    · rw [hbind]
      refine wpAny_bind (wpAny_pure (wpAny_pure ?_))
      refine wpAny_bind (m := call (.builtin "object.__ne__") ([.ref x] ++ [b])) (wpAny_mono go (fun v s' h' => ?_) fun _ _ e => e)
      obtain ⟨c, rfl, hq⟩ := h'
      exact wpAny_pure (wpAny_pure ⟨_, rfl, hq⟩)
    · rw [hbind]
      refine wpAny_tryCatch (wpAny_bind (wpAny_pure (wpAny_pure ?_)))
      refine wpAny_bind (m := call (.builtin "object.__ne__") ([.ref x] ++ [b])) (wpAny_mono go (fun v s' h' => ?_) fun _ _ e => e)
      obtain ⟨c, rfl, hq⟩ := h'
      exact wpAny_pure (wpAny_pure ⟨_, rfl, hq⟩)
  unfold richCompare
  simp only [oneThing_ref]
  refine wpAny_holding (wpAny_bind (wpAny_cRoomFor (Nat.lt_of_succ_lt hu) ?_))
  refine wpAny_bind (I.type.here (wpAny_bind (hb.here ?_)))
  split
  · rename_i q
    have e : subIn K tb (.ref C) = some false := by
      rcases Bool.or_eq_true_iff.mp hn with e | e
      · rw [beq_iff_eq.mp e] at q; simp at q
      · exact beq_iff_eq.mp e
    refine wpAny_bind ((looks_subIn X e).here ?_)
    simp only [Bool.false_eq_true, if_false]
    refine wpAny_bind (wpAny_mono one (fun r s' z => ?_) fun _ _ e => e)
    obtain ⟨v, rfl, hq⟩ := z
    exact wpAny_pure hq
  · refine wpAny_bind (wpAny_pure ?_)
    simp only [Bool.false_eq_true, if_false]
    refine wpAny_bind (wpAny_mono one (fun r s' z => ?_) fun _ _ e => e)
    obtain ⟨v, rfl, hq⟩ := z
    exact wpAny_pure hq
end
end PySem.W
namespace LJ
open PySem PySem.Spec PyProof.Rows L2 LamX DJ
def rNeT (K : PySem.W.Frag) (C : Addr) (sp : Sp) (E : XK) : R2 := fun x y H Q => ∃ a dx fs t, x = .ref a ∧ H a = some (.ins C dx fs) ∧ TyX K H y t ∧ PySem.W.notFirst K C t = true ∧ sp [x, y] H (fun v H' => ∃ b, v = .bl b ∧ Q (.bl (!b)) H') E
theorem op_neT {X : Cx} {CX : CXT} {C f : Addr} {fd : FuncData} {ps : List Str} {n : Nat} {sp : Sp} {E : XK} (F : FnOk X.prog X.w X.K X.mg X.base CX n f fd ps sp)
    (hs : PySem.W.findIn X.K (.ref C) "__eq__" = some (some (.ref f))) (hf : PySem.W.isFn X.K (.ref f) = true) (hne : PySem.W.findIn X.K (.ref C) "__ne__" = some (some (.builtin "object.__ne__"))) (hsub : PySem.W.subIn X.K (.ref C) (.type "object") = some true)
    (hb : Binds X.K fd ps []) (hr : Room (n + 1) X.A) (hx : Passes CX X E) : OpR X (compareOp .NotEq) (rNeT X.K C sp E) := by
  intro pins s σ H x y v u Q I rx ry h
  obtain ⟨a, dx, fs, t, rfl, ha, hp, hn, q⟩ := h
  cases (show v = Value.ref a from rx)
  obtain ⟨mA, J, _⟩ := ins_get I.hok ha
  obtain ⟨od, J, _⟩ := J.look
  obtain ⟨m, hF⟩ := I.fr
  show wpAny (model X.prog X.w) X.A (richCompare .NotEq (.ref a) u) (EP X pins σ Q) X.xe s
  obtain ⟨Pz, Z, hz, _⟩ := kit_of I ry hp
  have hl : PySem.W.Looks (model X.prog X.w) s.heap (typeOf u) t := Z.ty _ _ I.kIn hz
  refine PySem.W.dj_ne hr.in1.units0 hF I.ok.mod.kin J hl hn hs hf hne hsub ?_
  have r2 : Vals [V.ref a, y] [Value.ref a, u] := .cons rfl (.cons ry .nil)
  have hlen : ([Value.ref a, u] ++ []).length = ps.length := by
    have := F.len _ _ _ _ q
    rw [← this] <;> rfl
  refine wpAny_call (codeAny_mono (F.run X.A.in1 X.stack s H ⟨[.ref a, u], []⟩ ([.ref a, u] ++ []) [.ref a, y] _ E hr.in1 I.env0.in1 (hb s [.ref a, u] I.kIn hlen) r2 q) fun r s' hq => ?_)
  cases r with
  | error e => exact hx pins σ H s e s' I hq
  | ok fl =>
    cases fl with
    | ret u2 =>
      obtain ⟨z', H', I', rz, b, rfl, qz⟩ := I.after hq
      cases (show u2 = Value.bool b from rz)
      exact ⟨b, rfl, .bl (!b), H', I', rfl, qz⟩
    | next => exact False.elim hq
    | brk => exact False.elim hq
    | cont => exact False.elim hq
theorem op_oneT {X : Cx} {k j : Nat} {C : Addr} {sp : Sp} (c : OEq X.prog X.w X.K X.mg X.base k C sp) (hne : PySem.W.findIn X.K (.ref C) "__ne__" = some (some (.builtin "object.__ne__"))) (hsub : PySem.W.subIn X.K (.ref C) (.type "object") = some true) (hr : Room j X.A) (hk : k + 1 ≤ j) : OpR X (compareOp .NotEq) (rNeT X.K C sp L2.E0) := by
  obtain ⟨f, hs, hf, fd, ps, F, b⟩ := c.ex
  exact op_neT F hs hf hne hsub b (hr.mono hk) L2.pass0
section
variable {K : PySem.W.Frag} {F B H : Hp} {as : List Addr} {M : List MO} {C : Addr} {fd gd : Fd} {E : XK}
theorem ro_neT {R : List Sl → List MO → Sl → List MO → Prop} {b : Bool} {y : Dt} {t : String} (k : KT y t) (hn : PySem.W.notFirst K C (.type t) = true) (hR : R [.d (insX K C fd), .d y] [] (.d (.bl b)) []) : RO K (rNeT K C (SpR K 2 R) E) (insX K C fd) y (.bl (!b)) := fun F B as M H v u Q ow rv ru q => by
  obtain ⟨a, dx, fs, rfl, ea, _⟩ := insX_at rv
  refine ⟨a, dx, fs, .type t, rfl, ow.bb _ _ ea, k.at ow ru, hn, ?_⟩
  exact call_core (ds := [insX K C fd, y]) hR rfl ow ⟨_, _, rfl, rv, _, _, rfl, ru, rfl⟩ fun w B' as' H' g o' r' => by
    obtain ⟨g2, o2⟩ := back0 ow g o'
    obtain rfl : w = V.bl b := r'
    exact ⟨b, rfl, q _ B' H' g2 o2 rfl⟩
/-- .. of another of the class -/
theorem ro_neX {R : List Sl → List MO → Sl → List MO → Prop} {b : Bool} (c : C8.InsC K C) (hn : PySem.W.notFirst K C (.ref C) = true) (hR : R [.d (insX K C fd), .d (insX K C gd)] [] (.d (.bl b)) []) : RO K (rNeT K C (SpR K 2 R) E) (insX K C fd) (insX K C gd) (.bl (!b)) := fun F B as M H v u Q ow rv ru q => by
  obtain ⟨a, dx, fs, rfl, ea, _⟩ := insX_at rv
  obtain ⟨a2, dy, gs, rfl, eb, _⟩ := insX_at ru
  refine ⟨a, dx, fs, .ref C, rfl, ow.bb _ _ ea, .base (TyOf.ins (ow.bb _ _ eb) c.cl c.ha c.hn c.htk c.hm), hn, ?_⟩
  exact call_core (ds := [insX K C fd, insX K C gd]) hR rfl ow ⟨_, _, rfl, rv, _, _, rfl, ru, rfl⟩ fun w B' as' H' g o' r' => by
    obtain ⟨g2, o2⟩ := back0 ow g o'
    obtain rfl : w = V.bl b := r'
    exact ⟨b, rfl, q _ B' H' g2 o2 rfl⟩
end
end LJ
/-! ### (x,) * n, n up to 100,000 -/
namespace LJ
open PySem PySem.Spec PyProof.Rows L2 LamX DJ
def rRep1 (K : PySem.W.Frag) : R2 := fun x y H Q => ∃ l v, ∃ n : Nat, x = .ref l ∧ y = .int n ∧ SqT K H l [v] ∧ 2 ≤ n ∧ n ≤ 100000 ∧ ∀ p, H p = none → Q (.ref p) (upd H p (.tup (List.replicate n v)))
theorem rep_one {α : Type} (a : α) (n : Nat) : (List.replicate n [a]).flatten = List.replicate n a := by
  induction n with
  | zero => rfl
  | succ n ih => rw [List.replicate_succ, List.flatten_cons, ih, List.replicate_succ] <;> rfl
theorem vals_rep1 {v : V} {u : Value} (r : RelV v u) (n : Nat) : Vals (List.replicate n v) (List.replicate n u) := by
  induction n with
  | zero => exact .nil
  | succ n ih => rw [List.replicate_succ, List.replicate_succ]; exact .cons r ih
theorem op_rep1 {X : Cx} : OpR X (binaryOp .Mult) (rRep1 X.K) := by
  intro pins s σ H x y v u Q I rx ry h
  obtain ⟨l, w, n, rfl, rfl, hT, n1, n2, q⟩ := h
  cases (show v = Value.ref l from rx)
  obtain ⟨tk, rfl⟩ := (show ∃ t, u = Value.int (n : Nat) t from ry)
  obtain ⟨its, r, ⟨⟨cl, di, da, sls⟩, ho, hc, m, hd⟩, hs⟩ := I.tuple hT
  simp only at hc hd
  subst hc hd
  obtain ⟨z, rfl, rz⟩ : ∃ z, its = [z] ∧ RelV w z := by
    cases r with
    | cons r1 r2 =>
      cases r2 with
      | nil => exact ⟨_, rfl, r1⟩
  have d0 : (decide ((n : Int) < -(2 ^ 63)) || decide ((n : Int) ≥ 2 ^ 63)) = false := by rw [decide_eq_false (by omega), decide_eq_false (by omega)] <;> rfl
  have d1 : ([z].toArray.isEmpty || (n : Int) == 1) = false := by
    show (false || _) = false
    rw [Bool.false_or, beq_eq_false_iff_ne.mpr (by omega)]
  have d2 : (decide ((n : Int) ≤ 0) || [z].toArray.isEmpty) = false := by
    show (_ || false) = false
    rw [Bool.or_false, decide_eq_false (by omega)]
  have one : (([z].toArray.size : Nat) : Int) = 1 := rfl
  have d4 : Builtin.Tuple.tupleTooMany ((([z].toArray.size : Nat) : Int) * n) = false := by
    rw [one, Int.one_mul]
    unfold Builtin.Tuple.tupleTooMany
    rw [sizeLine_eq, decide_eq_false (by omega)]
  have ef : (List.replicate n [z]).flatten = List.replicate n z := rep_one z n
  have eN : ((n : Int)).toNat = n := Int.toNat_natCast n
  have at_ : ∀ s', Shared.TypeIs s' (Value.int (n : Int) tk) "int" := fun s' => typeIs_int s' _ tk
  refine wpAny_binaryOp_repeat_ref (T := "tuple") (U := "int") (by decide) ⟨_, ho, rfl⟩ at_ noFill_tuple_mul F.fills_int_mul F.slot_int_rmul repeat_tuple F.slot_int_index.lookup ?_
  refine call_meets F.slot_int_rmul (at_ s) F.entry_int_rmul (F.args_int_rmul_2 _ _) (int_rmul_tuple _ tk l [z].toArray m di sls) ?_
  refine ⟨ho, rfl, ⟨_, ho, rfl⟩, ?_⟩
  have big : ¬ ((([z].toArray.size : Nat) : Int) * n > (2 ^ 63 - 1) / 8) := by rw [one, Int.one_mul]; omega
  have fit : (List.foldl (fun x1 x2 => x1 ++ x2) #[] (List.replicate (n : Int).toNat [z].toArray)).size ≤ sizeLine := by
    rw [size_rep, eN, ef, List.size_toArray, List.length_replicate, sizeLine_eq]
    omega
  refine call_meets F.slot_tuple_mul ⟨_, ho, rfl⟩ F.entry_tuple_mul (F.args_tuple_mul_2 _ _) (tuple_mulW l [z].toArray m di sls _ tk d0 d1 d2 big d4 fit) ⟨ho, ?_⟩
  rw [size_rep, eN, ef]
  have new := q s.heap.objs.size (I.hok.fresh (Nat.le_refl _))
  refine ⟨.ref s.heap.objs.size, upd H s.heap.objs.size (.tup (List.replicate n w)), I.laid (t' := s.toks) (fun c o e => Heap.get?_push_of_some _ e) (Nat.le_refl _) ?_, rfl, new⟩
  exact ⟨by rw [List.length_replicate, sizeLine_eq]; omega, List.replicate n z, vals_rep1 rz n, IsTup.new _ _⟩
end LJ
namespace DJ
open PySem PySem.Spec PyProof.Rows L2
theorem RpL.rep1 {K : PySem.W.Frag} {B : Hp} {x : Dt} {v : V} (h : Rp K B x v) (n : Nat) : RpL K B (List.replicate n x) (List.replicate n v) := by
  induction n with
  | zero => exact rfl
  | succ n ih =>
    rw [List.replicate_succ, List.replicate_succ]
    exact ⟨v, _, rfl, h, ih⟩
theorem ro_rep1 {K : PySem.W.Frag} {x : Dt} {n : Nat} (h1 : 2 ≤ n) (h2 : n ≤ 100000) : RO K (LJ.rRep1 K) (.tup [x]) (.int n) (.tup (List.replicate n x)) := fun F B as M H v u Q ow r1 r2 q => by
  obtain ⟨a, vs, e1, hq, hr⟩ := r1
  obtain rfl : u = .int n := r2
  subst e1
  obtain ⟨w, rest, e, hw, hz⟩ := hr
  have hz : rest = [] := hz
  subst hz
  subst e
  refine ⟨a, w, n, rfl, rfl, same_t ow.bb hq, h1, h2, fun p hp => ?_⟩
  have g := ow.gr hp (.tup (List.replicate n w))
  exact q _ _ _ g (ow.new hp _) ⟨p, _, rfl, .inl (.inl upd_same), RpL.rep1 (Rp.mono g.1 _ _ hw) n⟩
end DJ
namespace LJ
open PySem PySem.Spec PyProof.Rows L2 LamX DJ
/-- an own thing is neither of two kinds -/
theorem rc_isTX {K : PySem.W.Frag} {C : Addr} {fd : Fd} {n m : String} (c : C8.InsC K C) (k1 : PySem.W.kitOne K (.ref C) (.type n) = some false) (k2 : PySem.W.kitOne K (.ref C) (.type m) = some false) : RC K (rIsiT K) [insX K C fd, tupX K [.raw (.ty n), .raw (.ty m)]] (.bl false) := fun F B as M H vs Q ow r q => by
  obtain ⟨v, r1, e1, hv, u, r2, e2, hu, e3⟩ := r
  have e3 : r2 = [] := e3
  subst e3; subst e2; subst e1
  obtain ⟨a, dx, fs, rfl, ea, _⟩ := insX_at hv
  obtain ⟨p, us, rfl, hp, hus⟩ := hu B (Same.refl B)
  obtain ⟨x1, y1, f1, g1, x2, y2, f2, g2, f3⟩ := hus
  have g1 : x1 = V.ty n := g1
  have g2 : x2 = V.ty m := g2
  have f3 : y2 = [] := f3
  subst f3; subst f2; subst f1; subst g1; subst g2
  refine ⟨.ref a, p, _, .ref C, [.type n, .type m], false, rfl, ow.bb _ _ hp, .cons (.ty n) (.cons (.ty m) .nil), .base (TyOf.ins (ow.bb _ _ ea) c.cl c.ha c.hn c.htk c.hm), ?_, q _ B H (Gr.refl F B) ow rfl⟩
  show (match PySem.W.kitOne K (.ref C) (.type n) with
    | some true => some true
    | some false => (match PySem.W.kitOne K (.ref C) (.type m) with
      | some true => some true
      | some false => some false
      | none => none)
    | none => none) = _
  rw [k1, k2]
end LJ
namespace LJ
open PySem PySem.Spec PyProof.Rows L2 LamX DJ
/-! ### try: told = ask(); return .. / except C as e: ..; what ask does may change what is owned -/
def TToldS (K : PySem.W.Frag) (q : Str) (C : Addr) (fld : Str) (okr okz : Dt → Dt → Prop) : (XK → Hp → VK → Prop) → Addr → List V → Hp → VK → Prop := fun tl c' vs H Q =>
  H c' = some (CodeO c' q) ∧ vs = [] ∧ ∃ F B as M M', Ow K F B as M H ∧ M'.length = M.length ∧
    ((∃ z z', okr z z' ∧ (∀ (E : XK) (Q' : VK), (∀ v B' H', Gr F B B' → Ow K F B' as M' H' → Rp K B' z v → Q' v H') → tl E H Q') ∧ ∀ v B' H', Gr F B B' → Ow K F B' as M' H' → Rp K B' z' v → Q v H') ∨
    (∃ y z, okz y z ∧ (∀ (E : XK) (Q' : VK), (∀ cls d B' H', Gr F B B' → Ow K F B' as M' H' → XR K B' ⟨.ref C, some (fld, y)⟩ cls d → E cls d H') → tl E H Q') ∧ ∀ v B' H', Gr F B B' → Ow K F B' as M' H' → Rp K B' z v → Q v H'))
theorem px_same {as as' : List Addr} (p : Px as as') (h : as'.length = as.length) : as' = as := by
  obtain ⟨tl, rfl⟩ := p
  rw [List.length_append] at h
  have : tl = [] := List.eq_nil_of_length_eq_zero (by omega)
  rw [this, List.append_nil]
section
variable {K : PySem.W.Frag} {G : List (Option Sl)} {M M' : List MO}
theorem ev_toldS {q : Str} {P C : Addr} {fld : Str} {kT : Nat} {okr okz : Dt → Dt → Prop} {t : XK → TE} {at_ : Pos} {z : Dt} (hT : M[kT]? = some (tabM P q)) (hl : M'.length = M.length)
    (h : (∃ x, okr x z ∧ ∀ E : XK, EvE K (t E) G M (.d x) M') ∨ (∃ y, okz y z ∧ ∀ E : XK, EvX K (t E) (fun cls d _ H => E cls d H) G M ⟨.ref C, some (fld, y)⟩ M')) :
    EvE K (tLamG q P at_ (TToldS K q C fld okr okz) tNil t) G M (.d z) M' := fun F B as σ H ow sl Q qq => by
  have hk : kT < as.length := by rw [ow.len]; exact (List.getElem?_eq_some_iff.mp hT).1
  obtain ⟨a, ea⟩ : ∃ a, as[kT]? = some a := ⟨_, List.getElem?_eq_getElem hk⟩
  obtain ⟨fa, ba, o, ho, nt, hφ⟩ := ow.own kT a _ ea hT tab_gone
  obtain ⟨rfl, ps, rfl, hb⟩ := hφ B (Same.refl B)
  refine ⟨ps, ho, hb.mono ow.bb, fun c' H1 st => ?_⟩
  have nx : ∃ B1, Gr F B B1 ∧ Ow K F B1 as M H1 ∧ B1 c' = some (CodeO c' q) := by
    cases st with
    | hit h1 h2 =>
      obtain ⟨c, e1, e2⟩ := hb.2 at_ _ h2
      cases e1
      exact ⟨B, Gr.refl F B, ow, e2⟩
    | new h1 =>
      have g1 := ow.gr h1 (CodeO c' q)
      have o1 := ow.new h1 (CodeO c' q)
      refine ⟨_, g1, ?_, upd_same⟩
      have hs : M.set kT (tabM a q) = M := by
        refine List.ext_getElem? fun j => ?_
        by_cases e : kT = j
        · subst e
          rw [List.getElem?_set_self (List.getElem?_eq_some_iff.mp hT).1, hT]
        · rw [List.getElem?_set_ne e]
      have key : TbK q (upd B c' (CodeO c' q)) (ps ++ #[rawInt at_.line, rawInt at_.col, .ref c']) := by
        have eL : (ps ++ #[rawInt at_.line, rawInt at_.col, .ref c']).toList = ps.toList ++ [rawInt at_.line, rawInt at_.col, .ref c'] := by simp
        refine ⟨by rw [eL]; exact PySem.TriplesOk_snoc _ _ _ _ hb.1, fun p u k => ?_⟩
        rw [eL] at k
        rcases among_app _ hb.1 k with k | k
        · obtain ⟨c, e1, e2⟩ := hb.2 p u k
          exact ⟨c, e1, g1.1 _ _ e2⟩
        · exact ⟨c', k, upd_same⟩
      have o2 := o1.put (k := kT) (a := a) (m' := tabM a q) (o := .tbl (ps ++ #[rawInt at_.line, rawInt at_.col, .ref c'])) ea hT tab_gone ⟨_, upd_same, (fun _ z => nomatch z), fun B' e => ⟨rfl, _, rfl, key.mono e⟩⟩
      rw [hs] at o2
      have ne : a ≠ c' := fun e => by rw [e, h1] at ho; cases ho
      have eh : upd (upd H c' (CodeO c' q)) a (.tbl (ps ++ #[rawInt at_.line, rawInt at_.col, .ref c'])) = upd (upd H a (.tbl (ps ++ #[rawInt at_.line, rawInt at_.col, .ref c']))) c' (CodeO c' q) := by
        funext b
        by_cases e1 : b = a
        · rw [e1, upd_same, upd_ne ne, upd_same]
        · by_cases e2 : b = c'
          · rw [e2, upd_ne (fun z => ne z.symm), upd_same, upd_same]
          · rw [upd_ne e1, upd_ne e2, upd_ne e2, upd_ne e1]
      rw [eh] at o2
      exact o2
  obtain ⟨B1, g1, o1, b1⟩ := nx
  have sl1 := sl.mono g1.1 (Px.refl as)
  show TToldS K q C fld okr okz _ c' [] H1 Q
  have al : ∀ {as' : List Addr} {B' H'}, Ow K F B' as' M' H' → Px as as' → as' = as := fun o p => px_same p (by rw [o.len, hl, ow.len])
  refine ⟨o1.bb _ _ b1, rfl, F, B1, as, M, M', o1, hl, ?_⟩
  rcases h with ⟨x, hx, h⟩ | ⟨y, hy, h⟩
  · exact .inl ⟨x, z, hx, fun E Q' q' => h E F B1 as σ H1 o1 sl1 Q' fun v B3 as3 H3 g3 p3 o3 r3 => q' v B3 H3 g3 (by have e := al o3 p3; rw [e] at o3; exact o3) r3, fun v B' H' g' o' r' => qq v B' as H' (g1.trans g') (Px.refl as) o' r'⟩
  · exact .inr ⟨y, z, hy, fun E Q' q' => h E F B1 as σ H1 o1 sl1 (fun B3 as3 H3 cls d g3 p3 o3 r3 => q' cls d B3 H3 g3 (by have e := al o3 p3; rw [e] at o3; exact o3) r3) Q', fun v B' H' g' o' r' => qq v B' as H' (g1.trans g') (Px.refl as) o' r'⟩
end
/-- said's own body: try: told = a(); return .. / except C as e: suite (told in slot 1, e in slot 2) -/
theorem told_givesS {X : Cx} {Ng : List Str} {x a e q fld : Str} {sg : Scope} {g C : Addr} {cdg : Value} {p1 p2 p4 p7 p8 : Pos} {b0 : Stmt} {suite body : List Stmt} {tre : TE} {ts : Addr → Value → Option Addr → TS} {okr okz : Dt → Dt → Prop} {nm : Str}
    (hge : sg.names.lookup e = some .globalImplicit) (hme : X.mg e = some (.ref C)) (hde : (e == ("__debug__" : Str)) = false) (hNd : Ng.Nodup) (hi : Ng[2]? = some nm) (hln : sg.names.lookup nm = some .local) (hl : Ng.length = 3)
    (te : PySem.W.exmOne X.K (.ref C) (.ref C) = some true)
    (hb : ∀ (A : Around) (s : Shared) (H : Hp) (W : WX) (pn : List (Addr × Obj)) (xe : Value → Shared → Prop) (tE : TE), Takes ((cxOf CX0 X.prog X.w X.K X.mg X.base Ng x sg g cdg X.A X.stack s H E0).tr pn xe) W → PE ((cxOf CX0 X.prog X.w X.K X.mg X.base Ng x sg g cdg X.A X.stack s H E0).tr pn xe) (.Call (.Name a p1) [] [] p2) tE →
      PSs ((cxOf CX0 X.prog X.w X.K X.mg X.base Ng x sg g cdg X.A X.stack s H E0).tr pn xe) body (tSeq (tAsg tE (gName 1)) (tRet tre)))
    (hsu : ∀ (A : Around) (s : Shared) (H : Hp) (a : Addr) (oe : Obj) (cls : Value) (d : Option Addr) (pn : List (Addr × Obj)), Zc cls d oe → (∃ vs, oe.data = .fields vs) → PSs ((cxOf CX0 X.prog X.w X.K X.mg X.base Ng x sg g cdg X.A X.stack s H E0).suite a ((a, oe) :: pn)) (b0 :: suite) (ts a cls d))
    (hrt : ∀ z z' : Dt, okr z z' → ∀ (fv : V) M, EvE X.K tre [some (.d (.raw fv)), some (.d z), none] M (.d z') M)
    (hst : ∀ y z : Dt, okz y z → ∀ (fv : V) a d M, EvS X.K (ts a (.ref C) d) [some (.d (.raw fv)), none, some (.d (XfR X.K a d fld y))] M (.rt (.d z) M)) :
    GivesG X Ng x sg g cdg [.Try body [.ExceptHandler (some (.Name e p4)) (some nm) (b0 :: suite) p7] [] [] p8] a q (TToldS X.K q C fld okr okz) := by
  intro f c' s H Q vs tl act tt
  obtain ⟨hc, rfl, F, B, as, M, M', ow, hlM, tt⟩ := tt
  have e1 : L2.start Ng [V.ref f] = [some (V.ref f), none, none] := by
    unfold L2.start
    rw [hl]
    rfl
  have al : ∀ {as' : List Addr} {B' H'}, Ow X.K F B' as' M' H' → Px as as' → as' = as := fun o p => px_same p (by rw [o.len, hlM, ow.len])
  have sl0 : ∀ B : Hp, Slt X.K B as [some (.d (.raw (.ref f))), none, none] [some (V.ref f), none, none] := fun B => ⟨rfl, fun i s q => by
    match i with
    | 0 => cases q; exact ⟨_, rfl, rfl⟩
    | 1 => cases q
    | 2 => cases q
    | n + 3 => cases q⟩
  refine ⟨_, pss_one (ps_try_as (X := cxOf CX0 X.prog X.w X.K X.mg X.base Ng x sg g cdg X.A X.stack s H E0) (i := 2) (c := .ref C) (ts := ts) (Wout := fun _ _ _ _ => False)
    (tb := fun W => tSeq (tAsg (fun σ H Q => ∃ E : XK, σ[0]? = some (some (.ref f)) ∧ H c' = some (CodeO c' q) ∧ (∀ cls d H', E cls d H' → W cls d σ H') ∧ tl E H Q) (gName 1)) (tRet tre)) rfl rfl hNd hi hln ⟨hge, hde, .inl hme⟩ L2.takes0 (fun W pn xe tk _ => hb X.A s H W pn xe _ tk ⟨fun pins s' σ H' Q' I h' => ?_⟩) (fun a oe cls d pn hz hf => hsu X.A s H a oe cls d pn hz hf)), ?_⟩
  · obtain ⟨E, w1, w2, w3, w4⟩ := h'
    exact (act W pn xe E p1 p2 tk).run pins s' σ H' Q' I ⟨w1, w2, w3, w4⟩
  · refine ⟨fun cls d H' => wAs X.K (.ref C) 2 ts (fun _ _ _ _ => False) _ cls d _ H', by rw [e1] <;> rfl, hc, fun _ _ _ z => z, ?_⟩
    rcases tt with ⟨z, z', hz, h1, h2⟩ | ⟨y, z, hy, h1, h2⟩
    · refine h1 _ _ fun v B' H' g o' r => ?_
      have key := (sl0 B').set 1 (s := .d z) (v := v) r
      rw [e1]
      exact hrt z z' hz (.ref f) M' F B' as _ H' o' key _ fun v' B2 as2 H2 g2 p2 o2 r2 => h2 v' B2 H2 (g.trans g2) (by have e := al o2 p2; rw [e] at o2; exact o2) r2
    · refine h1 _ _ fun cls d B' H' g o' r => ?_
      obtain ⟨rfl, dd, v, ed, eb, rv⟩ := r
      refine ⟨true, te, fun _ a na => ?_, fun z => nomatch z⟩
      have key := (sl0 B').set 2 (s := .d (XfR X.K a d fld y)) (v := .ref a) (fun H2 sm => ⟨rfl, dd, v, ed, sm _ _ eb, Rp.mono sm _ _ rv⟩)
      rw [e1]
      exact hst y z hy (.ref f) a d M' F B' as _ H' o' key _ fun v' B2 as2 H2 g2 p2 o2 r2 => h2 v' B2 H2 (g.trans g2) (by have e := al o2 p2; rw [e] at o2; exact o2) r2
/-- the law's promise from the tables that it owns -/
theorem sp_ofTs {K : PySem.W.Frag} {R : List Sl → List MO → Sl → List MO → Prop} {H : Hp} {a : Addr} {ts : List (Addr × Str)} {ns : List Int} {E : XK} (hP : ∀ t ∈ ts, H t.1 = some (.tbl #[])) (nd : (ts.map Prod.fst).Nodup) (hS : SqL K H a (ns.map V.int))
    (hR : R [.d (.lst (ns.map .int))] (ts.map fun t => tabM t.1 t.2) (.d (.bl true)) (ts.map fun t => tabM t.1 t.2)) : SpR K 1 R [.ref a] H (fun v _ => v = .bl true) E := by
  obtain ⟨B, hB⟩ : ∃ B : Hp, B = fun b => if b ∈ ts.map Prod.fst then none else H b := ⟨_, rfl⟩
  have inB : ∀ b, b ∈ ts.map Prod.fst → B b = none := fun b h => by rw [hB]; exact if_pos h
  have ofB : ∀ b, b ∉ ts.map Prod.fst → B b = H b := fun b h => by rw [hB]; exact if_neg h
  have same : Same B H := fun b o e => by
    by_cases z : b ∈ ts.map Prod.fst
    · rw [inB b z] at e; cases e
    · rwa [ofB b z] at e
  have hS' : SqL K B a (ns.map V.int) := by
    rcases hS with h | h
    · have ne : a ∉ ts.map Prod.fst := fun z => by
        obtain ⟨t, ht, rfl⟩ := List.mem_map.mp z
        rcases h with h | ⟨o, h⟩ <;> rw [hP t ht] at h <;> cases h
      exact .inl (h.imp (fun h => by rwa [ofB a ne]) fun ⟨o, h⟩ => ⟨o, by rwa [ofB a ne]⟩)
    · exact .inr h
  have ri : ∀ ns : List Int, RpL K B (ns.map Dt.int) (ns.map V.int) := fun ns => by
    induction ns with
    | nil => rfl
    | cons n ns ih => exact ⟨_, _, rfl, rfl, ih⟩
  refine ⟨fun _ => none, B, ts.map Prod.fst, _, ts.map fun t => tabM t.1 t.2, _, ts.map fun t => tabM t.1 t.2, hR, ⟨fun _ _ e => (nomatch e), same, by rw [List.length_map, List.length_map], nd, fun b hb => ?_, fun _ _ => rfl, fun k b m e1 e2 _ => ?_⟩, ⟨.ref a, [], rfl, ⟨a, _, rfl, hS', ri ns⟩, rfl⟩, rfl, fun v B' as' H' _ _ _ r => r⟩
  · obtain ⟨t, ht, rfl⟩ := List.mem_map.mp hb
    rw [hP t ht]; exact fun z => nomatch z
  · rw [List.getElem?_map] at e1 e2
    cases ek : ts[k]? with
    | none => rw [ek] at e1; cases e1
    | some t =>
      rw [ek] at e1 e2
      cases e1; cases e2
      have ht := List.mem_of_getElem? ek
      exact ⟨rfl, inB _ (List.mem_map.mpr ⟨t, ht, rfl⟩), _, hP t ht, (fun _ z => nomatch z), (fun B' _ => ⟨rfl, _, rfl, trivial, (fun p u z => nomatch z)⟩)⟩
end LJ
/-! ### owned lists that are handed to a class; a list turned round in place; a dict as a thing of another kind -/
namespace LJ
open PySem PySem.Spec PyProof.Rows L2 LamX DJ
theorem Ow.letgo {K : PySem.W.Frag} {F B H : Hp} {as tl : List Addr} {M X : List MO} (o' : Ow K F B (as ++ tl) (M ++ X) H) (hl : as.length = M.length) : Ow K F B as M H := by
  have up : ∀ {α : Type} {l m : List α} {k : Nat} {a : α}, l[k]? = some a → (l ++ m)[k]? = some a := fun e => by
    rw [List.getElem?_append_left (List.getElem?_eq_some_iff.mp e).1]; exact e
  exact ⟨o'.fb, o'.bb, hl, (List.nodup_append.mp o'.nd).1, fun a ha => o'.al a (List.mem_append_left _ ha), fun a ha => o'.fa a (List.mem_append_left _ ha), fun k a m e1 e2 hm => o'.own k a m (up e1) (up e2) hm⟩
theorem sll_app {K : PySem.W.Frag} {B : Hp} {as : List Addr} : ∀ {ss ts : List Sl} {vs us : List V}, SlL K B as ss vs → SlL K B as ts us → SlL K B as (ss ++ ts) (vs ++ us)
  | [], ts, vs, us, h, h2 => by
    obtain rfl : vs = [] := h
    exact h2
  | s :: ss, ts, vs, us, h, h2 => by
    obtain ⟨v, r, rfl, h1, h3⟩ := h
    exact ⟨v, r ++ us, rfl, h1, sll_app h3 h2⟩
section
variable {K : PySem.W.Frag} {F B H : Hp} {as : List Addr} {G G1 : List (Option Sl)} {M M1 M2 : List MO} {te td ty to tk tv : TE} {ta tr : TA} {x y : Dt} {k : Nat} {n : Int} {xs : List Dt}
/-- xs.reverse() -/
theorem ev_revO (ho : EvE K to G M (.o k) M1) (hm : M1[k]? = some (.lst xs)) : EvE K (tBM0 K "list" rReverse to) G M (.d .non) (M1.set k (.lst xs.reverse)) := fun F B as σ H ow sl Q q =>
  ho F B as σ H ow sl _ fun w B1 as1 H1 g1 p1 o1 r1 => by
    obtain ⟨a, ha, rfl⟩ := r1
    obtain ⟨_, _, vs, hv, hr⟩ := o1.own k a _ ha hm (fun z => nomatch z)
    exact ⟨.inl ⟨rfl, _, .inl (.inl hv)⟩, a, vs, rfl, rfl, hv, q .non B1 as1 _ g1 p1 (o1.put ha hm (fun z => nomatch z) ⟨_, upd_same, hr.reverse⟩) rfl⟩
/-- list(xs), as data -/
theorem ev_listD (h : EvA K tr G M [.d (.lst xs)] M1) : EvE K (tCB (fun xs H Q => ∃ p ys, xs = [.ref p] ∧ (SqL K H p ys ∨ SqT K H p ys) ∧ ∀ l, H l = none → Q (.ref l) (upd H l (.lst ys))) tr) G M (.d (lstX K xs)) M1 := fun F B as σ H ow sl Q q =>
  h F B as σ H ow sl _ fun vs B1 as1 H1 g1 p1 o1 r1 => by
    obtain ⟨u, r, e, ⟨a, us, eu, hq, hr⟩, e2⟩ := r1
    have e2 : r = [] := e2
    subst e2; subst eu; subst e
    refine ⟨a, us, rfl, .inl (o1.bb.seq hq), fun p hp => ?_⟩
    exact q _ _ as1 _ (g1.trans (o1.gr hp _)) p1 (o1.new hp _) fun H' s => ⟨p, us, rfl, s _ _ upd_same, RpL.mono ((o1.gr hp _).1.trans s) _ _ hr⟩
/-- isinstance(xs, (n, m)), xs owned -/
theorem ev_isTO {n m : String} {b1 b2 : Bool} (h : EvA K tr G M [.o k, .d (tupX K [.raw (.ty n), .raw (.ty m)])] M1) (hm : M1[k]? = some (.lst xs)) (h1 : kitB "list" n = some b1) (h2 : kitB "list" m = some b2) : EvE K (tCB (rIsiT K) tr) G M (.d (.bl (b1 || b2))) M1 := fun F B as σ H ow sl Q q =>
  h F B as σ H ow sl _ fun vs B1 as1 H1 g1 p1 o1 r => by
    obtain ⟨v, r1, e1, ⟨a, ha, rfl⟩, w, r2, e2, hw, e3⟩ := r
    have e3 : r2 = [] := e3
    subst e3; subst e2; subst e1
    obtain ⟨_, _, ls, hv, hr⟩ := o1.own k a _ ha hm (fun z => nomatch z)
    obtain ⟨p, us, rfl, hp, hu⟩ := hw B1 (Same.refl B1)
    obtain ⟨x1, y1, f1, g1', x2, y2, f2, g2, f3⟩ := hu
    have g1' : x1 = V.ty n := g1'
    have g2 : x2 = V.ty m := g2
    have f3 : y2 = [] := f3
    subst f3; subst f2; subst f1; subst g1'; subst g2
    refine ⟨.ref a, p, _, _, [.type n, .type m], b1 || b2, rfl, o1.bb _ _ hp, .cons (.ty n) (.cons (.ty m) .nil), .base (.lst hv), ?_, q _ B1 as1 H1 g1 p1 o1 rfl⟩
    have k1 : PySem.W.kitOne K (.type "list") (.type n) = some b1 := kit_ty h1
    have k2 : PySem.W.kitOne K (.type "list") (.type m) = some b2 := kit_ty h2
    show (match PySem.W.kitOne K (.type "list") (.type n) with
      | some true => some true
      | some false => (match PySem.W.kitOne K (.type "list") (.type m) with
        | some true => some true
        | some false => some false
        | none => none)
      | none => none) = _
    rw [k1, k2]
    cases b1 <;> cases b2 <;> rfl
/-- tuple(xs), xs owned -/
theorem ev_tupOfO (h : EvA K tr G M [.o k] M1) (hm : M1[k]? = some (.lst xs)) : EvE K (tCB (fun xs H Q => ∃ p ys, xs = [.ref p] ∧ ((SqL K H p ys ∧ ∀ l, H l = none → Q (.ref l) (upd H l (.tup ys))) ∨ (SqT K H p ys ∧ Q (.ref p) H))) tr) G M (.d (.tup xs)) M1 := fun F B as σ H ow sl Q q =>
  h F B as σ H ow sl _ fun vs B1 as1 H1 g1 p1 o1 r => by
    obtain ⟨v, r1, e1, ⟨a, ha, rfl⟩, e3⟩ := r
    have e3 : r1 = [] := e3
    subst e3; subst e1
    obtain ⟨_, _, ls, hv, hr⟩ := o1.own k a _ ha hm (fun z => nomatch z)
    refine ⟨a, ls, rfl, .inl ⟨.inl (.inl hv), fun l hl => ?_⟩⟩
    exact q _ _ as1 _ (g1.trans (o1.gr hl _)) p1 (o1.new hl _) ⟨l, ls, rfl, .inl (.inl upd_same), RpL.mono (o1.gr hl _).1 _ _ hr⟩
/-- for i, x in enumerate(xs), xs owned; a turn changes nothing -/
theorem es_forEO {g : TG} {tb : TS} (h : EvA K ta G M [.o k] M) (hm : M[k]? = some (.lst xs)) (turn : ∀ (i : Nat) x, xs[i]? = some x → ∃ G1, EvG K g G (.d (.tup [.int (i : Nat), x])) G1 ∧ EvS K tb G1 M (.nx G M)) : EvS K (tFor (iEnum K ta) g tb) G M (.nx G M) := fun F B as σ H ow sl D gd => by
  refine h F B as σ H ow sl _ fun vs B1 as1 H1 g1 p1 o1 r => ?_
  obtain ⟨v, r1, e1, ⟨a, ha, rfl⟩, e3⟩ := r
  have e3 : r1 = [] := e3
  subst e3; subst e1
  have at_ : ∀ {B' H'} {as' : List Addr}, Px as1 as' → Ow K F B' as' M H' → ∃ ls, H' a = some (.lst ls) ∧ RpL K B' xs ls := fun p o => by
    obtain ⟨tl, rfl⟩ := p
    obtain ⟨_, _, ls, hv, hr⟩ := o.own k a _ (by rw [List.getElem?_append_left (List.getElem?_eq_some_iff.mp ha).1]; exact ha) hm (fun z => nomatch z)
    exact ⟨ls, hv, hr⟩
  obtain ⟨ls, hv, hr⟩ := at_ (Px.refl as1) o1
  refine ⟨a, ls, rfl, .inl (.inl hv), fun i m σ' H' => ∃ B' as', m = xs.length - i ∧ i ≤ xs.length ∧ Gr F B1 B' ∧ Px as1 as' ∧ Ow K F B' as' M H' ∧ Slt K B' as' G σ', ⟨xs.length, B1, as1, by simp, Nat.zero_le _, Gr.refl F B1, Px.refl as1, o1, sl.mono g1.1 p1⟩, fun i m σ' H' w => ?_⟩
  obtain ⟨B', as', rfl, hi, g', p', o', s'⟩ := w
  obtain ⟨us, hu, ru⟩ := at_ p' o'
  have sq : SqL K H' a us := .inl (.inl hu)
  by_cases hlt : i < xs.length
  · obtain ⟨v, hvi, rvi⟩ := ru.get (List.getElem?_eq_getElem hlt)
    refine .inr ⟨⟨us, v, sq, hvi⟩, fun σ2 H2 => ∃ B' as', i + 1 ≤ xs.length ∧ Gr F B1 B' ∧ Px as1 as' ∧ Ow K F B' as' M H2 ∧ Slt K B' as' G σ2, fun σ2 H2 n2 => ?_, fun w H2 yl => ?_⟩
    · obtain ⟨B2, as2, q1, q3, q4, q5, q6⟩ := n2
      exact ⟨xs.length - (i + 1), by omega, B2, as2, rfl, q1, q3, q4, q5, q6⟩
    · obtain ⟨T, u, rfl, hT, rfl, hu2⟩ := yl
      have e2 : v = u := Option.some.inj (hvi.symm.trans (hu2 us sq))
      subst e2
      have hg := o'.gr hT (.tup [.int (i : Nat), v])
      obtain ⟨G1, hG, ht⟩ := turn i xs[i] (List.getElem?_eq_getElem hlt)
      refine hG F _ as' M σ' _ (.ref T) (o'.new hT _) (s'.mono hg.1 (Px.refl as')) ⟨T, _, rfl, .inl (.inl upd_same), _, _, rfl, rfl, _, _, rfl, Rp.mono hg.1 _ _ rvi, rfl⟩ _ fun B3 as3 σ3 H3 g3 p3 o3 s3 => ?_
      exact ht F B3 as3 σ3 H3 o3 s3 _ fun B4 as4 σ4 H4 g4 p4 o4 s4 => ⟨B4, as4, hlt, g'.trans (hg.trans (g3.trans g4)), p'.trans (p3.trans p4), o4, s4⟩
  · have e : i = xs.length := by omega
    subst e
    exact .inl ⟨⟨us, sq, by rw [ru.len]; exact Nat.le_refl _⟩, gd B' as' σ' H' (g1.trans g') (p1.trans p') o' s'⟩
/-- C(..), all that is owned handed on -/
theorem ev_mkDA {C : Addr} {fd : Fd} {E : L2.St → XK} {n : Nat} {R : List Sl → List MO → Sl → List MO → Prop} {RX : List Sl → List MO → Ex → List MO → Prop} {ss : List Sl} {es : List Dt} {dvs : List V} (h : EvA K tr G M ss M1) (hd : ∀ B, RpL K B es dvs) (hR : R (.o M1.length :: (ss ++ es.map Sl.d)) (M1 ++ [insXM K C []]) (.d .non) (M1 ++ [insXM K C fd])) (hn : (ss.length + es.length) + 1 = n) :
    EvE K (tMkD C (SpX K n R RX) dvs E tr) G M (.d (insX K C fd)) M1 := fun F B as σ H ow sl Q q =>
  h F B as σ H ow sl _ fun vs B1 as1 H1 g1 p1 o1 r1 => fun x dx hx hdx ne => by
    have od := o1.new hdx (.own x)
    have gd := o1.gr hdx (.own x)
    have hx1 : (upd H1 dx (.own x)) x = none := by rw [upd_ne (Ne.symm ne)]; exact hx
    have oc := od.newO (o := .ins C dx []) (m := insXM K C []) hx1 (mor_insX upd_same rfl)
    have len1 : as1.length = M1.length := o1.len
    have self : SlR K (upd B1 dx (.own x)) (as1 ++ [x]) (.o M1.length) (.ref x) := ⟨x, by rw [← len1, List.getElem?_append_right (Nat.le_refl _), Nat.sub_self] <;> rfl, rfl⟩
    have hv : SlL K (upd B1 dx (.own x)) (as1 ++ [x]) (.o M1.length :: (ss ++ es.map Sl.d)) (.ref x :: (vs ++ dvs)) := ⟨.ref x, vs ++ dvs, rfl, self, sll_app (SlL.mono gd.1 ⟨[x], rfl⟩ r1) (SlL.of_data (hd _))⟩
    refine ⟨F, _, as1 ++ [x], _, M1 ++ [insXM K C []], oc, hv, by rw [List.length_cons, List.length_append, r1.len, (hd B1).len]; exact hn, .inl ⟨.d .non, M1 ++ [insXM K C fd], hR, fun v B' as' H' g p o' r' => ⟨r', ?_⟩⟩⟩
    obtain ⟨tl, rfl⟩ := p
    have hk : (M1 ++ [insXM K C fd])[M1.length]? = some (insXM K C fd) := by rw [List.getElem?_append_right (Nat.le_refl _), Nat.sub_self] <;> rfl
    have hk2 : (as1 ++ [x] ++ tl)[M1.length]? = some x := by rw [List.append_assoc, ← len1, List.getElem?_append_right (Nat.le_refl _), Nat.sub_self] <;> rfl
    obtain ⟨f0, b0, o, ho, nt, φ⟩ := o'.own M1.length x _ hk2 hk (fun z => nomatch z)
    obtain ⟨dx', fs, rfl, hf⟩ := φ B' (Same.refl B')
    have nd := o'.nd
    rw [List.append_assoc] at nd o'
    have o2 := Ow.letgo o' len1
    have nx : x ∉ as1 := fun z => (List.nodup_append.mp nd).2.2 x z x (by simp) rfl
    obtain ⟨g3, o3⟩ := Ow_know o2 ho b0 f0 nx
    exact q _ _ as1 H' (g1.trans (gd.trans (g.trans g3))) p1 o3 (insX_of upd_same (hf.mono g3.1))
/-! ### a dict that is only a thing of another kind -/
def dicE : Dt := .ext fun H v => ∃ a kvs, v = .ref a ∧ H a = some (.dK kvs)
theorem ev_disp1E (hk : EvE K tk G M (.d (.int n)) M) (hv : EvE K tv G M (.d y) M) : EvE K (tDisp [(tk, tv)]) G M (.d dicE) M := fun F B as σ H ow sl Q q p hp => by
  obtain ⟨f1, f2, _⟩ := ow.fresh hp
  refine hk (upd F p (.dK [])) B as σ _ (ow.frame hp _) sl _ fun u B1 as1 H1 g1 p1 o1 r1 => hv _ B1 as1 σ H1 o1 (sl.mono g1.1 p1) _ fun w B2 as2 H2 g2 p2 o2 r2 => ?_
  obtain rfl : u = .int n := r1
  have gg := g1.trans g2
  have b2 : B2 p = none := gg.2 p (by rw [upd_same]; exact ⟨fun z => (nomatch z), fun _ z => (nomatch z)⟩) f2
  refine ⟨o2.fb p _ upd_same, [(Sum.inl n, w)], rfl, show 1 ≤ 15 by decide, ?_⟩
  have o3 := o2.side_own (o' := .dK (mergeK [] [(Sum.inl n, w)])) (m := .hob (.dK (mergeK [] [(Sum.inl n, w)]))) f1 b2 ⟨upd_same, fun _ z => (nomatch z)⟩
  have e1 : (as2 ++ [p])[M.length]? = some p := by rw [← o2.len, List.getElem?_append_right (Nat.le_refl _), Nat.sub_self] <;> rfl
  have e2 : (M ++ [MO.hob (.dK (mergeK [] [(Sum.inl n, w)]))])[M.length]? = some (.hob (.dK (mergeK [] [(Sum.inl n, w)]))) := by rw [List.getElem?_append_right (Nat.le_refl _), Nat.sub_self] <;> rfl
  obtain ⟨g4, o4⟩ := o3.freezeO e1 e2
  rw [List.set_append_right _ _ (Nat.le_refl _)] at o4
  have o5 := Ow.letgo o4 o2.len
  exact q _ _ as2 _ ((Gr.of_sideK (D := p) (o := .dK []) (fun _ z => (nomatch z)) gg).trans g4) (p1.trans p2) o5 fun H' s => ⟨p, _, rfl, s _ _ upd_same⟩
theorem rc_isTE {n m : String} {b1 b2 : Bool} (h1 : kitB "dict" n = some b1) (h2 : kitB "dict" m = some b2) : RC K (rIsiT K) [dicE, tupX K [.raw (.ty n), .raw (.ty m)]] (.bl (b1 || b2)) := fun F B as M H vs Q ow r q => by
  obtain ⟨v, r1, e1, hv, w, r2, e2, hw, e3⟩ := r
  have e3 : r2 = [] := e3
  subst e3; subst e2; subst e1
  obtain ⟨a, kvs, rfl, ha⟩ := hv B (Same.refl B)
  obtain ⟨p, us, rfl, hp, hu⟩ := hw B (Same.refl B)
  obtain ⟨x1, y1, f1, g1, x2, y2, f2, g2, f3⟩ := hu
  have g1 : x1 = V.ty n := g1
  have g2 : x2 = V.ty m := g2
  have f3 : y2 = [] := f3
  subst f3; subst f2; subst f1; subst g1; subst g2
  refine ⟨.ref a, p, _, _, [.type n, .type m], b1 || b2, rfl, ow.bb _ _ hp, .cons (.ty n) (.cons (.ty m) .nil), .base (.dK (ow.bb _ _ ha)), ?_, q _ B H (Gr.refl F B) ow rfl⟩
  have k1 : PySem.W.kitOne K (.type "dict") (.type n) = some b1 := kit_ty h1
  have k2 : PySem.W.kitOne K (.type "dict") (.type m) = some b2 := kit_ty h2
  show (match PySem.W.kitOne K (.type "dict") (.type n) with
    | some true => some true
    | some false => (match PySem.W.kitOne K (.type "dict") (.type m) with
      | some true => some true
      | some false => some false
      | none => none)
    | none => none) = _
  rw [k1, k2]
  cases b1 <;> cases b2 <;> rfl
/-- isinstance(e, t), e a caught error, t a built-in kind -/
theorem rc_isXT {D a : Addr} {dd : Option Addr} {f : Str} {y : Dt} {n : String} {b : Bool} (hk : PySem.W.kitOne K (.ref D) (.type n) = some b) : RC K (rIsX K D a (.ref D) dd) [XfR K a dd f y, .raw (.ty n)] (.bl b) := fun F B as M H vs Q ow r q => by
  obtain ⟨v, r1, e1, hv, w, r2, e2, hw, e3⟩ := r
  have e3 : r2 = [] := e3
  have hw : w = V.ty n := hw
  subst e3; subst e2; subst e1; subst hw
  obtain ⟨rfl, d2, u, ed, eb, _⟩ := hv B (Same.refl B)
  exact ⟨_, .type n, b, d2, _, rfl, rfl, ed, ow.bb _ _ eb, fun u ru => ru, hk, q _ B H (Gr.refl F B) ow rfl⟩
end
end LJ
/-! ### several clauses `except C as e:` -/
namespace LJ
open PySem PySem.Spec PyProof.Rows L2 LamX DJ
abbrev Hs1 := Value × Nat × (Addr → Value → Option Addr → TS)
/-- what each clause says; the last word is the way out -/
def wAsN (K : PySem.W.Frag) (Wout : WX) (D : Ends) : List Hs1 → WX
  | [] => Wout
  | h :: l => wAs K h.1 h.2.1 h.2.2 (wAsN K Wout D l) D
inductive HdsAs (X : Cx) : List ExceptHandler → List Hs1 → Prop where
  | nil : HdsAs X [] []
  | cons {x n : Str} {c : Value} {i : Nat} {b0 : Stmt} {suite : List Stmt} {np pos' : Pos} {ts : Addr → Value → Option Addr → TS} {hds : List ExceptHandler} {l : List Hs1} (hc : Names X x c) (hi : X.N[i]? = some n) (hln : X.env.kindOf n = some .local)
      (hsu : ∀ (a : Addr) (oe : Obj) (cls : Value) (d : Option Addr) (pn : List (Addr × Obj)), Zc cls d oe → (∃ vs, oe.data = .fields vs) → PSs (X.suite a ((a, oe) :: pn)) (b0 :: suite) (ts a cls d)) (rest : HdsAs X hds l) :
      HdsAs X (.ExceptHandler (some (.Name x np)) (some n) (b0 :: suite) pos' :: hds) ((c, i, ts) :: l)
section
variable {X : Cx}
theorem handled_as {hds : List ExceptHandler} {l : List Hs1} {Wout : WX} {D : Ends} {pins : List (Addr × Obj)} {σ : L2.St} {H : Hp} {sI s3 : Shared} {B : Heap} {a : Addr} {cls : Value} {d : Option Addr} (ok : X.Ok) (hs : X.stack = X.env :: X.outer) (hf : X.env.frame = some X.env.locals) (hN : X.N.Nodup) (tk : Takes X Wout)
    (J : Inv X pins σ H sI) (nb : ∀ b o, sI.heap.get? b = some o → b ∉ frs X.stack → B.get? b = some o) (up : sI.heap.UpToSlots s3.heap) (os : s3.os = sI.os) (ag : AllBare s3.gens) (fl : PySem.HandSPX.FlyingZ B (X.env :: X.outer) a (Zc cls d) s3.heap) (na : H a = none)
    (hh : HdsAs X hds l) (w : wAsN X.K Wout D l cls d σ H) : wpAny (model X.prog X.w) X.A (handleBy (.ref a) X.env hds) (SP X pins D) X.xe s3 := by
  induction hh with
  | nil =>
    refine wpAny_handleBy_nil ?_
    obtain ⟨k1, k2, k3, oe, vs, T, oT, tsv, he, hz, hd, h1, hrest⟩ := id fl
    have nn : ((Value.ref T) == Value.none) = false := rfl
    unfold PySem.passOn
    refine wpAny_bind (wpAny_field he hd h1 ?_)
    rw [if_neg (by rw [nn]; exact Bool.false_ne_true)]
    refine wpAny_bind ?_
    rw [hf]
    refine PySem.HandSPX.setFlight_upZ (L := X.env.locals) fl fun h4 hh4 up4 => wpAny_throw (tk _ _ ⟨a, B, sI, pins, σ, H, cls, d, rfl, J, nb, up.trans up4, ?_, na, os, ag, w⟩)
    rw [hs]
    exact .inr (.inr hh4)
  | @cons x n c i b0 suite np pos' ts hds l hc hi hln hsu rest ih =>
    obtain ⟨b, hb, hyes, hno⟩ := w
    obtain ⟨oe, vs, he, hz, hd⟩ := fl.there
    have J3 : Inv X pins σ H s3 := Inv.landed J nb fl.1 up os ag
    have nfr : ∀ {h : Heap} {o : Obj} {vs : Array Value}, h.FunFrames B (X.env :: X.outer) → h.get? a = some o → o.data = .fields vs → a ∉ frs (X.env :: X.outer) := fun ff e dd hm => by
      obtain ⟨_, o', e', hnf⟩ := ff.mem hm
      rw [e] at e'
      cases e'
      exact hnf _ dd
    have nf3 := nfr fl.2.2.1 he hd
    have nL : a ≠ X.env.locals := fun z => nf3 (List.mem_filterMap.mpr ⟨X.env, List.mem_cons_self, by rw [hf, z]⟩)
    have nF : a ∉ X.fs := fun hm => by
      obtain ⟨e, h1, h2⟩ := List.mem_filterMap.mp hm
      exact nf3 (List.mem_filterMap.mpr ⟨e, List.mem_cons_of_mem _ h1, h2⟩)
    have S3 := Inv.suite J3 he hd na nL nF
    have LT : PySem.W.Looks (model X.prog X.w) s3.heap (typeOf (.ref a)) cls := fun A Q E s k q => wpAny_typeOf_ref (k a oe he) (by rw [hz.1]; exact q)
    have LM := PySem.W.exm_one (c := c) J3.kIn LT hb
    have test : ∀ {Q E : Value → Shared → Prop}, Q c s3 → wpAny (model X.prog X.w) (X.A.mark (some (.ref a))) (eval (.Name x np) X.env) Q E s3 := fun q => by
      obtain ⟨hg, hdbg, h | ⟨h1, h2, h3⟩⟩ := hc
      · exact ld_glob (X := X.suite a ((a, oe) :: (X.pn ++ pins))) S3 hg h q hdbg
      · exact ld_blt (X := X.suite a ((a, oe) :: (X.pn ++ pins))) S3 hg h1 h2 q h3 hdbg
    refine wpAny_handleBy_cons (codeAny_handlers_test (test (LM.here ?_))) (fun z => by cases z)
    cases b with
    | false => exact ih (hno rfl)
    | true =>
      refine codeAny_handlers_suite_as (PySem.HandSPX.lands_againZ fl fun h4 fl4 up4 => ?_)
      have J4 : Inv X pins σ H { heap := h4, gens := s3.gens, drawn := s3.drawn, toks := s3.toks, os := s3.os } := Inv.landed J nb fl4.1 (up.trans up4) os ag
      obtain ⟨oe4, vs4, he4, hz4, hd4⟩ := fl4.there
      have S4 := Inv.suite J4 he4 hd4 na nL nF
      refine store_ok (X := X.suite a ((a, oe4) :: (X.pn ++ pins))) S4 hN hi (Or.inl hln) (v := .ref a) rfl (fun s5 S5 => ?_) (Or.inr hln)
      refine wpAny_mono ((hsu a oe4 cls d (X.pn ++ pins) hz4 ⟨vs4, hd4⟩).run [] s5 _ H _ S5 (hyes rfl a na)) (fun f s6 hsp => ?_) (fun _ _ z => z.elim)
      have end_ : ∀ {σ6 : L2.St} {H6 : Hp} {Q : Shared → Prop}, Inv (X.suite a ((a, oe4) :: (X.pn ++ pins))) [] σ6 H6 s6 → (∀ s7, Inv X pins (σ6.set i none) H6 s7 → Q s7) → wpAny (model X.prog X.w) X.A (do
          bindName X.env n Value.none
          unbindBehindTheSuite X.env n pos') (fun _ s7 => Q s7) X.xe s6 := fun S6 hq => gone_ok (S6.unsuite ok) hN hi hln hq
      cases f with
      | next =>
        obtain ⟨σ6, H6, S6, q⟩ := hsp
        exact end_ S6 fun s7 J7 => ⟨_, H6, J7, q⟩
      | brk =>
        obtain ⟨σ6, H6, S6, q⟩ := hsp
        exact end_ S6 fun s7 J7 => ⟨_, H6, J7, q⟩
      | cont =>
        obtain ⟨σ6, H6, S6, q⟩ := hsp
        exact end_ S6 fun s7 J7 => ⟨_, H6, J7, q⟩
      | ret u =>
        obtain ⟨v, σ6, H6, S6, rv, q⟩ := hsp
        exact end_ S6 fun s7 J7 => ⟨v, _, H6, J7, rv, q⟩
theorem ps_try_asN {body : List Stmt} {h0 : ExceptHandler} {hds : List ExceptHandler} {l : List Hs1} {pos : Pos} {tb : WX → TS} {Wout : WX} (hs : X.stack = X.env :: X.outer) (hf : X.env.frame = some X.env.locals) (hN : X.N.Nodup) (tk : Takes X Wout)
    (hb : ∀ (W : WX) (pn : List (Addr × Obj)) (xe : Value → Shared → Prop), Takes (X.tr pn xe) W → PassesOwn (model X.prog X.w) X.A X.env xe → PSs (X.tr pn xe) body (tb W)) (hh : HdsAs X (h0 :: hds) l) :
    PS X (.Try body (h0 :: hds) [] [] pos) (fun D σ H => tb (wAsN X.K Wout D l) D σ H) := by
  refine ⟨fun pins s σ H D I h => ?_⟩
  have ok := I.ok
  have hfr : X.A.frames = some (X.env :: X.outer) := by rw [ok.frames, hs]
  refine wpAny_Try_except (wpAny_mono ((hb (wAsN X.K Wout D l) (X.pn ++ pins) (fun e s1 => wpAny (model X.prog X.w) X.A (noteFrame e X.env) (fun _ s2 => wpAny (model X.prog X.w) X.A (setFlight e none) (fun _ s3 => wpAny (model X.prog X.w) X.A (handleBy e X.env (h0 :: hds)) (SP X pins D) X.xe s3) X.xe s2) X.xe s1) (fun u s' xx => ?_) PassesOwn.looking).run [] s σ H D (I.toTry _) h) (fun f s1 hsp => ?_) fun _ _ z => z)
  · obtain ⟨a, B, sI, pins1, σ1, H1, cls, d, rfl, J', nb, up, sky, na, os, ag, w⟩ := xx
    have J := J'.ofTry ok
    rw [show (X.tr (X.pn ++ pins) _).stack = X.env :: X.outer from hs] at sky
    refine Sky.land Zc.steady hfr hf sky fun h3 fl3 up3 => ?_
    exact handled_as (s3 := { heap := h3, gens := s'.gens, drawn := s'.drawn, toks := s'.toks, os := s'.os }) ok hs hf hN tk J nb (up.trans up3) os ag fl3 na hh w
  · cases f with
    | next =>
      obtain ⟨σ6, H6, J', q⟩ := hsp
      exact wpAny_execs_nil ⟨σ6, H6, J'.ofTry ok, q⟩
    | brk =>
      obtain ⟨σ6, H6, J', q⟩ := hsp
      exact ⟨σ6, H6, J'.ofTry ok, q⟩
    | cont =>
      obtain ⟨σ6, H6, J', q⟩ := hsp
      exact ⟨σ6, H6, J'.ofTry ok, q⟩
    | ret u =>
      obtain ⟨v, σ6, H6, J', rv, q⟩ := hsp
      exact ⟨v, σ6, H6, J'.ofTry ok, rv, q⟩
end
end LJ
namespace LJ
open PySem PySem.Spec PyProof.Rows L2 LamX DJ
/-! ### == and != of data that is nested deeper -/
def rEqW (K : PySem.W.Frag) : R2 := fun x y H Q => ∃ d e, Dp K H x d ∧ Dp K H y e ∧ d.canLay0 = true ∧ e.canLay0 = true ∧ min d.depth e.depth ≤ 180 ∧ Q (.bl (d.eqv e)) H
def rNeW (K : PySem.W.Frag) : R2 := fun x y H Q => ∃ d e, Dp K H x d ∧ Dp K H y e ∧ d.canLay0 = true ∧ e.canLay0 = true ∧ min d.depth e.depth ≤ 180 ∧ Q (.bl (!d.eqv e)) H
theorem room180 {k : Nat} {A : Around} (h : Room k A) : A.units + 180 < cLine := by have := h.un; omega
section
variable {X : Cx}
theorem op_eqW (hu : X.A.units + 180 < cLine) : OpR X (compareOp .Eq) (rEqW X.K) := by
  intro pins s σ H x y v u Q I rx ry h
  obtain ⟨d, e, h1, h2, l1, l2, hm, q⟩ := h
  obtain ⟨as, r1⟩ := Dp.reads I d x v h1 rx
  obtain ⟨bs, r2⟩ := Dp.reads I e y u h2 ry
  exact SeqAt.compareEq_reads r1 r2 l1 l2 (by omega) ⟨.bl _, H, I, rfl, q⟩
theorem op_neW (hu : X.A.units + 180 < cLine) : OpR X (compareOp .NotEq) (rNeW X.K) := by
  intro pins s σ H x y v u Q I rx ry h
  obtain ⟨d, e, h1, h2, l1, l2, hm, q⟩ := h
  obtain ⟨as, r1⟩ := Dp.reads I d x v h1 rx
  obtain ⟨bs, r2⟩ := Dp.reads I e y u h2 ry
  exact SeqAt.compareNe_reads r1 r2 l1 l2 (by omega) ⟨.bl _, H, I, rfl, q⟩
end
section
variable {K : PySem.W.Frag} {d e : Dt}
theorem ro_eqW (h1 : plD d = true) (h2 : plD e = true) (n : min (dpD d) (dpD e) ≤ 180) : RO K (rEqW K) d e (.bl (eqD d e)) := fun F B as M H v u Q ow r1 r2 q =>
  ⟨_, _, dp_of d v h1 (Rp.mono ow.bb _ _ r1), dp_of e u h2 (Rp.mono ow.bb _ _ r2), (lay_of d h1).1, (lay_of e h2).1, by rw [(lay_of d h1).2, (lay_of e h2).2]; exact n, q _ B H (Gr.refl F B) ow rfl⟩
theorem ro_neW (h1 : plD d = true) (h2 : plD e = true) (n : min (dpD d) (dpD e) ≤ 180) : RO K (rNeW K) d e (.bl (!eqD d e)) := fun F B as M H v u Q ow r1 r2 q =>
  ⟨_, _, dp_of d v h1 (Rp.mono ow.bb _ _ r1), dp_of e u h2 (Rp.mono ow.bb _ _ r2), (lay_of d h1).1, (lay_of e h2).1, by rw [(lay_of d h1).2, (lay_of e h2).2]; exact n, q _ B H (Gr.refl F B) ow rfl⟩
theorem ro_eqWS (h1 : plD d = true) (n : dpD d ≤ 180) : RO K (rEqW K) d d (.bl true) := by
  have := ro_eqW (K := K) h1 h1 (by omega)
  rw [eqD_self d h1] at this
  exact this
theorem ro_neWS (h1 : plD d = true) (n : dpD d ≤ 180) : RO K (rNeW K) d d (.bl false) := by
  have := ro_neW (K := K) h1 h1 (by omega)
  rw [eqD_self d h1] at this
  exact this
end
/-! ### repr of things of many kinds, where no guard is up -/
inductive RpV (K : PySem.W.Frag) (H : Hp) : V → Str → Prop where
  | non : RpV K H .non "None"
  | bl (b : Bool) : RpV K H (.bl b) (if b = true then "True" else "False")
  | int (i : Int) (h : i.natAbs.log2 < 1920) : RpV K H (.int i) (Str.ofString (toString i))
  | str (x : Str) (h : (reprText x).length ≤ sizeLine) : RpV K H (.str x) (reprText x)
  | dat {a : Addr} {d : PyData} (hd : Dp K H (.ref a) d) (h1 : d.showable = true) (h2 : d.canLay0 = true) (h3 : d.depth ≤ 64) (h4 : d.shown.length ≤ sizeLine) : RpV K H (.ref a) d.shown
  | dic {a : Addr} (h : H a = some (.dK [])) : RpV K H (.ref a) "{}"
def rReprA (K : PySem.W.Frag) : List V → Hp → VK → Prop := fun xs H Q => ∃ x z, xs = [x] ∧ RpV K H x z ∧ Q (.str z) H
theorem call_reprA {X : Cx} (hg : X.A.guards = some []) (hu : X.A.units + 66 < cLine) : CallR X (.builtin "repr") (rReprA X.K) := by
  intro pins s σ H xs us Q I r h
  obtain ⟨x, z, rfl, hz, q⟩ := h
  obtain ⟨u, rfl, ru⟩ := vals1 r
  cases hz with
  | non =>
    cases ru
    exact PySem.P.repr_of_none ⟨.str _, H, I.tok _, ⟨_, rfl⟩, q⟩
  | bl b =>
    cases ru
    exact PySem.P.repr_of_bool ⟨.str _, H, I.tok _, ⟨_, rfl⟩, q⟩
  | int i hi =>
    obtain ⟨t, rfl⟩ := (show ∃ t, u = Value.int i t from ru)
    exact PySem.P.repr_of_int hi ⟨.str _, H, I.tok _, ⟨_, rfl⟩, q⟩
  | str y hy =>
    obtain ⟨t, rfl⟩ := (show ∃ t, u = Value.str y t from ru)
    exact PySem.P.repr_of_str ⟨.str _, H, I.tok _, ⟨_, rfl⟩, q⟩ hy
  | @dat a d hd h1 h2 h3 h4 =>
    obtain ⟨as, hr⟩ := Dp.reads I d (.ref a) u hd ru
    cases ru
    exact repr_of_reads' hr h1 (PyData.noDict_hsm (PyData.hasDict_of_canLay d h2)) hg (by omega) (fun _ _ e => e) (fun h' u tk hk => ⟨.str _, H, I.kept hk, ⟨u, rfl⟩, q⟩) h4
  | @dic a ha =>
    cases ru
    obtain ⟨na, vs, kv, o, es, ep, ho, ex, hd, _, pr, _⟩ := (show ¬ a = sysModules ∧ ∃ vs, KV [] vs ∧ Heap.DictOf (mixKind X.prog X.w) s.heap a vs from by
      have := I.hok a _ ha
      unfold ObjOk at this
      simpa using this)
    cases kv
    have ee : es.toList = [] := by cases hl : es.toList with
      | nil => rfl
      | cons z zs => rw [hl] at pr; cases pr
    have hr : Reads s.heap (.ref a) (.dict []) (a :: [] ++ []) := Reads.dict ho ex.1 hd (by rw [ee]; exact .nil) (by rw [ee]; exact .nil)
    exact repr_of_reads' hr rfl (fun _ hm => na (by
      have hm : sysModules ∈ [a] := by rw [List.append_nil] at hm; exact hm
      exact (List.mem_singleton.mp hm).symm)) hg (by show _ + (1 + 1) < _; omega) (fun _ _ e => e) (fun h' u tk hk => ⟨.str _, H, I.kept hk, ⟨u, rfl⟩, q⟩) (by decide)
/-- how data is shown -/
inductive RpD : Dt → List Nat → Prop where
  | non : RpD .non [78, 111, 110, 101]
  | bl (b : Bool) : RpD (.bl b) (boolL b)
  | int (i : Int) (l : List Nat) (h : i.natAbs.log2 < 1920) (e : Str.ofString (toString i) = tx l) : RpD (.int i) l
  | str (x l : List Nat) (e : reprText (tx x) = tx l) (h : l.length ≤ 1000) : RpD (.str x) l
  | lst (xs : List Dt) (l : List Nat) (hp : plD (.lst xs) = true) (h1 : (toP (.lst xs)).showable = true) (h3 : dpD (.lst xs) ≤ 64) (e : (toP (.lst xs)).shown = tx l) (h : l.length ≤ 1000) : RpD (.lst xs) l
  | tup (xs : List Dt) (l : List Nat) (hp : plD (.tup xs) = true) (h1 : (toP (.tup xs)).showable = true) (h3 : dpD (.tup xs) ≤ 64) (e : (toP (.tup xs)).shown = tx l) (h : l.length ≤ 1000) : RpD (.tup xs) l
  | dic : RpD dic0 [123, 125]
theorem RpD.v {K : PySem.W.Frag} {d : Dt} {l : List Nat} (h : RpD d l) {F B : Hp} {as : List Addr} {M : List MO} {H : Hp} {v : V} (ow : Ow K F B as M H) (r : Rp K B d v) : RpV K H v (tx l) := by
  have small : ∀ {l : List Nat}, l.length ≤ 1000 → (tx l).length ≤ sizeLine := fun hl => by rw [tx_len]; exact Nat.le_trans hl (by decide)
  cases h with
  | non => cases (show v = .non from r); exact .non
  | bl b =>
    cases (show v = .bl b from r)
    have := RpV.bl (K := K) (H := H) b
    cases b <;> exact this
  | int i l hi e => cases (show v = .int i from r); rw [← e]; exact .int i hi
  | str x l e hl => cases (show v = .str (tx x) from r); rw [← e]; exact .str _ (by rw [e]; exact small hl)
  | lst xs l hp h1 h3 e hl =>
    have r2 := Rp.mono ow.bb _ _ r
    obtain ⟨a, vs, rfl, _⟩ := r
    obtain ⟨l1, l2⟩ := lay_of _ hp
    rw [← e]
    exact .dat (dp_of _ _ hp r2) h1 l1 (by rw [l2]; exact h3) (by rw [e]; exact small hl)
  | tup xs l hp h1 h3 e hl =>
    have r2 := Rp.mono ow.bb _ _ r
    obtain ⟨a, vs, rfl, _⟩ := r
    obtain ⟨l1, l2⟩ := lay_of _ hp
    rw [← e]
    exact .dat (dp_of _ _ hp r2) h1 l1 (by rw [l2]; exact h3) (by rw [e]; exact small hl)
  | dic =>
    obtain ⟨a, rfl, ha⟩ := r B (Same.refl B)
    exact .dic (ow.bb _ _ ha)
theorem rc_reprA {K : PySem.W.Frag} {d : Dt} {l : List Nat} (h : RpD d l) : RC K (rReprA K) [d] (.str l) := fun F B as M H vs Q ow r q => by
  obtain ⟨v, r1, e, hv, h5⟩ := r
  have h5 : r1 = [] := h5
  subst h5; subst e
  exact ⟨v, _, rfl, h.v ow hv, q _ B H (Gr.refl F B) ow rfl⟩
end LJ
namespace LJ
open PySem PySem.Spec PyProof.Rows L2 LamX DJ
/-! ### try: return (c, ask()) / except C1 as e: .. / except C2 as e: .. -/
def TTold2 (K : PySem.W.Frag) (q : Str) (C1 C2 : Addr) (f1 f2 : Str) (okr ok1 ok2 : Dt → Dt → Prop) : (XK → Hp → VK → Prop) → Addr → List V → Hp → VK → Prop := fun tl c' vs H Q =>
  H c' = some (CodeO c' q) ∧ vs = [] ∧ ∃ F B as M M', Ow K F B as M H ∧ M'.length = M.length ∧
    ((∃ z z', okr z z' ∧ (∀ (E : XK) (Q' : VK), (∀ v B' H', Gr F B B' → Ow K F B' as M' H' → Rp K B' z v → Q' v H') → tl E H Q') ∧ ∀ v B' H', Gr F B B' → Ow K F B' as M' H' → Rp K B' z' v → Q v H') ∨
    (∃ C f y z, ((C = C1 ∧ f = f1 ∧ ok1 y z) ∨ (C = C2 ∧ f = f2 ∧ ok2 y z)) ∧ (∀ (E : XK) (Q' : VK), (∀ cls d B' H', Gr F B B' → Ow K F B' as M' H' → XR K B' ⟨.ref C, some (f, y)⟩ cls d → E cls d H') → tl E H Q') ∧ ∀ v B' H', Gr F B B' → Ow K F B' as M' H' → Rp K B' z v → Q v H'))
section
variable {K : PySem.W.Frag} {G : List (Option Sl)} {M M' : List MO}
/-- a lambda handed on: the table's step -/
theorem ev_lamT {TT : (XK → Hp → VK → Prop) → Addr → List V → Hp → VK → Prop} {q : Str} {P : Addr} {kT : Nat} {t : XK → TE} {at_ : Pos} {z : Dt} (hT : M[kT]? = some (tabM P q))
    (h : ∀ F B as σ H, Ow K F B as M H → Slt K B as G σ → ∀ c', B c' = some (CodeO c' q) → ∀ Q : VK, (∀ v B' H', Gr F B B' → Ow K F B' as M' H' → Rp K B' z v → Q v H') → TT (fun E H' Q' => t E σ H' Q') c' [] H Q) :
    EvE K (tLamG q P at_ TT tNil t) G M (.d z) M' := fun F B as σ H ow sl Q qq => by
  have hk : kT < as.length := by rw [ow.len]; exact (List.getElem?_eq_some_iff.mp hT).1
  obtain ⟨a, ea⟩ : ∃ a, as[kT]? = some a := ⟨_, List.getElem?_eq_getElem hk⟩
  obtain ⟨fa, ba, o, ho, nt, hφ⟩ := ow.own kT a _ ea hT tab_gone
  obtain ⟨rfl, ps, rfl, hb⟩ := hφ B (Same.refl B)
  refine ⟨ps, ho, hb.mono ow.bb, fun c' H1 st => ?_⟩
  have nx : ∃ B1, Gr F B B1 ∧ Ow K F B1 as M H1 ∧ B1 c' = some (CodeO c' q) := by
    cases st with
    | hit h1 h2 =>
      obtain ⟨c, e1, e2⟩ := hb.2 at_ _ h2
      cases e1
      exact ⟨B, Gr.refl F B, ow, e2⟩
    | new h1 =>
      have g1 := ow.gr h1 (CodeO c' q)
      have o1 := ow.new h1 (CodeO c' q)
      refine ⟨_, g1, ?_, upd_same⟩
      have hs : M.set kT (tabM a q) = M := by
        refine List.ext_getElem? fun j => ?_
        by_cases e : kT = j
        · subst e
          rw [List.getElem?_set_self (List.getElem?_eq_some_iff.mp hT).1, hT]
        · rw [List.getElem?_set_ne e]
      have key : TbK q (upd B c' (CodeO c' q)) (ps ++ #[rawInt at_.line, rawInt at_.col, .ref c']) := by
        have eL : (ps ++ #[rawInt at_.line, rawInt at_.col, .ref c']).toList = ps.toList ++ [rawInt at_.line, rawInt at_.col, .ref c'] := by simp
        refine ⟨by rw [eL]; exact PySem.TriplesOk_snoc _ _ _ _ hb.1, fun p u k => ?_⟩
        rw [eL] at k
        rcases among_app _ hb.1 k with k | k
        · obtain ⟨c, e1, e2⟩ := hb.2 p u k
          exact ⟨c, e1, g1.1 _ _ e2⟩
        · exact ⟨c', k, upd_same⟩
      have o2 := o1.put (k := kT) (a := a) (m' := tabM a q) (o := .tbl (ps ++ #[rawInt at_.line, rawInt at_.col, .ref c'])) ea hT tab_gone ⟨_, upd_same, (fun _ z => nomatch z), fun B' e => ⟨rfl, _, rfl, key.mono e⟩⟩
      rw [hs] at o2
      have ne : a ≠ c' := fun e => by rw [e, h1] at ho; cases ho
      have eh : upd (upd H c' (CodeO c' q)) a (.tbl (ps ++ #[rawInt at_.line, rawInt at_.col, .ref c'])) = upd (upd H a (.tbl (ps ++ #[rawInt at_.line, rawInt at_.col, .ref c']))) c' (CodeO c' q) := by
        funext b
        by_cases e1 : b = a
        · rw [e1, upd_same, upd_ne ne, upd_same]
        · by_cases e2 : b = c'
          · rw [e2, upd_ne (fun z => ne z.symm), upd_same, upd_same]
          · rw [upd_ne e1, upd_ne e2, upd_ne e2, upd_ne e1]
      rw [eh] at o2
      exact o2
  obtain ⟨B1, g1, o1, b1⟩ := nx
  exact h F B1 as σ H1 o1 (sl.mono g1.1 (Px.refl as)) c' b1 Q fun v B' H' g' o' r' => qq v B' as H' (g1.trans g') (Px.refl as) o' r'
theorem ev_told2 {q : Str} {P C1 C2 : Addr} {f1 f2 : Str} {kT : Nat} {okr ok1 ok2 : Dt → Dt → Prop} {t : XK → TE} {at_ : Pos} {z : Dt} (hT : M[kT]? = some (tabM P q)) (hl : M'.length = M.length)
    (h : (∃ x, okr x z ∧ ∀ E : XK, EvE K (t E) G M (.d x) M') ∨ (∃ C f y, ((C = C1 ∧ f = f1 ∧ ok1 y z) ∨ (C = C2 ∧ f = f2 ∧ ok2 y z)) ∧ ∀ E : XK, EvX K (t E) (fun cls d _ H => E cls d H) G M ⟨.ref C, some (f, y)⟩ M')) :
    EvE K (tLamG q P at_ (TTold2 K q C1 C2 f1 f2 okr ok1 ok2) tNil t) G M (.d z) M' := ev_lamT hT fun F B as σ H ow sl c' b1 Q qq => by
  have al : ∀ {as' : List Addr} {B' H'}, Ow K F B' as' M' H' → Px as as' → as' = as := fun o p => px_same p (by rw [o.len, hl, ow.len])
  refine ⟨ow.bb _ _ b1, rfl, F, B, as, M, M', ow, hl, ?_⟩
  rcases h with ⟨x, hx, h⟩ | ⟨C, f, y, hy, h⟩
  · exact .inl ⟨x, z, hx, fun E Q' q' => h E F B as σ H ow sl Q' fun v B3 as3 H3 g3 p3 o3 r3 => q' v B3 H3 g3 (by have e := al o3 p3; rw [e] at o3; exact o3) r3, qq⟩
  · exact .inr ⟨C, f, y, z, hy, fun E Q' q' => h E F B as σ H ow sl (fun B3 as3 H3 cls d g3 p3 o3 r3 => q' cls d B3 H3 g3 (by have e := al o3 p3; rw [e] at o3; exact o3) r3) Q', qq⟩
end
theorem told_gives2 {X : Cx} {Ng : List Str} {x a q f1 f2 : Str} {w : List Nat} {sg : Scope} {g C1 C2 : Addr} {cdg : Value} {p1 p2 p8 : Pos} {h0 h1 : ExceptHandler} {body : List Stmt} {ts1 ts2 : Addr → Value → Option Addr → TS} {okr ok1 ok2 : Dt → Dt → Prop}
    (hNd : Ng.Nodup) (hl : Ng.length = 2)
    (hok : ∀ z z' : Dt, okr z z' → z' = .tup [.str w, z])
    (e11 : PySem.W.exmOne X.K (.ref C1) (.ref C1) = some true) (e21 : PySem.W.exmOne X.K (.ref C2) (.ref C1) = some false) (e22 : PySem.W.exmOne X.K (.ref C2) (.ref C2) = some true)
    (hb : ∀ (A : Around) (s : Shared) (H : Hp) (W : WX) (pn : List (Addr × Obj)) (xe : Value → Shared → Prop) (tE : TE), Takes ((cxOf CX0 X.prog X.w X.K X.mg X.base Ng x sg g cdg X.A X.stack s H E0).tr pn xe) W → PE ((cxOf CX0 X.prog X.w X.K X.mg X.base Ng x sg g cdg X.A X.stack s H E0).tr pn xe) (.Call (.Name a p1) [] [] p2) tE →
      PSs ((cxOf CX0 X.prog X.w X.K X.mg X.base Ng x sg g cdg X.A X.stack s H E0).tr pn xe) body (tRet (tTup (tCons (tC (.str (tx w))) (tCons tE tNil)))))
    (hh : ∀ (s : Shared) (H : Hp), HdsAs (cxOf CX0 X.prog X.w X.K X.mg X.base Ng x sg g cdg X.A X.stack s H E0) [h0, h1] [(.ref C1, 1, ts1), (.ref C2, 1, ts2)])
    (hs1 : ∀ y z : Dt, ok1 y z → ∀ (fv : V) a d M, EvS X.K (ts1 a (.ref C1) d) [some (.d (.raw fv)), some (.d (XfR X.K a d f1 y))] M (.rt (.d z) M))
    (hs2 : ∀ y z : Dt, ok2 y z → ∀ (fv : V) a d M, EvS X.K (ts2 a (.ref C2) d) [some (.d (.raw fv)), some (.d (XfR X.K a d f2 y))] M (.rt (.d z) M)) :
    GivesG X Ng x sg g cdg [.Try body [h0, h1] [] [] p8] a q (TTold2 X.K q C1 C2 f1 f2 okr ok1 ok2) := by
  intro f c' s H Q vs tl act tt
  obtain ⟨hc, rfl, F, B, as, M, M', ow, hlM, tt⟩ := tt
  have e1 : L2.start Ng [V.ref f] = [some (V.ref f), none] := by
    unfold L2.start
    rw [hl]
    rfl
  have al : ∀ {as' : List Addr} {B' H'}, Ow X.K F B' as' M' H' → Px as as' → as' = as := fun o p => px_same p (by rw [o.len, hlM, ow.len])
  have sl0 : ∀ B : Hp, Slt X.K B as [some (.d (.raw (.ref f))), none] [some (V.ref f), none] := fun B => ⟨rfl, fun i s q => by
    match i with
    | 0 => cases q; exact ⟨_, rfl, rfl⟩
    | 1 => cases q
    | n + 2 => cases q⟩
  refine ⟨_, pss_one (ps_try_asN (X := cxOf CX0 X.prog X.w X.K X.mg X.base Ng x sg g cdg X.A X.stack s H E0) (Wout := fun _ _ _ _ => False)
    (tb := fun W => tRet (tTup (tCons (tC (.str (tx w))) (tCons (fun σ H Q => ∃ E : XK, σ[0]? = some (some (.ref f)) ∧ H c' = some (CodeO c' q) ∧ (∀ cls d H', E cls d H' → W cls d σ H') ∧ tl E H Q) tNil)))) rfl rfl hNd L2.takes0 (fun W pn xe tk _ => hb X.A s H W pn xe _ tk ⟨fun pins s' σ H' Q' I h' => ?_⟩) (hh s H)), ?_⟩
  · obtain ⟨E, w1, w2, w3, w4⟩ := h'
    exact (act W pn xe E p1 p2 tk).run pins s' σ H' Q' I ⟨w1, w2, w3, w4⟩
  · refine ⟨fun cls d H' => wAsN X.K (fun _ _ _ _ => False) _ _ cls d _ H', by rw [e1] <;> rfl, hc, fun _ _ _ z => z, ?_⟩
    rcases tt with ⟨z, z', hz, h1, h2⟩ | ⟨C, fl, y, z, hy, h1, h2⟩
    · refine h1 _ _ fun v B' H' g o' r => ⟨show 2 ≤ _ by decide, fun p hp => ?_⟩
      have gp := o'.gr hp (.tup [.str (tx w), v])
      refine h2 _ _ _ (g.trans gp) (o'.new hp _) ?_
      rw [hok z z' hz]
      exact ⟨p, _, rfl, .inl (.inl upd_same), _, _, rfl, rfl, _, _, rfl, Rp.mono gp.1 _ _ r, rfl⟩
    · refine h1 _ _ fun cls d B' H' g o' r => ?_
      obtain ⟨rfl, dd, v, ed, eb, rv⟩ := r
      have key : ∀ (a : Addr) (fl : Str) (eb : B' dd = some (.xd [(fl, v)])), Slt X.K B' as [some (.d (.raw (.ref f))), some (.d (XfR X.K a d fl y))] [some (V.ref f), some (.ref a)] := fun a fl eb => (sl0 B').set 1 (s := .d (XfR X.K a d fl y)) (v := .ref a) (fun H2 sm => ⟨rfl, dd, v, ed, sm _ _ eb, Rp.mono sm _ _ rv⟩)
      rcases hy with ⟨rfl, rfl, hy⟩ | ⟨rfl, rfl, hy⟩
      · refine ⟨true, e11, fun _ a na => ?_, fun z => nomatch z⟩
        rw [e1]
        exact hs1 y z hy (.ref f) a d M' F B' as _ H' o' (key a _ eb) _ fun v' B2 as2 H2 g2 p2 o2 r2 => h2 v' B2 H2 (g.trans g2) (by have e := al o2 p2; rw [e] at o2; exact o2) r2
      · refine ⟨false, e21, fun z => (nomatch z), fun _ => ⟨true, e22, fun _ a na => ?_, fun z => nomatch z⟩⟩
        rw [e1]
        exact hs2 y z hy (.ref f) a d M' F B' as _ H' o' (key a _ eb) _ fun v' B2 as2 H2 g2 p2 o2 r2 => h2 v' B2 H2 (g.trans g2) (by have e := al o2 p2; rw [e] at o2; exact o2) r2
end LJ
/-! ### the outermost call, where no guard is up and the law owns its tables -/
namespace LJ
open PySem PySem.Spec PyProof.Rows L2 LamX DJ
theorem outer_callG {P : Program} {w : World} {K : PySem.W.Frag} {mg mb : Str → Option Value} {k : Nat} {fa a : Addr} {cs : List (Addr × Addr)} {fd : FuncData} {x : Str} {sp : Sp} {s1 : Shared} {vs : List Value} {ns : List Int}
    (inS : K.In s1.heap) (nsM : s1.heap.Ns mainGlobals mg) (nsB : s1.heap.Ns builtinsNs mb) (boot : ∀ y : Str, y ≠ "__name__" → mb y = bootBuiltins y) (noLim : s1.heap.NoLimit) (gens : s1.gens = #[])
    (hT : ∀ p ∈ cs, s1.heap.get? p.2 = some { cls := .none, data := .fields #[] }) (nT : ∀ p ∈ cs, K.lookup p.2 = none) (C : ∀ p ∈ cs, PySem.W.CodeHd s1.heap p.1 p.2)
    (hbm : ∃ bm ob, mg "__builtins__" = some (.ref bm) ∧ bm ≠ builtinsNs ∧ s1.heap.get? bm = some ob ∧ ob.cls = .type "module" ∧ ob.dict = some builtinsNs ∧ ob.data = .plain)
    (obj : s1.heap.get? a = some { cls := .type "list", data := .seq vs.toArray }) (rin : IntsAre vs ns) (few : ns.length ≤ sizeLine) (hr : Room k callerA)
    (F : ∀ base : Heap, K.In base → base.Ns mainGlobals mg → (∀ p ∈ cs, TabB base mg p.1 p.2) → FnG P w K mg base k fa fd [x] sp) (bind : ∀ (s : Shared) (u : Value), BindsTo s fd ⟨[u], []⟩ [(x, u)])
    (want : ∀ H : Hp, (∀ p ∈ cs, H p.2 = some (.tbl #[])) → SqL K H a (ns.map V.int) → sp [.ref a] H (fun v _ => v = .bl true) fun _ _ _ => False) :
    codeAny (model P w) callerA (.call (.ref fa) ⟨[.ref a], []⟩) (fun r s' => r = .ok (.ret (.bool true)) ∧ OldK s1.heap s'.heap ∧ s'.os = s1.os ∧ AllBare s'.gens) s1 := by
  have rel := vals_ints rin
  have nv := rin.length
  have tab : ∀ b, b ∈ cs.map Prod.snd → s1.heap.get? b = some { cls := .none, data := .fields #[] } := fun b hb => by
    obtain ⟨p, hp, rfl⟩ := List.mem_map.mp hb
    exact hT p hp
  have aT : a ∉ cs.map Prod.snd := fun z => by
    have := tab a z
    rw [obj] at this
    cases this
  have memT : ∀ p ∈ cs, p.2 ∈ cs.map Prod.snd := fun p hp => List.mem_map.mpr ⟨p, hp, rfl⟩
  have main : ∀ H : Hp, (∀ p ∈ cs, H p.2 = some (.tbl #[])) → (∀ b, b ∉ cs.map Prod.snd → H b = none ∨ ∃ ob xs, H b = some (.frz ob (.lst xs))) → SqL K H a (ns.map V.int) → HOk P w H s1.heap → (∀ b, H b ≠ none → b = a ∨ b ∈ cs.map Prod.snd) → (H a ≠ none → K.lookup a = none) →
      codeAny (model P w) callerA (.call (.ref fa) ⟨[.ref a], []⟩) (fun r s' => r = .ok (.ret (.bool true)) ∧ OldK s1.heap s'.heap ∧ s'.os = s1.os ∧ AllBare s'.gens) s1 := by
    intro H hH only sq ok onlyA outK
    have keep : ∀ {b : Addr} {o : Obj}, s1.heap.get? b = some o → H b = none → (hidT s1.heap H).get? b = some o := fun z n => hidT_get z n
    have other : ∀ {b : Addr} {o : Obj}, s1.heap.get? b = some o → (∀ us n, o.data ≠ .seq us n) → o.data ≠ .fields #[] → H b = none := by
      intro b o z h1 h2
      rcases hq : H b with _ | u
      · rfl
      · rcases onlyA b (by rw [hq]; simp) with z2 | z2
        · subst z2
          rw [obj] at z
          cases z
          exact absurd rfl (h1 _ _)
        · rw [tab b z2] at z
          cases z
          exact absurd rfl h2
    have space : ∀ {b : Addr} {m : Str → Option Value}, s1.heap.Ns b m → (hidT s1.heap H).Ns b m := by
      rintro b m ⟨o, es, ep, z, hd, r⟩
      exact ⟨o, es, ep, keep z (other z (fun us n e => by rw [hd] at e; cases e) (fun e => by rw [hd] at e; cases e)), hd, r⟩
    have inB : K.In (hidT s1.heap H) := by
      intro b o z
      refine keep (inS b o z) ?_
      rcases hq : H b with _ | u
      · rfl
      · rcases onlyA b (by rw [hq]; simp) with z2 | z2
        · subst z2
          rw [outK (by rw [hq]; simp)] at z
          cases z
        · obtain ⟨p, hp, rfl⟩ := List.mem_map.mp z2
          rw [nT p hp] at z
          cases z
    have modl : Mod K mg (hidT s1.heap H) := by
      refine ⟨inB, space nsM, ⟨mb, space nsB, boot⟩, ?_⟩
      obtain ⟨mc, y1, y2⟩ := noLim
      exact ⟨mc, space y1, y2⟩
    have TB : ∀ p ∈ cs, TabB (hidT s1.heap H) mg p.1 p.2 := fun p hp => by
      have t0 := hT p hp
      refine ⟨?_, ?_, fun z => ?_⟩
      · obtain ⟨o, us, file, tf, flags, tg, inF, text, tt, e1, r1, r2, r3, rest⟩ := C p hp
        refine ⟨o, us, file, tf, flags, tg, inF, text, tt, keep e1 (other e1 (fun vs n e => by rw [r2] at e; cases e) (fun e => ?_)), r1, r2, r3, rest⟩
        rw [r2] at e
        cases e
        cases r3
      · obtain ⟨bm, ob, b1, b2, b3, b4, b5, b6⟩ := hbm
        refine ⟨bm, ob, b1, b2, fun z => ?_, fun z => ?_, keep b3 (other b3 (fun vs n e => by rw [b6] at e; cases e) (fun e => by rw [b6] at e; cases e)), b4, b5, b6⟩
        · obtain ⟨o, es, ep, e, hd, _⟩ := nsM
          rw [← z, b3] at e
          cases e
          rw [b6] at hd
          cases hd
        · rw [← z, b3] at t0
          cases t0
          cases b6
      · obtain ⟨o, es, ep, e, hd, _⟩ := nsM
        rw [z, t0] at e
        cases e
        cases hd
    have env : Env0 P w K mg (hidT s1.heap H) callerA [] s1 H := ⟨rfl, modl, fun b o z => of_hidT z, Nat.le_of_eq (hidT_size _ _), trivial, fun b hb => (nomatch hb), ok, .of_eq gens⟩
    refine codeAny_mono ((F _ inB (space nsM) TB).go callerA [] s1 H ⟨[.ref a], []⟩ [.ref a] [.ref a] _ _ rfl hr env (bind s1 (.ref a)) (.cons rfl .nil) (want H hH sq)) fun r s' res => ?_
    rcases r with e | fl
    · exact absurd res (fun y => y)
    · cases fl with
      | next => exact res.elim
      | brk => exact res.elim
      | cont => exact res.elim
      | ret u =>
        obtain ⟨v, H', os, bare, un, ok', rv, qv⟩ := res
        have qv : v = .bl true := qv
        subst qv
        have ru : u = Value.bool true := rv
        subst ru
        have stays : ∀ b o, b ∉ cs.map Prod.snd → s1.heap.get? b = some o → s'.heap.get? b = some o := fun b o nb z => by
          rcases hq : H b with _ | u
          · exact un.keep b o z hq (fun y => nomatch y) (by simp)
          · rcases only b nb with y | ⟨ob, xs, y⟩
            · rw [hq] at y; cases y
            · obtain ⟨e1, _⟩ := ok b _ y
              obtain ⟨e2, _⟩ := ok' b _ (un.frzs b ob _ y)
              rw [z] at e1
              cases e1
              exact e2
        have grown : ∀ p ∈ cs, ∃ more, s'.heap.get? p.2 = some { cls := .none, data := .fields more } := fun p hp => by
          obtain ⟨more, z⟩ := un.tbls p.2 #[] (hH p hp)
          exact ⟨#[] ++ more, ok' p.2 _ z⟩
        refine ⟨rfl, ⟨fun b o z => ?_, fun b o z => ?_⟩, os, bare⟩
        · by_cases hb : b ∈ cs.map Prod.snd
          · obtain ⟨p, hp, rfl⟩ := List.mem_map.mp hb
            obtain ⟨more, hm⟩ := grown p hp
            have t0 := hT p hp
            rw [t0] at z
            cases z
            exact .inr (.inl ⟨(PySem.W.CodeHd.tab (C p hp) t0).isCodeTable, rfl, #[], more, rfl, by rw [Array.empty_append]; exact hm⟩)
          · exact .inl (stays b o hb z)
        · by_cases hb : b ∈ cs.map Prod.snd
          · obtain ⟨p, hp, rfl⟩ := List.mem_map.mp hb
            obtain ⟨more, hm⟩ := grown p hp
            exact ⟨_, hm⟩
          · exact ⟨o, stays b o hb z⟩
  have okT : ∀ p ∈ cs, ∀ H : Hp, ObjOk P w H s1.heap p.2 (.tbl #[]) := fun p hp H => hT p hp
  rcases hk : K.lookup a with _ | o
  · obtain ⟨H, hdef⟩ : ∃ H : Hp, H = fun b => if b ∈ cs.map Prod.snd then some (.tbl #[]) else if b = a then some (HO.frz { cls := .type "list", data := .seq vs.toArray } (.lst (ns.map V.int))) else none := ⟨_, rfl⟩
    have h1 : ∀ b, b ∈ cs.map Prod.snd → H b = some (.tbl #[]) := fun b z => by rw [hdef]; exact if_pos z
    have h2 : H a = some (HO.frz { cls := .type "list", data := .seq vs.toArray } (.lst (ns.map V.int))) := by rw [hdef]; exact (if_neg aT).trans (if_pos rfl)
    have h3 : ∀ b, b ∉ cs.map Prod.snd → b ≠ a → H b = none := fun b z1 z2 => by rw [hdef]; exact (if_neg z1).trans (if_neg z2)
    refine main H (fun p hp => h1 _ (memT p hp)) (fun b nb => ?_) (.inl (.inr ⟨_, h2⟩)) (fun b u z => ?_) (fun b z => ?_) fun _ => hk
    · by_cases y : b = a
      · exact .inr ⟨_, _, by rw [y]; exact h2⟩
      · exact .inl (h3 b nb y)
    · by_cases y1 : b ∈ cs.map Prod.snd
      · have := (h1 b y1).symm.trans z
        cases this
        obtain ⟨p, hp, rfl⟩ := List.mem_map.mp y1
        exact okT p hp H
      · by_cases y : b = a
        · subst y
          have := h2.symm.trans z
          cases this
          exact ⟨obj, by rw [List.length_map]; exact few, vs, _, rel, obj⟩
        · have := (h3 b y1 y).symm.trans z
          cases this
    · by_cases y1 : b ∈ cs.map Prod.snd
      · exact .inr y1
      · by_cases y : b = a
        · exact .inl y
        · exact absurd (h3 b y1 y) z
  · have z := inS a o hk
    rw [obj] at z
    cases z
    obtain ⟨H, hdef⟩ : ∃ H : Hp, H = fun b => if b ∈ cs.map Prod.snd then some (.tbl #[]) else none := ⟨_, rfl⟩
    have h1 : ∀ b, b ∈ cs.map Prod.snd → H b = some (.tbl #[]) := fun b z => by rw [hdef]; exact if_pos z
    have h3 : ∀ b, b ∉ cs.map Prod.snd → H b = none := fun b z1 => by rw [hdef]; exact if_neg z1
    refine main H (fun p hp => h1 _ (memT p hp)) (fun b nb => .inl (h3 b nb)) (.inr ⟨_, vs.toArray, _, hk, rfl, rfl, rfl, by rw [List.size_toArray, nv]; exact few, by simpa using rel⟩) (fun b u z => ?_) (fun b z => ?_) fun z => absurd (h3 a aT) z
    · by_cases y1 : b ∈ cs.map Prod.snd
      · have := (h1 b y1).symm.trans z
        cases this
        obtain ⟨p, hp, rfl⟩ := List.mem_map.mp y1
        exact okT p hp H
      · have := (h3 b y1).symm.trans z
        cases this
    · by_cases y1 : b ∈ cs.map Prod.snd
      · exact .inr y1
      · exact absurd (h3 b y1) z
def LawAtG (l : PySem.W.OpenLaw) (w : World) (K : PySem.W.Frag) (k n : Nat) (x : Str) (mg : Str → Option Value) (fa : Addr) (h : Heap) : Prop :=
  ∃ (fd : FuncData) (cs : List (Addr × Addr)) (sp : Sp), (∀ p ∈ cs, h.get? p.2 = some { cls := .none, data := .fields #[] }) ∧ (∀ p ∈ cs, K.lookup p.2 = none) ∧ (∀ p ∈ cs, PySem.W.CodeHd h p.1 p.2) ∧ (∀ (s : Shared) (u : Value), BindsTo s fd ⟨[u], []⟩ [(x, u)]) ∧
    (∀ (H : Hp) (a : Addr) (ns : List Int), ns.length ≤ n → (∀ p ∈ cs, H p.2 = some (.tbl #[])) → SqL K H a (ns.map V.int) → sp [.ref a] H (fun v _ => v = .bl true) fun _ _ _ => False) ∧
    ∀ base : Heap, K.In base → base.Ns mainGlobals mg → (∀ p ∈ cs, TabB base mg p.1 p.2) → FnG l.prog w K mg base k fa fd [x] sp
theorem walk_G {l : PySem.W.OpenLaw} {n k : Nat} {q : Program} {loose : List Str} {XP : (Str → Option Value) → Heap → Prop} {YP : World → Heap → Prop} {d : DefRec} {K : Params → PySem.W.Frag} {x : Str} (hn : l.most = some n) (hn2 : n ≤ sizeLine) (hdf : d.params.defaults = []) (hr : Room k callerA)
    (hY : ∀ (w : World) (h : Heap), YP w h → (K w.params).In h)
    (F : ∀ (w : World) (mg : Str → Option Value) (fa : Addr) (h : Heap), YP w h → (K w.params).In h → h.Ns mainGlobals mg → mg d.name = some (.ref fa) → LawAtG l w (K w.params) k n x mg fa h) :
    PySem.W.WalkO q loose XP YP l.row.toRowW d [] (fun f vs => PySem.call f vs) := by
  refine Att.attach_callB hn hdf fun w s0 s1 mg mb fa o pm cd doc a vs ns G Y ho hd hcd hmg hobj hints hlen hbits hg => ?_
  have KX := hY w _ Y
  obtain ⟨fd, cs, sp, hT, nT, C, hb, hsp, hF⟩ := F w mg fa _ Y KX G.T.g hmg
  exact outer_callG KX G.T.g G.T.b G.T.builtins G.T.nolimit hg hT nT C G.T.bmain hobj hints (Nat.le_trans hlen hn2) hr hF hb fun H hH hS => hsp H a ns hlen hH hS
end LJ
/-! ### {k1: x, k2: y}[k], x and y numbers or None -/
namespace LJ
open PySem PySem.Spec PyProof.Rows L2 LamX DJ
abbrev encV (p : List Nat × V) : Key × V := (Sum.inr (tx p.1), p.2)
def dicV (kvs : List (List Nat × V)) : Dt := .ext fun H v => ∃ a, v = .ref a ∧ H a = some (.dK (mergeK [] (kvs.map encV)))
section
variable {K : PySem.W.Frag} {B H : Hp} {G : List (Option Sl)} {M M1 M2 M3 : List MO} {tk tv td ty : TE} {trs : List (TE × TE)}
theorem vv_of {fx : List (List Nat × Dt × V)} (hf : ∀ p ∈ fx, ∀ B w, Rp K B p.2.1 w → w = p.2.2) : ∀ {ps : List (V × V)}, RpP K B (fx.map fun p => (Dt.str p.1, p.2.1)) ps → ps = (fx.map fun p => encV (p.1, p.2.2)).map fun kv => (kV kv.1, kv.2) := by
  induction fx with
  | nil => intro ps h; exact h
  | cons p fx ih =>
    intro ps h
    obtain ⟨x, r, e, ⟨h1, h2⟩, h3⟩ := h
    subst e
    obtain ⟨x1, x2⟩ := x
    have h1 : x1 = V.str (tx p.1) := h1
    have h2 := hf p List.mem_cons_self B x2 h2
    rw [ih (fun q hq => hf q (List.mem_cons_of_mem _ hq)) h3, h1, h2]
    rfl
theorem ev_dispV (fx : List (List Nat × Dt × V)) (hf : ∀ p ∈ fx, ∀ B w, Rp K B p.2.1 w → w = p.2.2) (h : EvP K trs G M (fx.map fun p => (Dt.str p.1, p.2.1))) (hl : fx.length ≤ 15) : EvE K (tDisp trs) G M (.d (dicV (fx.map fun p => (p.1, p.2.2)))) M := fun F B as σ H ow sl Q q p hp => by
  obtain ⟨f1, f2, _⟩ := ow.fresh hp
  refine h (upd F p (.dK [])) B as σ _ (ow.frame hp _) sl _ fun ps B1 as1 H1 g1 p1 o1 r1 => ?_
  refine ⟨o1.fb p _ upd_same, fx.map fun p => encV (p.1, p.2.2), vv_of hf r1, by rw [List.length_map]; exact hl, ?_⟩
  have b1 : B1 p = none := g1.2 p (by rw [upd_same]; exact ⟨fun z => (nomatch z), fun _ z => (nomatch z)⟩) f2
  refine q _ (upd B1 p _) as1 _ (g1.keep f1 f2 ⟨fun z => (nomatch z), fun _ z => (nomatch z)⟩) p1 (o1.keep f1 b1) fun H' s => ⟨p, rfl, s _ _ ?_⟩
  rw [upd_same, List.map_map] <;> rfl
theorem ev_dgetV {kvs : List (List Nat × V)} {k : List Nat} {v : V} {z : Dt} (hd : EvE K td G M (.d (dicV kvs)) M1) (hk : EvE K ty G M1 (.d (.str k)) M2) (hz : valV (mergeK [] (kvs.map encV)) (Sum.inr (tx k)) = some v) (hr : ∀ B, Rp K B z v) : EvE K (tDGet td ty) G M (.d z) M2 := fun F B as σ H ow sl Q q =>
  hd F B as σ H ow sl _ fun w B1 as1 H1 g1 p1 o1 r1 => by
    obtain ⟨a, rfl, ha⟩ := r1 B1 (Same.refl _)
    refine hk F B1 as1 σ H1 o1 (sl.mono g1.1 p1) _ fun y B2 as2 H2 g2 p2 o2 r2 => ?_
    have r2 : y = .str (tx k) := r2
    subst r2
    exact ⟨a, v, rfl, .inl ⟨_, (Sum.inr (tx k) : Key), .inl (o2.bb _ _ (g2.1 _ _ ha)), rfl, hz.symm⟩, q _ B2 as2 H2 (g1.trans g2) (p1.trans p2) o2 (hr B2)⟩
end
end LJ
/-! ### defs whose code object is known, where no guard is up -/
namespace LJ
open PySem PySem.Spec PyProof.Rows L2 LamX DJ
section
variable {P : Program} {w : World} {K : PySem.W.Frag} {mg : Str → Option Value} {base : Heap}
theorem fn_mkGT {x : Str} {st : Stmt} {N ps : List Str} {k n : Nat} {R : List Sl → List MO → Sl → List MO → Prop} {f : Addr} {cdv oc : Value} {od an : Option Addr} {osl : Array (Option Value)} {kV doc pm ct : Value}
    (lk : K.lookup f = some ⟨oc, od, .func (PySem.W.fnOf x x (defArgs st) (defBody st) (defScope st) .none kV doc pm an cdv ct), osl⟩) (hcd : PySem.W.codeIn K cdv x = true) (S : FnScope N ps (defScope st)) (hn : ps.length = n)
    (hb : ∀ (A : Around) (outer : List Env) (s : Shared) (H : Hp) (E : XK), (A.deeper (envOfC x (defScope st) s.heap.objs.size f cdv)).guards = some [] → Room k (A.deeper (envOfC x (defScope st) s.heap.objs.size f cdv)) → ∀ ss M r M', R ss M r M' →
      ∃ t X, PSs (cxOf CX0 P w K mg base N x (defScope st) f cdv A outer s H E).nox (defBody st) t ∧ EvS K t (DJ.start N.length ss) M (.rt r (M' ++ X)) ∧ M.length ≤ M'.length ∧ ∀ j, r = .o j → j < M'.length) :
    FnG P w K mg base (k + 1) f (PySem.W.fnOf x x (defArgs st) (defBody st) (defScope st) .none kV doc pm an cdv ct) ps (SpR K n R) := by
  refine fn_g lk hcd S (fun vs H Q E h => ?_) (fun A outer s H vs Q E hgd hr h => ?_)
  · obtain ⟨_, _, _, _, _, _, _, _, _, _, e, _⟩ := h
    rw [e, hn]
  · obtain ⟨F', B, as, ss, M, r, M', hR, ow, sl, _, q⟩ := h
    obtain ⟨t, X, ht, he, hl, hr'⟩ := hb A outer s H E hgd hr ss M r M' hR
    exact ⟨t, ht.nox, run_body (X := X) he hl hr' ow sl q⟩
theorem cal_mkGT {x : Str} {st : Stmt} {N ps : List Str} {k n : Nat} {R : List Sl → List MO → Sl → List MO → Prop} {c : Addr} (D : DfT K mg x st ps c) (S : FnScope N ps (defScope st)) (hn : ps.length = n)
    (hb : ∀ (f : Addr) (A : Around) (outer : List Env) (s : Shared) (H : Hp) (E : XK), (A.deeper (envOfC x (defScope st) s.heap.objs.size f (.ref c))).guards = some [] → Room k (A.deeper (envOfC x (defScope st) s.heap.objs.size f (.ref c))) → ∀ ss M r M', R ss M r M' →
      ∃ t X, PSs (cxOf CX0 P w K mg base N x (defScope st) f (.ref c) A outer s H E).nox (defBody st) t ∧ EvS K t (DJ.start N.length ss) M (.rt r (M' ++ X)) ∧ M.length ≤ M'.length ∧ ∀ j, r = .o j → j < M'.length) : CalG P w K mg base (k + 1) x (SpR K n R) := by
  obtain ⟨f, oc, od, an, osl, kV, doc, pm, ct, lk, hcd, kp, hm, hbd⟩ := D.ex
  exact ⟨f, _, ps, fn_mkGT lk hcd S hn (hb f), hm, kp, hbd⟩
end
end LJ
/-! ### defs that may raise, called by place and by names -/
namespace LJ
open PySem PySem.Spec PyProof.Rows L2 LamX DJ
structure CalXF (P : Program) (w : World) (K : PySem.W.Frag) (mg : Str → Option Value) (base : Heap) (k : Nat) (x : Str) (st : Stmt) (ps : List Str) (sp : Sp) : Prop where
  ex : ∃ (f : Addr) (fd : FuncData), FnOk P w K mg base (L2.CX P w) k f fd ps sp ∧ L2.Fun K x x st f fd ∧ mg x = some (.ref f) ∧ L2.Binds K fd ps []
section
variable {P : Program} {w : World} {K : PySem.W.Frag} {mg : Str → Option Value} {base : Heap}
theorem CalXF.cal {k : Nat} {x : Str} {st : Stmt} {ps : List Str} {sp : Sp} (c : CalXF P w K mg base k x st ps sp) : CalX P w K mg base k x sp [] := by
  obtain ⟨f, fd, F, U, hm, b⟩ := c.ex
  exact ⟨f, fd, ps, [], F, hm, U.kp, b, .nil⟩
theorem CalXF.kw {k : Nat} {x : Str} {st : Stmt} {ps ks : List Str} {sp : Sp} (c : CalXF P w K mg base k x st ps sp)
    (h : ∀ (kV doc pm : Value) (an : Option Addr) (cdv ct : Value) (us ws : List Value), us.length = 0 → ws.length = ks.length → bindArgs (PySem.W.fnOf x x (defArgs st) (defBody st) (defScope st) .none kV doc pm an cdv ct) ⟨us, ks.zip ws⟩ = pure (ps.zip (us ++ ws))) : CalKX P w K mg base k x 0 ks gCat gCatV sp := by
  obtain ⟨f, fd, F, U, hm, b⟩ := c.ex
  refine ⟨f, fd, ps, F, hm, U.kp, fun s us ws _ l1 l2 => ?_, fun r1 r2 => Vals.append r1 r2⟩
  obtain ⟨oc, od, kV, doc, pm, an, cdv, ct, osl, rfl, lk, hcd⟩ := U.ex
  exact .of_eq (h kV doc pm an cdv ct us ws l1 l2)
theorem cal_mkXF {x : Str} {st : Stmt} {N ps : List Str} {k n : Nat} {R : List Sl → List MO → Sl → List MO → Prop} {RX : List Sl → List MO → Ex → List MO → Prop} (D : Df K mg x st ps) (S : FnScope N ps (defScope st)) (hn : ps.length = n)
    (hb : ∀ (f : Addr) (cdv : Value) (A : Around) (outer : List Env) (s : Shared) (H : Hp) (E : XK), Room k (A.deeper (envOfC x (defScope st) s.heap.objs.size f cdv)) → Takes (cxX P w K mg base N x st f cdv A outer s H E) (fun cls d _ H => E cls d H) → PassesOwn (model P w) (cxX P w K mg base N x st f cdv A outer s H E).A (cxX P w K mg base N x st f cdv A outer s H E).env (cxX P w K mg base N x st f cdv A outer s H E).xe →
      (∀ ss M r M', R ss M r M' → ∃ t X, PSs (cxX P w K mg base N x st f cdv A outer s H E) (defBody st) t ∧ ((EvS K t (DJ.start N.length ss) M (.rt r (M' ++ X)) ∧ ∀ j, r = .o j → j < M'.length) ∨ (∃ G1, EvS K t (DJ.start N.length ss) M (.nx G1 (M' ++ X)) ∧ r = .d .non)) ∧ M.length ≤ M'.length) ∧
      (∀ ss M x' M', RX ss M x' M' → ∃ t X G', PSs (cxX P w K mg base N x st f cdv A outer s H E) (defBody st) t ∧ EvR K t (fun cls d _ H => E cls d H) (DJ.start N.length ss) M x' G' (M' ++ X) ∧ M.length ≤ M'.length)) :
    CalXF P w K mg base (k + 1) x st ps (SpX K n R RX) := by
  obtain ⟨f, fd, F, hm, b⟩ := D.ex
  refine ⟨f, fd, F.okX S (fun vs H Q E h => ?_) (fun cdv A outer s H vs Q E hr h => ?_), F, hm, b⟩
  · obtain ⟨_, _, _, _, _, _, _, e, _⟩ := h
    rw [e, hn]
  · obtain ⟨F', B, as, ss, M, ow, sl, _, q⟩ := h
    obtain ⟨h1, h2⟩ := hb f cdv A outer s H E hr (takes_of rfl rfl rfl rfl) (passes_of rfl)
    rcases q with ⟨r, M', hR, q⟩ | ⟨x', M', hR, q⟩
    · obtain ⟨t, X, ht, he, hl⟩ := h1 ss M r M' hR
      rcases he with ⟨he, hr'⟩ | ⟨G1, he, hr'⟩
      · exact ⟨t, ht, run_body (X := X) he hl hr' ow sl q⟩
      · subst hr'
        exact ⟨t, ht, run_bodyN (X := X) he hl ow sl q⟩
    · obtain ⟨t, X, G', ht, he, hl⟩ := h2 ss M x' M' hR
      exact ⟨t, ht, run_bodyX (X := X) he hl ow sl q⟩
end
end LJ
namespace LJ
open PySem PySem.Spec PyProof.Rows L2 LamX DJ
/-! ### a comprehension whose turns may ask what stood in the maker's frame when it began -/
section
variable {X : Cx}
theorem pe_lcK {elt tg iter : Expr} {scope : Scope} {own : List (Str × Nat)} {pos : Pos} {wi : TI} {g : TG} {te : TE} (hc : X.calm = true) (hN : X.N.Nodup) (hi : PI X tg iter wi) (ok : BlkOk X.N X.env.scope scope own)
    (hg : ∀ (s : Shared) (H : Hp) (C : Addr) (cl : List (Str × Addr)) (fp : List Addr), PG (X.blk s H scope (compEnvC scope cl C X.env) fp) tg g)
    (he : ∀ (s : Shared) (H : Hp) (C : Addr) (cl : List (Str × Addr)) (fp : List Addr) (pins : List (Addr × Obj)) (σ : L2.St), Inv X pins σ H s → (∀ b ∈ fp, FpOk X pins H b) → PE (X.blk s H scope (compEnvC scope cl C X.env) fp) elt (fun σ2 H Q => wipe σ2 (own.map (·.2)) = wipe σ (own.map (·.2)) ∧ te σ2 H Q))
    (hs : ∀ x, foldedSetIterable iter X.env x = pure x := by intro _; rfl) :
    PE X (.ListComp elt [⟨tg, iter, [], 0⟩] scope pos) (tLc wi g tYes te (own.map (·.2))) := by
  constructor
  intro pins s σ H Q I want
  rw [eval_ListComp]
  have fr : ∀ y ∈ scope.names, y.2 = .free → ∃ c, X.env.cells.lookup y.1 = some c := fun y hy e => I.ok.has _ (ok.free y hy e)
  refine wpAny_comprehension_free rfl hs (closure_ok fr) ok.kind (fun y hy e => by rw [ok.uniq y hy, e]) (thn (hi.run pins s σ H _ I want) fun _ sA gotA => thn gotA fun _ sB gotB => ?_)
  obtain ⟨it, fp, tn, J, HB, rfl, IB, T, tn0, ok0, rest⟩ := gotB
  refine wpAny_newObj_type (newEnv_comp ?_) (by show 0 ≤ sizeLine; decide)
  -- the list that grows, at D; the block's beginning
  obtain ⟨D, eD⟩ : ∃ D, D = sB.heap.objs.size := ⟨_, rfl⟩
  obtain ⟨sC, eC⟩ : ∃ sC : Shared, sC = { sB with heap := sB.heap.push { cls := .type "list", data := .seq ([] : List Value).toArray } } := ⟨_, rfl⟩
  obtain ⟨W, ⟨m0, w0⟩, turn⟩ := rest D (IB.hok.fresh (Nat.le_of_eq eD.symm))
  obtain ⟨HC, eH⟩ : ∃ HC, HC = upd HB D (.lst []) := ⟨_, rfl⟩
  have hC : sC.heap = sB.heap.push { cls := .type "list", data := .seq ([] : List Value).toArray } := by rw [eC]
  have IC : Inv X pins σ HC sC := by
    rw [eC, eH]
    exact IB.laid (t' := sB.toks) (fun b o e => Heap.get?_push_of_some _ e) (Nat.le_of_eq eD.symm) ⟨Nat.zero_le _, [], 0, .nil, by rw [eD]; exact Heap.get?_push_size _ rfl⟩
  have below : ∀ b ∈ fp, b < sB.heap.objs.size := fun b hb => let ⟨_, e, _⟩ := T.obj _ _ tn0 b hb; Heap.lt_size e
  have okC : ∀ b ∈ fp, FpOk X pins HC b ∧ b < sC.heap.objs.size := fun b hb => by
    refine ⟨⟨?_, (ok0 b hb).2⟩, ?_⟩
    · rw [eH, upd_ne (Nat.ne_of_lt (by rw [eD]; exact below b hb))]
      exact (ok0 b hb).1
    · rw [hC, Heap.size_push]
      exact Nat.lt_succ_of_lt (below b hb)
  have tnC : tn 0 sC.heap := T.keep _ _ _ tn0 fun b _ o e => by rw [hC]; exact Heap.get?_push_of_some _ e
  have ID := block_start IC ok hN okC
  have body := he sC HC sC.heap.objs.size (cellsFrom (sC.heap.objs.size + 1) scope.names (cloFrom X.env.cells scope.names [])) fp pins σ IC fun b hb => (okC b hb).1
  have bind := hg sC HC sC.heap.objs.size (cellsFrom (sC.heap.objs.size + 1) scope.names (cloFrom X.env.cells scope.names [])) fp
  rw [← eD, ← eC]
  rw [← eH] at w0
  show codeAny _ _ (.compStart (.ListComp elt [⟨tg, iter, [], 0⟩] scope pos) 0 (.ref it) (.ref D) (compEnvC scope (cellsFrom (sC.heap.objs.size + 1) scope.names (cloFrom X.env.cells scope.names [])) sC.heap.objs.size X.env)) (compPost (model X.prog X.w) X.A X.xe none _ (.ref D) sC.heap.objs.size) { sC with heap := pushCells (sC.heap.push { cls := .type "dict", data := .dict #[] }) scope.names }
  obtain ⟨ce, ee⟩ : ∃ ce, ce = compEnvC scope (cellsFrom (sC.heap.objs.size + 1) scope.names (cloFrom X.env.cells scope.names [])) sC.heap.objs.size X.env := ⟨_, rfl⟩
  have at_ : ce.locals = sC.heap.objs.size := by rw [ee] <;> rfl
  obtain ⟨sD, eS⟩ : ∃ sD : Shared, sD = { sC with heap := pushCells (sC.heap.push { cls := .type "dict", data := .dict #[] }) scope.names } := ⟨_, rfl⟩
  rw [← ee, ← eS] at ID ⊢
  rw [← ee] at body bind
  have tnD : tn 0 sD.heap := T.keep _ _ _ tnC fun b _ o e => by rw [eS]; exact pushCells_keeps _ _ _ _ (Heap.get?_push_of_some _ e)
  have stay : ∀ {σ' : L2.St} {H' : Hp} {s' : Shared}, Inv (X.blk sC HC scope ce fp) [] σ' H' s' → (∀ b ∈ fp, H' b = none) → ∀ b ∈ fp, FpOk (X.blk sC HC scope ce fp) [] H' b := fun {σ' H' s'} Z n b hb =>
    ⟨n b hb, (Z.ok.exf b hb).1, Z.ok.exfs b hb, .inl hb, (Z.ok.exf b hb).2, fun p hp => absurd (show p ∈ ([] : List (Addr × Obj)) ++ [] from hp) (by simp)⟩
  refine (fun loop => codeAny_compStart_list loop (T.self X.A 0 _ _ _ tnD loop)) ?_
  refine compLoop_any (fun n s' => ∃ i H', Inv (X.blk sC HC scope ce fp) [] (wipe σ (own.map (·.2))) H' s' ∧ tn i s'.heap ∧ (∀ b ∈ fp, H' b = none) ∧ W i n H') ?_ m0 ⟨0, HC, ID, tnD, fun b hb => (okC b hb).1.1, w0⟩
  rintro n s1 ⟨i, H1, I1, t1, n1, w1⟩
  rcases turn i n H1 w1 with ⟨stop, fine⟩ | ⟨go, Nx, less, step⟩
  · refine thnF (T.done (X.blk sC HC scope ce fp) rfl rfl rfl hc i [] s1 _ H1 (fun _ _ => False) I1 (stay I1 n1) t1 stop) fun r s2 ⟨hr, I2⟩ => ?_
    subst hr
    have back : Inv X pins σ H1 s2 := IC.call' (ch := fp) I2.os I2.base I2.hok I2.bare fun b hb => let z := (okC b hb).1.2; ⟨z.2.2.1, z.1, z.2.2.2.1, z.2.2.2.2⟩
    obtain ⟨m, hm, _⟩ := I2.loc
    have gone : H1 sC.heap.objs.size = none := by rw [← at_]; exact I2.free
    obtain ⟨f0, f1, f2, f3, f4, f5⟩ := IC.fpOk (Nat.le_refl _) gone
    exact ⟨m, (by rw [← at_]; exact hm), fun h'' sb => ⟨.ref D, H1, back.turned (t' := s2.toks) (fun b o hb e => (sb.2 b hb).trans e) f0 f1 f3 f4 f5, rfl, fine⟩⟩
  · refine thnF (T.item (X.blk sC HC scope ce fp) rfl rfl rfl hc i [] s1 _ H1 (fun _ _ => False) I1 (stay I1 n1) t1 go) fun r s2 ⟨u, hr, next⟩ => ?_
    subst hr
    refine thnF next fun _ s3 ⟨x, H3, I3, rx, y3, t3, n3⟩ => ?_
    refine thnF (bind.run _ s3 _ H3 x u _ (I3.pinned (stay I3 n3) (T.obj _ _ t3)) rx (step x H3 y3)) fun _ s4 ⟨σ4, H4, I4, same, q4⟩ => ?_
    refine thnF ((pts_nil (X := X.blk sC HC scope ce fp)).run _ s4 σ4 H4 _ I4 q4) fun b s5 ⟨H5, I5, q5⟩ => ?_
    have fin : ∀ {s' : Shared} {H' : Hp}, Inv (X.blk sC HC scope ce fp) ([] ++ pinsAt fp s3.heap) σ4 H' s' → Nx H' → ∃ m, m < n ∧ ∃ i H', Inv (X.blk sC HC scope ce fp) [] (wipe σ (own.map (·.2))) H' s' ∧ tn i s'.heap ∧ (∀ b ∈ fp, H' b = none) ∧ W i m H' := fun {s' H'} Z nx => by
      obtain ⟨m', lt, w'⟩ := less H' nx
      have kept : ∀ b ∈ fp, ∀ o, s3.heap.get? b = some o → s'.heap.get? b = some o ∧ H' b = none := fun b hb o e =>
        let z := Z.pin (b, o) (List.mem_append_right _ (List.mem_append_right _ (mem_pinsAt hb e)))
        ⟨z.1, z.2.1⟩
      refine ⟨m', lt, i + 1, H', (Z.unpinned (pins := [])).weak (by rw [← same, wipe_length]) (fun j v e => by rw [← same] at e; exact (wipe_some e).1), T.keep _ _ _ t3 fun b hb o e => (kept b hb o e).1, fun b hb => ?_, w'⟩
      obtain ⟨o, e, _⟩ := T.obj _ _ t3 b hb
      exact (kept b hb o e).2
    cases b with
    | false =>
      simp only [Bool.false_eq_true, if_false] at q5 ⊢
      exact fin I5 q5
    | true =>
      simp only [if_true] at q5 ⊢
      exact thnF (body.run _ s5 σ4 H5 _ I5 ⟨same, q5⟩) fun _ s6 ⟨yv, H6, I6, r6, acc, hD, hz, nx⟩ => app_ok (X := X.blk sC HC scope ce fp) I6 hD hz r6 fun s7 I7 => fin I7 nx
end
end LJ
namespace LJ
open PySem PySem.Spec PyProof.Rows L2 LamX DJ
/-! ### a lambda as a value: its function object is known from then on -/
def DvF (H : Hp) (dV : Value) : Option Int → Prop
  | none => dV = .none
  | some i => ∃ (T : Addr) (t : Tok), dV = .ref T ∧ H T = some (.frz (PySem.W.kdv_tup [.int i t]) (.own T))
def LamF (q : Str) (cells : List (Str × Addr)) (pr : Arguments) (bd : Expr) (sc : Scope) (dfl : Option Int) (H : Hp) (f c' : Addr) : Prop :=
  ∃ dV dc pm ct, H f = some (.frz (lamO q pr bd sc (cloFrom cells sc.names []) dV dc pm c' ct) (.own f)) ∧ DvF H dV dfl
inductive LamNew (q : Str) (cells : List (Str × Addr)) (pr : Arguments) (bd : Expr) (sc : Scope) (c' : Addr) (H : Hp) : Option Int → Addr → Hp → Prop where
  | no {f : Addr} {dc pm ct : Value} (hf : H f = none) : LamNew q cells pr bd sc c' H none f (upd H f (.frz (lamO q pr bd sc (cloFrom cells sc.names []) .none dc pm c' ct) (.own f)))
  | one {T f : Addr} {t : Tok} {i : Int} {dc pm ct : Value} (hT : H T = none) (hf : upd H T (.frz (PySem.W.kdv_tup [.int i t]) (.own T)) f = none) :
    LamNew q cells pr bd sc c' H (some i) f (upd (upd H T (.frz (PySem.W.kdv_tup [.int i t]) (.own T))) f (.frz (lamO q pr bd sc (cloFrom cells sc.names []) (.ref T) dc pm c' ct) (.own f)))
def tLamV (q : Str) (cells : List (Str × Addr)) (P : Addr) (at_ : Pos) (pr : Arguments) (bd : Expr) (sc : Scope) (dfl : Option Int) : TE := fun σ H Q =>
  ∃ ps, H P = some (.tbl ps) ∧ TbK q H ps ∧ ∀ c' H1, LStep q P ps at_ H c' H1 → ∀ f H2, LamNew q cells pr bd sc c' H1 dfl f H2 → Q (.ref f) H2
section
variable {X : Cx} {pins : List (Addr × Obj)} {σ : L2.St} {H H1 HZ H0 : Hp} {s s' s0 s1 : Shared} {sc : Scope}
/-- what was made since s is known -/
theorem track {f : Addr} {o : Obj} (I : Inv X pins σ H s) (J : Inv X pins σ H1 s') (e : s'.heap.get? f = some o) (n : H1 f = none) (ge : s.heap.objs.size ≤ f) : Inv X pins σ (upd H1 f (.frz o (.own f))) s' := by
  have ne : ∀ {b : Addr} {u : HO}, H1 b = some u → b ≠ f := fun z q => by rw [q, n] at z; cases z
  have old : ∀ {b : Addr} {u : Obj}, X.s_0.heap.get? b = some u → b ≠ f := fun z q => by
    have := Heap.lt_size z
    rw [q] at this
    exact absurd (Nat.lt_of_lt_of_le this (Nat.le_trans I.sz ge)) (Nat.lt_irrefl _)
  refine ⟨J.ok, J.os, J.bare, ⟨J.base.keep, J.base.slot, fun b u z m hx => ?_, J.base.there, fun b xs z => ?_, fun b u v z => ?_, fun b ps z => ?_⟩, J.loc, J.cell, ?_, fun x c z => ?_, fun q hq => ?_, fun b u z => ?_, J.len⟩
  · rw [upd_ne (old z)]
    exact J.base.free b u z m hx
  · have := J.base.tups b xs z
    rw [upd_ne (ne this)]
    exact this
  · have := J.base.frzs b u v z
    rw [upd_ne (ne this)]
    exact this
  · obtain ⟨more, this⟩ := J.base.tbls b ps z
    exact ⟨more, by rw [upd_ne (ne this)]; exact this⟩
  · rw [upd_ne (Nat.ne_of_lt (Nat.lt_of_lt_of_le I.lt ge))]
    exact J.free
  · obtain ⟨v, hv⟩ := I.cell x c z
    rw [upd_ne (Nat.ne_of_lt (Nat.lt_of_lt_of_le hv.lt ge))]
    exact J.freeC x c z
  · obtain ⟨g1, g2, g3⟩ := J.pin q hq
    refine ⟨g1, ?_, g3⟩
    rw [upd_ne (Nat.ne_of_lt (Nat.lt_of_lt_of_le (Heap.lt_size (I.pin q hq).1) ge))]
    exact g2
  · by_cases hb : b = f
    · subst hb
      rw [upd_same] at z
      cases z
      exact ⟨e, ⟨o, e⟩⟩
    · rw [upd_ne hb] at z
      exact (J.hok b u z).stay (fun _ _ _ r => r) (fun c r => by rw [upd_ne (ne r)]; exact r) fun c xs r => by rw [upd_ne (ne r)]; exact r
theorem pe_lamV {c P : Addr} {pr : Arguments} {bd : Expr} {at_ : Pos} {dfl : Option Int} (TB : TabB X.base X.mg c P) (hcode : X.env.code = .ref c) (L : LamN X.N X.env.scope sc) (df : Dfl pr X.env dfl) :
    PE X (.Lambda pr bd sc at_) (tLamV (X.env.qual ++ "<lambda>") X.env.cells P at_ pr bd sc dfl) := by
  constructor
  intro pins s σ H Q I want
  obtain ⟨ps, hP, hk, want⟩ := want
  cases df with
  | no hd =>
    refine PySem.W.kla_eval hd ?_
    rw [makeFunction_eq]
    simp only [List.zip_nil_right, List.filterMap_nil, List.isEmpty_nil, if_true, pure_bind]
    exact lam_tail I TB hcode hP hk (L.has I.ok) fun f c' dc pm ct H1 s' J st e ge n _ _ => ⟨.ref f, _, track I J e n ge, rfl, want c' H1 st f _ (.no n)⟩
  | @one i j p h1 h2 =>
    refine PySem.W.kdv_lam (by rw [h1] <;> rfl) h2 ?_
    rw [h1]
    refine PySem.W.kdv_all1 (wpAny_Constant_int (PySem.W.kdv_all0 ?_))
    rw [makeFunction_eq]
    simp only [List.zip_nil_right, List.filterMap_nil, List.isEmpty_nil, if_true, pure_bind, List.isEmpty_cons, Bool.false_eq_true, if_false]
    refine wpAny_bind (wpAny_newTextTuple ?_)
    have J0 := I.tok (s.toks + 1)
    have atT : ({ s with heap := s.heap.push (PySem.W.kdv_tup [.int i s.toks]), toks := s.toks + 1 } : Shared).heap.get? s.heap.objs.size = some (PySem.W.kdv_tup [.int i s.toks]) := Heap.get?_push_size _ rfl
    have nT : H s.heap.objs.size = none := I.hok.fresh (Nat.le_refl _)
    have J1 : Inv X pins σ H { s with heap := s.heap.push (PySem.W.kdv_tup [.int i s.toks]), toks := s.toks + 1 } := I.kept fun b o e => Heap.get?_push_of_some _ e
    have neP : s.heap.objs.size ≠ P := fun z => by rw [z, hP] at nT; cases nT
    refine lam_tail J1 TB hcode hP hk (L.has I.ok) fun f c' dc pm ct H1 s' J st e ge n kp fr => ?_
    have gT := kp _ _ neP atT
    have J2 := track I J gT.1 (fr _ _ atT nT) (Nat.le_refl _)
    have n2 : upd H1 s.heap.objs.size (.frz (PySem.W.kdv_tup [.int i s.toks]) (.own s.heap.objs.size)) f = none := by rw [upd_ne (fun z => gT.2 z.symm)]; exact n
    have ge2 : s.heap.objs.size ≤ f := Nat.le_trans (Nat.le_of_lt (Heap.lt_size atT)) ge
    exact ⟨.ref f, _, track I J2 e n2 ge2, rfl, want c' H1 st f _ (.one (fr _ _ atT nT) n2)⟩
theorem un_wide {fs ex : List Addr} {h h' : Heap} (u : Un fs [] H H1 h h') : Un fs ex H H1 h h' :=
  ⟨fun b o e n hf _ => u.keep b o e n hf (by simp), fun b o e n hf _ => u.slot b o e n hf (by simp), fun b o e n _ => u.free b o e n (by simp), fun b o e _ => u.there b o e (by simp), u.tups, u.frzs, u.tbls⟩
/-- a lambda is entered: what the maker's cells held at s they hold still -/
theorem lam_enterC {A : Around} {outer : List Env} {E : XK} {f c' : Addr} {h1 : Heap} {tk : Nat} {bs : List (Str × Value)} {fp : List Addr} (I : Inv X pins σ H s) (hfp : ∀ b ∈ fp, ∀ x c, X.env.cells.lookup x = some c → c ≠ b) (L : LamN X.N X.env.scope sc) (e0 : Env0 X.prog X.w X.K X.mg X.base A outer s1 HZ) (hd : A.handled = none)
    (un : Un (frs X.stack) fp H HZ s.heap s1.heap) (hns : h1.Ns s1.heap.objs.size fun y => bs.reverse.lookup y) (kp : ∀ b o, s1.heap.get? b = some o → h1.get? b = some o) :
    Inv (lamCx X A outer s1 HZ E sc f c') [] σ HZ { s1 with heap := h1, toks := tk } := by
  have has := L.has I.ok
  have inn : ∀ {y c}, (cloFrom X.env.cells sc.names []).lookup y = some c → X.env.cells.lookup y = some c := by
    intro y c e
    rcases cloFrom_mem (PySem.mem_of_lookup e) with z | ⟨z1, z2⟩
    · cases z
    · obtain ⟨c1, hc⟩ := has _ z1 rfl
      have hc : X.env.cells.lookup y = some c1 := hc
      have : c = c1 := by rw [z2, hc] <;> rfl
      rw [this]; exact hc
  have out : ∀ {y}, sc.names.lookup y = some .free → ∃ c, (cloFrom X.env.cells sc.names []).lookup y = some c := fun {y} z =>
    mem_lookup (cloFrom_has (cells := X.env.cells) (acc := []) (show (y, NameKind.free) ∈ sc.names from PySem.mem_of_lookup z))
  have nfp : ∀ {y c}, X.env.cells.lookup y = some c → c ∉ fp := fun e z => hfp _ z _ _ e rfl
  have isC : ∀ {y : Str} {c : Addr} {v : Option Value}, X.env.cells.lookup y = some c → H c = none → s.heap.IsCell c v → h1.IsCell c v := by
    rintro y c v l n ⟨o, ho, hdt⟩
    obtain ⟨sl, q⟩ := un.any ho n (nfp l)
    exact ⟨_, kp _ _ q, hdt⟩
  have noX : ∀ b : Addr, b ∉ (lamCx X A outer s1 HZ E sc f c').ex := fun b z => absurd (show b ∈ ([] : List Addr) from z) (by simp)
  constructor
  · exact ⟨e0.mod, L.kind, rfl, rfl, Nat.le_refl _, fun y z c q1 q2 => I.ok.inj y z c (inn q1) (inn q2), fun y hy => by
      have hy : sc.names.lookup y = some .cell ∨ sc.names.lookup y = some .free := hy
      rcases hy with z | z
      · exact absurd rfl (L.own _ (PySem.mem_of_lookup z)).1
      · exact out z, fun y c z _ => (nomatch (show false = true from z)), fun _ => hd, Around.frames_deeper e0.frames, .inr ⟨rfl, rfl⟩, fun b z => absurd z (noX b), e0.bs, e0.bsz, fun b _ _ => noX b, fun b z => absurd z (noX b), e0.funs, e0.frf⟩
  · rfl
  · exact e0.bare
  · exact Un.kept kp
  · refine ⟨_, hns, fun i y v q1 q2 q3 => ?_⟩
    have q3 : Vis sc y := q3
    rcases q3 with k | k | k
    · exact absurd (List.mem_of_getElem? q1) ((L.own _ (PySem.mem_of_lookup k)).2 rfl)
    · exact absurd rfl (L.own _ (PySem.mem_of_lookup k)).1
    · obtain ⟨m, _, hl⟩ := I.loc
      have vis : Vis X.env.scope y := (L.free _ (PySem.mem_of_lookup k) rfl).elim (fun z => .inr (.inl z)) (fun z => .inr (.inr z))
      obtain ⟨w', r, q⟩ := hl i y v q1 q2 vis
      obtain ⟨c2, h2⟩ := out k
      refine ⟨w', r, .inr ⟨.inr k, c2, h2, ?_⟩⟩
      have c1 := inn h2
      rcases q with ⟨k', _⟩ | ⟨_, c3, e', z⟩
      · have k' : X.env.scope.names.lookup y = some .local := k'
        rcases L.free _ (PySem.mem_of_lookup k) rfl with z | z <;> rw [show X.env.scope.names.lookup y = _ from z] at k' <;> cases k'
      · rw [c1] at e'
        cases e'
        exact isC c1 (I.freeC y _ c1) z
  · intro y c e
    obtain ⟨w', z⟩ := I.cell y c (inn e)
    exact ⟨w', isC (inn e) (I.freeC y c (inn e)) z⟩
  · exact e0.hok.fresh (Nat.le_refl _)
  · intro y c e
    obtain ⟨v, o, ho, _⟩ := I.cell y c (inn e)
    exact un.free c o ho (I.freeC y c (inn e)) (nfp (inn e))
  · intro q hq
    exact absurd (show q ∈ ([] : List (Addr × Obj)) ++ [] from hq) (by simp)
  · exact e0.hok.kept kp
  · exact I.len
/-- a(), in the def that got the lambda from a block of the maker -/
theorem pe_askC {CXg : CXT} {Eg : XK} {Ng : List Str} {qg : Str} {sg : Scope} {g f c' : Addr} {cdg dV dc pm ct : Value} {pr : Arguments} {bd : Expr} {dfl : Option Int} {k i : Nat} {a : Str} {pn : List (Addr × Obj)} {xe : Value → Shared → Prop} {W : WX} {E : XK} {tb : TE} {p1 p2 : Pos} {fp : List Addr}
    (I0 : Inv X pins σ H0 s0) (hfp : ∀ b ∈ fp, ∀ x c, X.env.cells.lookup x = some c → c ≠ b) (ub : Un (frs X.stack) fp H0 H s0.heap s.heap) (L : LamN X.N X.env.scope sc) (hf : H f = some (.frz (lamO (X.env.qual ++ "<lambda>") pr bd sc (cloFrom X.env.cells sc.names []) dV dc pm c' ct) (.own f))) (dv : DvF H dV dfl) (hb : LamB pr bd sc dfl)
    (tk : Takes ((cxOf CXg X.prog X.w X.K X.mg X.base Ng qg sg g cdg X.A X.stack s H Eg).tr pn xe) W) (hr : Room (k + 1) (X.A.deeper (envOfC qg sg s.heap.objs.size g cdg)))
    (hbody : ∀ (A : Around) (outer : List Env) (s : Shared) (H : Hp), Room k (A.deeper (lamEnv X sc s.heap.objs.size f c')) → PE (lamCx X A outer s H E sc f c') bd tb)
    (hN : Ng[i]? = some a) (hv : Vis sg a) (hd : (a == ("__debug__" : Str)) = false := by decide) (hcd : (a == ("__classdict__" : Str)) = false := by decide) :
    PE ((cxOf CXg X.prog X.w X.K X.mg X.base Ng qg sg g cdg X.A X.stack s H Eg).tr pn xe) (.Call (.Name a p1) [] [] p2)
      (fun σZ HZ Q => σZ[i]? = some (some (.ref f)) ∧ HZ c' = some (CodeO c' (X.env.qual ++ "<lambda>")) ∧ (∀ cls d H', E cls d H' → W cls d σZ H') ∧ tb σ HZ Q) := by
  constructor
  intro pinsZ sZ σZ HZ Q IZ want
  obtain ⟨w1, w2, hW, w3⟩ := want
  refine wpAny_Call_Name_kw (thn ((pe_var (pos := p1) (i := i) hN hv hd hcd).run pinsZ sZ σZ HZ (fun v H1 => v = .ref f ∧ H1 = HZ) IZ ⟨.ref f, w1, rfl, rfl⟩) fun u s1 got => ?_)
  obtain ⟨v, H1, I1, r1, ev, eH⟩ := got
  subst ev
  rw [eH] at I1
  have eu : u = Value.ref f := r1
  subst eu
  have un : Un (frs X.stack) [] H HZ s.heap s1.heap := I1.base
  have of1 := (I1.hok f _ (un.frzs f _ _ hf)).1
  refine PySem.W.callWith_F0 ⟨_, _, _, _, of1⟩ ?_
  obtain ⟨⟨oc, vs, t, hoc, hdc, hvc⟩, _, _⟩ := I1.hok c' _ w2
  have bnd : ∃ bs, BindsTo s1 (PySem.W.kdv_fn "<lambda>" (X.env.qual ++ "<lambda>") pr (.expr bd) sc (cloFrom X.env.cells sc.names []) dV dc pm (.ref c') ct) ⟨[], []⟩ bs ∧ ∀ y ∈ bs, sc.names.lookup y.1 = some .local := by
    cases hb with
    | no h =>
      have dv : dV = .none := dv
      subst dv
      exact ⟨[], .of_eq (h _ _ _ _ _ _), fun y hy => absurd hy (by simp)⟩
    | @one i0 nm hl h =>
      obtain ⟨T, t0, rfl, gT⟩ := dv
      obtain ⟨kk, z1, z2⟩ := h (X.env.qual ++ "<lambda>") (cloFrom X.env.cells sc.names []) T dc pm (.ref c') ct
      refine ⟨[(nm, .int i0 t0)], .of_defaults (T := T) rfl (I1.hok T _ (un.frzs T _ _ gT)).1 rfl z1 (z2 _), fun y hy => ?_⟩
      rw [List.mem_singleton] at hy
      subst hy
      exact hl
  obtain ⟨bs, bt, bl⟩ := bnd
  have go : codeAny (model X.prog X.w) (X.A.deeper (envOfC qg sg s.heap.objs.size g cdg)) (.call (.ref f) ⟨[], []⟩) (CR (L2.CX X.prog X.w) (envOfC qg sg s.heap.objs.size g cdg :: X.stack) X.prog X.w HZ s1 Q E) s1 := by
    refine PySem.W.kla_callFunE hr.depth of1 rfl L.co L.gen rfl ⟨c', oc, vs, t, rfl, hoc, hdc, hvc⟩ (bt _ _ _ _ ?_)
    refine wpAny_newFunctionEnv (fun y hy => (L.own y hy).1) bl (fun h1 hns hsb => ⟨I1.nolimit.fresh _ hsb, ?_⟩) L.kind
    have keep1 : ∀ b o, s1.heap.get? b = some o → h1.get? b = some o := fun b o e => hsb.extBut b o (Nat.ne_of_lt (Heap.lt_size e)) (Heap.get?_push_of_some _ e)
    have J := lam_enterC (E := E) (f := f) (c' := c') (tk := s1.toks + bs.length) I0 hfp L I1.env0 hr.hd (ub.trans (un_wide un)) hns keep1
    refine PySem.W.kla_codeExpr (wpAny_mono ((hbody _ _ s1 HZ (hr.deeper _)).run [] _ _ HZ Q J w3) (fun v s' res => ?_) fun _ _ z => z)
    obtain ⟨w', H', J', rv, q⟩ := res
    exact ⟨w', H', J'.os, J'.bare, J'.base, J'.hok, rv, q⟩
  refine wpAny_call (codeAny_mono go fun r s' res => ?_)
  cases r with
  | error e => exact tk e s' (XE.of_call (X := (cxOf CXg X.prog X.w X.K X.mg X.base Ng qg sg g cdg X.A X.stack s H Eg).tr pn xe) I1 (fun cls d H' z => hW cls d H' z) res)
  | ok fl =>
    cases fl with
    | ret u => exact I1.after res
    | next => exact (show False from res).elim
    | brk => exact (show False from res).elim
    | cont => exact (show False from res).elim
end
end LJ
namespace LJ
open PySem PySem.Spec PyProof.Rows L2 LamX DJ
/-! ### [x(a) for a in asks], asks a list of lambdas of the running def -/
structure LamI where
  pr : Arguments
  bd : Expr
  sc : Scope
  dfl : Option Int
  t : XK → TE
def tAskL (q : Str) (cells : List (Str × Addr)) (ls : List LamI) (TT : (XK → Hp → VK → Prop) → Addr → List V → Hp → VK → Prop) (ta : TA) (vs : List Nat) : TE := fun σ H Q =>
  ta σ H fun us H1 => ∃ l ∈ ls, ∃ f c', us = [.ref f] ∧ LamF q cells l.pr l.bd l.sc l.dfl H1 f c' ∧ H1 c' = some (CodeO c' q) ∧ TT (fun E H' Q' => l.t E (wipe σ vs) H' Q') c' [] H1 Q
section
variable {X : Cx}
theorem pe_askL {TT : (XK → Hp → VK → Prop) → Addr → List V → Hp → VK → Prop} {x a : Str} {st : Stmt} {k : Nat} {Ng ps : List Str} {ls : List LamI} {e : Expr} {ta : TA} {p pos : Pos} {s0 : Shared} {H0 : Hp} {pins : List (Addr × Obj)} {σ0 : L2.St} {fp : List Addr} {scope : Scope} {ce : Env} {vs : List Nat}
    (I0 : Inv X pins σ0 H0 s0) (hfp : ∀ b ∈ fp, FpOk X pins H0 b) (D : Df X.K X.mg x st ps) (hg : Gl (X.blk s0 H0 scope ce fp) x) (Sg : FnScope Ng ps (defScope st)) (hNg : Ng[0]? = some a) (hva : Vis (defScope st) a) (hlen : ps.length = 1)
    (hG : ∀ (g : Addr) (cdg : Value), GivesG X Ng x (defScope st) g cdg (defBody st) a (X.env.qual ++ "<lambda>") TT) (hr : Room (k + 2) X.A) (ha : PA (X.blk s0 H0 scope ce fp) [e] ta)
    (hls : ∀ l ∈ ls, LamN X.N X.env.scope l.sc ∧ LamB l.pr l.bd l.sc l.dfl ∧ ∀ (A : Around) (outer : List Env) (s : Shared) (H : Hp) (E : XK) (f c' : Addr), Room k (A.deeper (lamEnv X l.sc s.heap.objs.size f c')) → PE (lamCx X A outer s H E l.sc f c') l.bd (l.t E))
    (hdb : (x == ("__debug__" : Str)) = false := by decide) (hd : (a == ("__debug__" : Str)) = false := by decide) (hcd : (a == ("__classdict__" : Str)) = false := by decide)
    (hst : starEach [e] ce = [(false, eval e ce)] := by rfl) (hpl : (backTo pos (starEach [] ce)).any (·.1) = false := by rfl) :
    PE (X.blk s0 H0 scope ce fp) (.Call (.Name x p) [e] [] pos) (fun σ2 H Q => wipe σ2 vs = wipe σ0 vs ∧ tAskL (X.env.qual ++ "<lambda>") X.env.cells ls TT ta vs σ2 H Q) := by
  obtain ⟨g, fd, F, hm, hb⟩ := D.ex
  obtain ⟨oc, od, kV, doc, pm, an, cdv, ct0, osl, rfl, lk, hcg⟩ := F.ex
  constructor
  intro pn s σ H Q I want
  obtain ⟨same, want⟩ := want
  refine wpAny_Call_Name_kw (ld_glob I hg hm ?_ hdb)
  refine PySem.W.callWith_K (h₀ := X.base) I.ok.mod.kin F.kp (thn (ha.run pos pn s σ H _ I want) fun us s2 got => ?_) hst hpl
  obtain ⟨vs2, H2, I2, rv, q⟩ := got
  refine ⟨I2.kIn, ?_⟩
  obtain ⟨l, hl, f, c', rfl, ⟨dV, dc, pm', ct, hf, dv⟩, hc, tt⟩ := q
  obtain ⟨L, lb, hbody⟩ := hls l hl
  rw [same] at tt
  have IW : Inv X pins (wipe σ0 vs) H0 s0 := I0.weak (wipe_length _ _) fun _ _ z => (wipe_some z).1
  have ub : Un (frs X.stack) fp H0 H2 s0.heap s2.heap := I2.base
  have hfp' : ∀ b ∈ fp, ∀ x c, X.env.cells.lookup x = some c → c ≠ b := fun b hb => (hfp b hb).2.2.2.2.1
  have ln : us.length = ps.length := by rw [← rv.length, hlen] <;> rfl
  have run : codeAny (model X.prog X.w) X.A (.call (.ref g) ⟨us, []⟩) (CR CX0 X.stack X.prog X.w H2 s2 Q E0) s2 := by
    refine run_ofS (N := Ng) (ps := ps) (us := us) (vs := [.ref f]) lk hcg Sg hr I2.env0 (by
      have z := hb s2 us I2.kIn (by rw [List.append_nil]; exact ln)
      rw [List.append_nil] at z
      exact z) rv (by rw [hlen] <;> rfl) fun hr' => ?_
    exact hG g cdv f c' s2 H2 Q [] _ (fun W pn xe E p1 p2 tk => pe_askC (i := 0) IW hfp' ub L hf dv lb tk hr' (fun A outer s H hr2 => hbody A outer s H E f c' hr2) hNg hva hd hcd) tt
  refine wpAny_call (codeAny_mono run fun r s3 res => ?_)
  cases r with
  | error e => exact (show False from res).elim
  | ok fl =>
    cases fl with
    | ret u => exact I2.after res
    | next => exact (show False from res).elim
    | brk => exact (show False from res).elim
    | cont => exact (show False from res).elim
end
/-! #### at the layer of data -/
theorem DvF.mono {H H' : Hp} {dV : Value} {d : Option Int} (e : Same H H') (h : DvF H dV d) : DvF H' dV d := by
  cases d with
  | none => exact h
  | some i => exact let ⟨T, t, a, b⟩ := h; ⟨T, t, a, e _ _ b⟩
theorem LamF.mono {q : Str} {cells : List (Str × Addr)} {pr : Arguments} {bd : Expr} {sc : Scope} {dfl : Option Int} {H H' : Hp} {f c' : Addr} (e : Same H H') (h : LamF q cells pr bd sc dfl H f c') : LamF q cells pr bd sc dfl H' f c' :=
  let ⟨a, b, c, d, z, w⟩ := h; ⟨a, b, c, d, e _ _ z, w.mono e⟩
/-- a lambda, as data -/
def lamD (q : Str) (cells : List (Str × Addr)) (pr : Arguments) (bd : Expr) (sc : Scope) (dfl : Option Int) : Dt := .ext fun H v => ∃ f c', v = .ref f ∧ LamF q cells pr bd sc dfl H f c' ∧ H c' = some (CodeO c' q)
abbrev LamI.dt (l : LamI) (q : Str) (cells : List (Str × Addr)) : Dt := lamD q cells l.pr l.bd l.sc l.dfl
section
variable {K : PySem.W.Frag} {G : List (Option Sl)} {M M' : List MO}
theorem ev_lamV {q : Str} {cells : List (Str × Addr)} {P : Addr} {pr : Arguments} {bd : Expr} {sc : Scope} {dfl : Option Int} {kT : Nat} {at_ : Pos} (hT : M[kT]? = some (tabM P q)) : EvE K (tLamV q cells P at_ pr bd sc dfl) G M (.d (lamD q cells pr bd sc dfl)) M :=
  ev_lamT (M' := M) (t := fun _ _ _ _ => True) (TT := fun _ c' _ H2 Q => ∀ f H3, LamNew q cells pr bd sc c' H2 dfl f H3 → Q (.ref f) H3) hT fun F B as σ H ow sl c' hc Q q' f H3 new => by
    cases new with
    | @no _ dc pm ct hf =>
      have g1 := ow.gr hf (.frz (lamO q pr bd sc (cloFrom cells sc.names []) .none dc pm c' ct) (.own f))
      refine q' _ _ _ g1 (ow.new hf _) fun H' sm => ⟨f, c', rfl, ⟨_, _, _, _, sm _ _ upd_same, rfl⟩, sm _ _ (g1.1 _ _ hc)⟩
    | @one T _ t i dc pm ct hT' hf =>
      have g1 := ow.gr hT' (.frz (PySem.W.kdv_tup [.int i t]) (.own T))
      have o1 := ow.new hT' (.frz (PySem.W.kdv_tup [.int i t]) (.own T))
      have g2 := o1.gr hf (.frz (lamO q pr bd sc (cloFrom cells sc.names []) (.ref T) dc pm c' ct) (.own f))
      refine q' _ _ _ (g1.trans g2) (o1.new hf _) fun H' sm => ⟨f, c', rfl, ⟨_, _, _, _, sm _ _ upd_same, T, t, rfl, sm _ _ (g2.1 _ _ upd_same)⟩, sm _ _ ((g1.trans g2).1 _ _ hc)⟩
theorem ev_askL {q : Str} {cells : List (Str × Addr)} {ls : List LamI} {TT : (XK → Hp → VK → Prop) → Addr → List V → Hp → VK → Prop} {ta : TA} {vs : List Nat} {l : LamI} {z : Dt} (hl : l ∈ ls) (ha : EvA K ta G M [.d (l.dt q cells)] M) (hM : M'.length = M.length)
    (h : ∀ F B as σ H, Ow K F B as M H → Slt K B as (wipeG G vs) σ → ∀ c', B c' = some (CodeO c' q) → ∀ Q : VK, (∀ v B' H', Gr F B B' → Ow K F B' as M' H' → Rp K B' z v → Q v H') → TT (fun E H' Q' => l.t E σ H' Q') c' [] H Q) :
    EvE K (tAskL q cells ls TT ta vs) G M (.d z) M' := fun F B as σ H ow sl Q qq => by
  refine ha F B as σ H ow sl _ fun us B1 as1 H1 g1 p1 o1 r1 => ?_
  have e1 : as1 = as := px_same p1 (by rw [o1.len, ow.len])
  subst e1
  obtain ⟨v, r, rfl, rv, rr⟩ := r1
  have rr : r = [] := rr
  subst rr
  obtain ⟨f, c', rfl, hf, hc⟩ := rv B1 (Same.refl B1)
  exact ⟨l, hl, f, c', rfl, hf.mono o1.bb, o1.bb _ _ hc, h F B1 as1 _ H1 o1 (slt_wipe (sl.mono g1.1 p1) vs) c' hc Q fun v B' H' g' o' r' => qq v B' as1 H' (g1.trans g') (Px.refl as1) o' r'⟩
end
end LJ
namespace LJ
open PySem PySem.Spec PyProof.Rows L2 LamX DJ
/-! ### try: return ask() / except C1 as e: .. / except C2 as e: .. -/
section
variable {K : PySem.W.Frag} {G : List (Option Sl)} {M M' : List MO}
/-- what a lambda's reading gives such a def -/
theorem tt_told2 {q : Str} {C1 C2 : Addr} {f1 f2 : Str} {okr ok1 ok2 : Dt → Dt → Prop} {t : XK → TE} {z : Dt} (hl : M'.length = M.length)
    (h : (∃ x, okr x z ∧ ∀ E : XK, EvE K (t E) G M (.d x) M') ∨ (∃ C f y, ((C = C1 ∧ f = f1 ∧ ok1 y z) ∨ (C = C2 ∧ f = f2 ∧ ok2 y z)) ∧ ∀ E : XK, EvX K (t E) (fun cls d _ H => E cls d H) G M ⟨.ref C, some (f, y)⟩ M')) :
    ∀ F B as σ H, Ow K F B as M H → Slt K B as G σ → ∀ c', B c' = some (CodeO c' q) → ∀ Q : VK, (∀ v B' H', Gr F B B' → Ow K F B' as M' H' → Rp K B' z v → Q v H') → TTold2 K q C1 C2 f1 f2 okr ok1 ok2 (fun E H' Q' => t E σ H' Q') c' [] H Q := fun F B as σ H ow sl c' b1 Q qq => by
  have al : ∀ {as' : List Addr} {B' H'}, Ow K F B' as' M' H' → Px as as' → as' = as := fun o p => px_same p (by rw [o.len, hl, ow.len])
  refine ⟨ow.bb _ _ b1, rfl, F, B, as, M, M', ow, hl, ?_⟩
  rcases h with ⟨x, hx, h⟩ | ⟨C, f, y, hy, h⟩
  · exact .inl ⟨x, z, hx, fun E Q' q' => h E F B as σ H ow sl Q' fun v B3 as3 H3 g3 p3 o3 r3 => q' v B3 H3 g3 (by have e := al o3 p3; rw [e] at o3; exact o3) r3, qq⟩
  · exact .inr ⟨C, f, y, z, hy, fun E Q' q' => h E F B as σ H ow sl (fun B3 as3 H3 cls d g3 p3 o3 r3 => q' cls d B3 H3 g3 (by have e := al o3 p3; rw [e] at o3; exact o3) r3) Q', qq⟩
/-- .. of a lambda out of a list -/
theorem ev_askL2 {q : Str} {cells : List (Str × Addr)} {ls : List LamI} {C1 C2 : Addr} {f1 f2 : Str} {okr ok1 ok2 : Dt → Dt → Prop} {ta : TA} {vs : List Nat} {l : LamI} {z : Dt} (hl : l ∈ ls) (ha : EvA K ta G M [.d (l.dt q cells)] M) (hM : M'.length = M.length)
    (h : (∃ x, okr x z ∧ ∀ E : XK, EvE K (l.t E) (wipeG G vs) M (.d x) M') ∨ (∃ C f y, ((C = C1 ∧ f = f1 ∧ ok1 y z) ∨ (C = C2 ∧ f = f2 ∧ ok2 y z)) ∧ ∀ E : XK, EvX K (l.t E) (fun cls d _ H => E cls d H) (wipeG G vs) M ⟨.ref C, some (f, y)⟩ M')) :
    EvE K (tAskL q cells ls (TTold2 K q C1 C2 f1 f2 okr ok1 ok2) ta vs) G M (.d z) M' := ev_askL hl ha hM (tt_told2 hM h)
end
theorem told_gives2R {X : Cx} {Ng : List Str} {x a q f1 f2 : Str} {sg : Scope} {g C1 C2 : Addr} {cdg : Value} {p1 p2 p3 p8 : Pos} {h0 h1 : ExceptHandler} {ts1 ts2 : Addr → Value → Option Addr → TS} {ok1 ok2 : Dt → Dt → Prop}
    (hNd : Ng.Nodup) (hl : Ng.length = 2)
    (e11 : PySem.W.exmOne X.K (.ref C1) (.ref C1) = some true) (e21 : PySem.W.exmOne X.K (.ref C2) (.ref C1) = some false) (e22 : PySem.W.exmOne X.K (.ref C2) (.ref C2) = some true)
    (hh : ∀ (s : Shared) (H : Hp), HdsAs (cxOf CX0 X.prog X.w X.K X.mg X.base Ng x sg g cdg X.A X.stack s H E0) [h0, h1] [(.ref C1, 1, ts1), (.ref C2, 1, ts2)])
    (hs1 : ∀ y z : Dt, ok1 y z → ∀ (fv : V) a d M, EvS X.K (ts1 a (.ref C1) d) [some (.d (.raw fv)), some (.d (XfR X.K a d f1 y))] M (.rt (.d z) M))
    (hs2 : ∀ y z : Dt, ok2 y z → ∀ (fv : V) a d M, EvS X.K (ts2 a (.ref C2) d) [some (.d (.raw fv)), some (.d (XfR X.K a d f2 y))] M (.rt (.d z) M)) :
    GivesG X Ng x sg g cdg [.Try [.Return (some (.Call (.Name a p1) [] [] p2)) p3] [h0, h1] [] [] p8] a q (TTold2 X.K q C1 C2 f1 f2 Eq ok1 ok2) := by
  intro f c' s H Q vs tl act tt
  obtain ⟨hc, rfl, F, B, as, M, M', ow, hlM, tt⟩ := tt
  have e1 : L2.start Ng [V.ref f] = [some (V.ref f), none] := by
    unfold L2.start
    rw [hl]
    rfl
  have al : ∀ {as' : List Addr} {B' H'}, Ow X.K F B' as' M' H' → Px as as' → as' = as := fun o p => px_same p (by rw [o.len, hlM, ow.len])
  have sl0 : ∀ B : Hp, Slt X.K B as [some (.d (.raw (.ref f))), none] [some (V.ref f), none] := fun B => ⟨rfl, fun i s q => by
    match i with
    | 0 => cases q; exact ⟨_, rfl, rfl⟩
    | 1 => cases q
    | n + 2 => cases q⟩
  refine ⟨_, pss_one (ps_try_asN (X := cxOf CX0 X.prog X.w X.K X.mg X.base Ng x sg g cdg X.A X.stack s H E0) (Wout := fun _ _ _ _ => False)
    (tb := fun W => tRet (fun σ H Q => ∃ E : XK, σ[0]? = some (some (.ref f)) ∧ H c' = some (CodeO c' q) ∧ (∀ cls d H', E cls d H' → W cls d σ H') ∧ tl E H Q)) rfl rfl hNd L2.takes0 (fun W pn xe tk _ => pss_one (ps_ret ⟨fun pins s' σ H' Q' I h' => ?_⟩)) (hh s H)), ?_⟩
  · obtain ⟨E, w1, w2, w3, w4⟩ := h'
    exact (act W pn xe E p1 p2 tk).run pins s' σ H' Q' I ⟨w1, w2, w3, w4⟩
  · refine ⟨fun cls d H' => wAsN X.K (fun _ _ _ _ => False) _ _ cls d _ H', by rw [e1] <;> rfl, hc, fun _ _ _ z => z, ?_⟩
    rcases tt with ⟨z, z', rfl, h1, h2⟩ | ⟨C, fl, y, z, hy, h1, h2⟩
    · exact h1 _ _ h2
    · refine h1 _ _ fun cls d B' H' g o' r => ?_
      obtain ⟨rfl, dd, v, ed, eb, rv⟩ := r
      have key : ∀ (a : Addr) (fl : Str) (eb : B' dd = some (.xd [(fl, v)])), Slt X.K B' as [some (.d (.raw (.ref f))), some (.d (XfR X.K a d fl y))] [some (V.ref f), some (.ref a)] := fun a fl eb => (sl0 B').set 1 (s := .d (XfR X.K a d fl y)) (v := .ref a) (fun H2 sm => ⟨rfl, dd, v, ed, sm _ _ eb, Rp.mono sm _ _ rv⟩)
      rcases hy with ⟨rfl, rfl, hy⟩ | ⟨rfl, rfl, hy⟩
      · refine ⟨true, e11, fun _ a na => ?_, fun z => nomatch z⟩
        rw [e1]
        exact hs1 y z hy (.ref f) a d M' F B' as _ H' o' (key a _ eb) _ fun v' B2 as2 H2 g2 p2 o2 r2 => h2 v' B2 H2 (g.trans g2) (by have e := al o2 p2; rw [e] at o2; exact o2) r2
      · refine ⟨false, e21, fun z => (nomatch z), fun _ => ⟨true, e22, fun _ a na => ?_, fun z => nomatch z⟩⟩
        rw [e1]
        exact hs2 y z hy (.ref f) a d M' F B' as _ H' o' (key a _ eb) _ fun v' B2 as2 H2 g2 p2 o2 r2 => h2 v' B2 H2 (g.trans g2) (by have e := al o2 p2; rw [e] at o2; exact o2) r2
end LJ
namespace LJ
open PySem PySem.Spec PyProof.Rows L2 LamX DJ
/-! ### an own error as a value that is not raised -/
section
variable {X : Cx} {C : Addr} {x f : Str} {j : Nat} {p pos : Pos} {e : Expr} {ta : TA}
theorem pe_ofMk {t : L2.St → Hp → XK → Prop} (h : PMk X e t) : PE X e (fun σ H Q => t σ H fun cls d H' => ∀ a oe, H' a = none → Zc cls d oe → (∃ vs, oe.data = .fields vs) → Q (.ref a) (upd H' a (.frz oe (.own a)))) := by
  constructor
  intro pins s σ H Q I want
  refine wpAny_mono (h pins s σ H _ I want) (fun u s' got => ?_) fun _ _ z => z
  obtain ⟨a, oe, vs, sI, H', cls, d, rfl, J, k, hne, ha, hz, hd, h1, na, os, ag, r, q⟩ := got
  have Z := J.laidN (t' := s'.toks) (o := .frz oe (.own a)) k hne na (show ObjOk X.prog X.w _ s'.heap a (.frz oe (.own a)) from ⟨ha, oe, ha⟩)
  exact ⟨.ref a, _, ⟨Z.ok, os.trans J.os, ag, Z.base, Z.loc, Z.cell, Z.free, Z.freeC, Z.pin, Z.hok, Z.len⟩, rfl, q a oe na hz ⟨vs, hd⟩⟩
def tMkE (K : PySem.W.Frag) (C : Addr) (f : Str) (ta : TA) : TE := fun σ H Q => tMkO C (spInit K f) [] ta σ H fun cls d H' => ∀ a oe, H' a = none → Zc cls d oe → (∃ vs, oe.data = .fields vs) → Q (.ref a) (upd H' a (.frz oe (.own a)))
theorem pe_mkE (T : Xi X.prog X.w X.K X.mg X.base x f C) (hr : Room j X.A) (hj : 2 ≤ j) (hg : Gl X x) (ha : PA X (e :: []) ta) (hdb : (x == ("__debug__" : Str)) = false := by decide)
    (he : starEach (e :: []) X.env = (false, eval e X.env) :: starEach [] X.env := by rfl) (hpl : (backTo pos (starEach [] X.env)).any (·.1) = false := by rfl) :
    PE X (.Call (.Name x p) [e] [] pos) (tMkE X.K C f ta) := by
  obtain ⟨fI, fd, h1, h2, h3, h4⟩ := T.it
  exact pe_ofMk (pmk_oex T.ox h1 h2 h3 (hr.mono hj) h4 .nil (fun _ _ _ _ _ _ _ z => z.elim) hg T.gC ha hdb he hpl)
/-- isinstance(e, c), e an own error that is a value -/
def rIsV (K : PySem.W.Frag) : List V → Hp → VK → Prop := fun xs H Q => ∃ (a D dd : Addr) (oe : Obj) (fs : List (Str × V)) (c : V) (cv : Value) (b : Bool), xs = [.ref a, c] ∧ ExcC K D ∧ H a = some (.frz oe (.own a)) ∧ Zc (.ref D) (some dd) oe ∧ (∃ vs, oe.data = .fields vs) ∧ H dd = some (.xd fs) ∧ (∀ u, RelV c u → u = cv) ∧ PySem.W.kitOne K (.ref D) cv = some b ∧ Q (.bl b) H
theorem call_isV : CallR X (.builtin "isinstance") (rIsV X.K) := by
  intro pins s σ H xs us Q I r h
  obtain ⟨a, D, dd, oe, fs, c, cv, b, rfl, C, hf, hz, hv, hd, hcv, e, q⟩ := h
  obtain ⟨u1, u2, rfl, r1, r2⟩ := r.two
  cases (show u1 = Value.ref a from r1)
  cases hcv _ r2
  have hget := (I.hok a _ hf).1
  obtain ⟨vs, hv⟩ := hv
  obtain ⟨mA, ⟨o, es, ep, ho, _⟩, _⟩ := (show ObjOk X.prog X.w H s.heap dd (.xd fs) from I.hok dd _ hd)
  obtain ⟨oc, od, oda, osl⟩ := oe
  obtain ⟨h1, h2⟩ := hz
  have h1 : oc = .ref D := h1
  have h2 : od = some dd := h2
  have hv : oda = .fields vs := hv
  subst h1; subst h2; subst hv
  have J : ∃ o, PySem.W.InstAt s.heap a ⟨.ref D, some dd, .fields vs, osl⟩ D (some o) := ⟨o, hget, rfl, rfl, ho⟩
  have cd : ∃ cd, PySem.W.clsIn X.K D = some cd := by
    obtain ⟨cd, e, _⟩ := PySem.W.any_some C.hd
    exact ⟨cd, e⟩
  have Z : PySem.W.KitX X.K (.ref a) (.ref D) (fun h => ∃ o, PySem.W.InstAt h a ⟨.ref D, some dd, .fields vs, osl⟩ D (some o)) := by
    refine ⟨fun M h X I => I.elim fun o I => I.type, fun M h XX _ => ?_, fun h tp d0 its n sl XX htp => ?_, fun XX I k => I.elim fun o I => PySem.W.dj_class C.hg C.hk C.hs C.hd C.ha C.hn C.ht C.hm XX I k⟩
    · obtain ⟨cd, hcd⟩ := cd
      unfold PySem.W.clsIn at hcd
      split at hcd
      · rename_i c2 d2 cd2 sl2 ho2
        intro A2 Q2 E2 s2 keep q2
        unfold isType loadHead
        refine wpAny_bind ?_
        exact wpAny_loadPart (keep _ _ (XX _ _ ho2)) (wpAny_pure q2)
      · cases hcd
    · obtain ⟨cd, hcd⟩ := cd
      rcases hb : (Value.ref D == Value.ref tp) with _ | _
      · rfl
      · have same : D = tp := Value.ref.inj (beq_iff_eq.mp hb)
        subst same
        unfold PySem.W.clsIn at hcd
        split at hcd
        · rename_i c2 d2 cd2 sl2 ho2
          have clash := (XX _ _ ho2).symm.trans htp
          cases clash
        · cases hcd
  exact PySem.W.kia_one Z I.kIn J e (fun z => nomatch z) fun tk => ⟨.bl b, H, I.kept (t' := tk) fun _ _ z => z, rfl, q⟩
end
/-- an own error of the class C, as data -/
def excV (C : Addr) : Dt := .ext fun H v => ∃ (a dd : Addr) (oe : Obj) (fs : List (Str × V)), v = .ref a ∧ H a = some (.frz oe (.own a)) ∧ Zc (.ref C) (some dd) oe ∧ (∃ vs, oe.data = .fields vs) ∧ H dd = some (.xd fs)
section
variable {K : PySem.W.Frag} {G : List (Option Sl)} {M M1 : List MO} {ta : TA} {C D : Addr} {f : Str} {y : Dt} {b : Bool}
theorem ev_mkE (hx : OexC K C) (hn : PySem.W.findIn K (.ref C) f = some none) (h : EvA K ta G M [.d y] M1) : EvE K (tMkE K C f ta) G M (.d (excV C)) M1 := fun F B as σ H ow sl Q q => by
  refine h F B as σ H ow sl _ fun vs B1 as1 H1 g p o1 r => ?_
  obtain ⟨v, r1, e1, h1, e2⟩ := r
  have e2 : r1 = [] := e2
  subst e2; subst e1
  refine ⟨show 1 ≤ 1000 by decide, fun a na => ⟨a, C, v, rfl, hx, hn, upd_same, fun dx nd ne => ⟨rfl, dx, [(f, v)], upd_same, ?_, ?_, fun a2 oe na2 hz hd => ?_⟩⟩⟩
  · rw [upd_ne ne, upd_same]
  · rw [upd_ne ne] at nd
    exact nd
  · rw [upd_ne ne] at nd
    have eh : upd (del (upd (upd (upd H1 a (exo a C none)) dx (exd dx [(f, v)])) a (exo a C (some dx))) a) dx (.xd [(f, v)]) = upd H1 dx (.xd [(f, v)]) := by
      funext b
      by_cases z : b = dx
      · rw [z, upd_same, upd_same]
      · rw [upd_ne z, upd_ne z]
        by_cases z2 : b = a
        · rw [z2, del_same, na]
        · rw [del_ne z2, upd_ne z2, upd_ne z, upd_ne z2]
    rw [eh] at na2 ⊢
    have g2 := o1.gr nd (.xd [(f, v)])
    have o2 := o1.new nd (.xd [(f, v)])
    have g3 := o2.gr na2 (.frz oe (.own a2))
    exact q _ _ as1 _ ((g.trans g2).trans g3) p (o2.new na2 _) fun H' sm => ⟨a2, dx, oe, _, rfl, sm _ _ upd_same, hz, hd, sm _ _ (g3.1 _ _ upd_same)⟩
theorem rc_isV {c : V} {cv : Value} (E : ExcC K D) (hc : ∀ u, RelV c u → u = cv) (hk : PySem.W.kitOne K (.ref D) cv = some b) : RC K (rIsV K) [excV D, .raw c] (.bl b) := fun F B as M H vs Q ow r q => by
  obtain ⟨v, r1, e1, hv, w, r2, e2, hw, e3⟩ := r
  have e3 : r2 = [] := e3
  have hw : w = c := hw
  subst e3; subst e2; subst e1; subst hw
  obtain ⟨a, dd, oe, fs, rfl, h1, h2, h3, h4⟩ := hv B (Same.refl B)
  exact ⟨a, D, dd, oe, fs, w, cv, b, rfl, E, ow.bb _ _ h1, h2, h3, ow.bb _ _ h4, hc, hk, q _ B H (Gr.refl F B) ow rfl⟩
end
end LJ
namespace LJ
open PySem PySem.Spec PyProof.Rows L2 LamX DJ
/-! ### != of two lists whose items are the same things -/
/-- the same: flat, or one thing, or tuples of such -/
def SameV (K : PySem.W.Frag) (H : Hp) : Nat → V → V → Prop
  | 0 => fun x y => (x = y ∧ flatB x = true) ∨ ∃ a, x = .ref a ∧ y = .ref a
  | n + 1 => fun x y => SameV K H n x y ∨ ∃ a b xs ys, x = .ref a ∧ y = .ref b ∧ SqT K H a xs ∧ SqT K H b ys ∧ Paired (SameV K H n) xs ys
theorem paired_at {F : V → V → Prop} {A : Around} {s : Shared} (ih : ∀ x y v u, F x y → RelV x v → RelV y u → SeqAt.EqAt A s v u true) {xs ys : List V} (hp : Paired F xs ys) :
    ∀ {us ws : List Value}, Vals xs us → Vals ys ws → ∀ j (h1 : j < us.length) (h2 : j < ws.length), SeqAt.EqAt A s us[j] ws[j] true := by
  induction hp with
  | nil =>
    intro us ws r1 r2 j h1 h2
    cases r1
    exact absurd h1 (Nat.not_lt_zero j)
  | cons h _ k =>
    intro us ws r1 r2 j h1 h2
    cases r1 with
    | cons a1 b1 =>
      cases r2 with
      | cons a2 b2 =>
        cases j with
        | zero => exact ih _ _ _ _ h a1 a2
        | succ j => exact k b1 b2 j (Nat.lt_of_succ_lt_succ h1) (Nat.lt_of_succ_lt_succ h2)
section
variable {X : Cx} {pins : List (Addr × Obj)} {σ : L2.St} {H : Hp} {s : Shared}
theorem sameV_run (I : Inv X pins σ H s) : ∀ (n : Nat) (A : Around), A.units + n < cLine → ∀ (x y : V) (v u : Value), SameV X.K H n x y → RelV x v → RelV y u → SeqAt.EqAt A s v u true
  | 0, A, hu, x, y, v, u, h, rx, ry => by
    rcases h with ⟨rfl, f⟩ | ⟨a, rfl, rfl⟩
    · exact eqAt_same rx ry f
    · cases (show v = Value.ref a from rx)
      cases (show u = Value.ref a from ry)
      exact SeqAt.EqAt.same _
  | n + 1, A, hu, x, y, v, u, h, rx, ry => by
    rcases h with h | ⟨a, b, xs, ys, rfl, rfl, ha, hb, hp⟩
    · exact sameV_run I n A (by omega) x y v u h rx ry
    · cases (show v = Value.ref a from rx)
      cases (show u = Value.ref b from ry)
      by_cases e : a = b
      · subst e
        exact SeqAt.EqAt.same _
      · obtain ⟨us, r1, p1, _⟩ := I.tuple ha
        obtain ⟨ws, r2, p2, _⟩ := I.tuple hb
        have hsz : us.length = ws.length := by rw [← r1.length, ← r2.length]; exact Paired.length hp
        refine SeqAt.EqAt.of_refs e ?_
        have key := SeqAt.RcAt.tuples (A := A) (e := fun _ => true) p1 p2 (by omega) fun j h1 h2 => by
          have k := paired_at (sameV_run I n A.in1 (by show A.units + 1 + n < cLine; omega)) hp r1 r2 j (by simpa using h1) (by simpa using h2)
          simpa using k
        have e2 : ((List.range (min us.toArray.size ws.toArray.size)).all (fun _ => true) && us.toArray.size == ws.toArray.size) = true := by
          rw [show ((List.range (min us.toArray.size ws.toArray.size)).all fun _ => true) = true from List.all_eq_true.mpr fun _ _ => rfl]
          simp [hsz]
        rw [e2] at key
        exact key
end
def rNeSame (K : PySem.W.Frag) : R2 := fun x y H Q => ∃ a b xs ys, x = .ref a ∧ y = .ref b ∧ SqL K H a xs ∧ SqL K H b ys ∧ Paired (SameV K H 8) xs ys ∧ Q (.bl false) H
theorem op_neSame {X : Cx} (hu : X.A.units + 16 < cLine) : OpR X (compareOp .NotEq) (rNeSame X.K) := by
  intro pins s σ H x y v u Q I rx ry h
  obtain ⟨a, b, xs, ys, rfl, rfl, ha, hb, hp, q⟩ := h
  cases (show v = Value.ref a from rx)
  cases (show u = Value.ref b from ry)
  obtain ⟨us, r1, p1, _⟩ := I.list ha
  obtain ⟨ws, r2, p2, _⟩ := I.list hb
  have hsz : us.toArray.size = ws.toArray.size := by
    rw [List.size_toArray, List.size_toArray, ← r1.length, ← r2.length]
    exact Paired.length hp
  have key := SeqAt.RcNeAt.lists (A := X.A) (e := fun _ => true) p1.isList p2.isList hsz (by omega) fun j h1 h2 => by
    have k := paired_at (sameV_run I 8 X.A.in1 (by show X.A.units + 1 + 8 < cLine; omega)) hp r1 r2 j (by simpa using h1) (by simpa using h2)
    simpa using k
  rw [show ((List.range us.toArray.size).all fun _ => true) = true from List.all_eq_true.mpr fun _ _ => rfl] at key
  exact key X.prog X.w X.xe _ ⟨.bl false, H, I, rfl, q⟩
/-! #### a thing whose very value is known, besides -/
def both (v : V) (K : PySem.W.Frag) (D : Dt) : Dt := .ext fun H u => u = v ∧ Rp K H D u
/-- things that are the same -/
inductive SameD (K : PySem.W.Frag) : Nat → Dt → Dt → Prop where
  | non {n : Nat} : SameD K n .non .non
  | bl {n : Nat} (b : Bool) : SameD K n (.bl b) (.bl b)
  | int {n : Nat} (i : Int) : SameD K n (.int i) (.int i)
  | str {n : Nat} (x : List Nat) : SameD K n (.str x) (.str x)
  | ref {n : Nat} (a : Addr) (D E : Dt) : SameD K n (both (.ref a) K D) (both (.ref a) K E)
  | pr {n : Nat} {a b c d : Dt} (h : SameD K n a b) (h2 : SameD K n c d) : SameD K (n + 1) (.tup [a, c]) (.tup [b, d])
section
variable {K : PySem.W.Frag}
theorem sameV_flat {H : Hp} {x : V} (f : flatB x = true) : ∀ n, SameV K H n x x
  | 0 => .inl ⟨rfl, f⟩
  | n + 1 => .inl (sameV_flat f n)
theorem sameV_ref {H : Hp} {a : Addr} : ∀ n, SameV K H n (.ref a) (.ref a)
  | 0 => .inr ⟨a, rfl, rfl⟩
  | n + 1 => .inl (sameV_ref n)
theorem SameD.v {n : Nat} {d e : Dt} (h : SameD K n d e) : ∀ {H : Hp} {v u : V}, Rp K H d v → Rp K H e u → SameV K H n v u := by
  induction h with
  | non => intro H v u r1 r2; cases (show v = .non from r1); cases (show u = .non from r2); exact sameV_flat rfl _
  | bl b => intro H v u r1 r2; cases (show v = .bl b from r1); cases (show u = .bl b from r2); exact sameV_flat rfl _
  | int i => intro H v u r1 r2; cases (show v = .int i from r1); cases (show u = .int i from r2); exact sameV_flat rfl _
  | str x => intro H v u r1 r2; cases (show v = .str (tx x) from r1); cases (show u = .str (tx x) from r2); exact sameV_flat rfl _
  | ref a D E =>
    intro H v u r1 r2
    cases (r1 H (Same.refl H)).1
    cases (r2 H (Same.refl H)).1
    exact sameV_ref _
  | pr h h2 i1 i2 =>
    intro H v u r1 r2
    obtain ⟨a, vs, rfl, s1, v1, w1, rfl, p1, v2, w2, rfl, p2, rfl⟩ := r1
    obtain ⟨b, us, rfl, s2, u1, z1, rfl, q1, u2, z2, rfl, q2, rfl⟩ := r2
    exact .inr ⟨a, b, _, _, rfl, rfl, s1, s2, .cons (i1 p1 q1) (.cons (i2 p2 q2) .nil)⟩
theorem sameV_up {H : Hp} {x y : V} {n : Nat} (h : SameV K H n x y) : ∀ k, SameV K H (n + k) x y
  | 0 => h
  | k + 1 => .inl (sameV_up h k)
theorem rc_both {r : List V → Hp → VK → Prop} {v : V} {D z : Dt} {ds : List Dt} (h : RC K r (D :: ds) z) : RC K r (both v K D :: ds) z := fun F B as M H vs Q ow q qq => by
  obtain ⟨u, w, rfl, h1, h2⟩ := q
  exact h F B as M H (u :: w) Q ow ⟨u, w, rfl, (h1 B (Same.refl B)).2, h2⟩ qq
theorem sameD_all {n : Nat} (hn : n ≤ 8) {H : Hp} {xs ys : List Dt} (h : Paired (SameD K n) xs ys) : ∀ {vs us : List V}, RpL K H xs vs → RpL K H ys us → Paired (SameV K H 8) vs us := by
  induction h with
  | nil =>
    intro vs us p1 p2
    cases (show vs = [] from p1)
    cases (show us = [] from p2)
    exact .nil
  | cons h _ ih =>
    intro vs us p1 p2
    obtain ⟨v1, w1, rfl, a1, b1⟩ := p1
    obtain ⟨u1, z1, rfl, a2, b2⟩ := p2
    have k := sameV_up (h.v a1 a2) (8 - n)
    rw [Nat.add_sub_cancel' hn] at k
    exact .cons k (ih b1 b2)
theorem ro_neSame {n : Nat} {xs ys : List Dt} (hn : n ≤ 8) (h : Paired (SameD K n) xs ys) : RO K (rNeSame K) (.lst xs) (lstX K ys) (.bl false) := fun F B as M H v u Q ow r1 r2 q => by
  obtain ⟨a, vs, rfl, s1, p1⟩ := r1
  obtain ⟨b, us, rfl, s2, p2⟩ := r2 B (Same.refl B)
  exact ⟨a, b, vs, us, rfl, rfl, ow.bb.seq s1, .inl (.inl (ow.bb _ _ s2)), sameD_all hn h (RpL.mono ow.bb _ _ p1) (RpL.mono ow.bb _ _ p2), q _ B H (Gr.refl F B) ow rfl⟩
/-- the value in a slot is taken by itself -/
theorem es_raw {G : List (Option Sl)} {M : List MO} {t : TS} {D : Dt} {o : Out} (i : Nat) (hG : G[i]? = some (some (.d D))) (hD : ∀ B v, Rp K B D v → ∃ a, v = .ref a) (h : ∀ a, EvS K t (G.set i (some (.d (both (.ref a) K D)))) M o) : EvS K t G M o := fun F B as σ H ow sl Z gd => by
  obtain ⟨v, hv, r⟩ := sl.2 i _ hG
  obtain ⟨a, rfl⟩ := hD B v r
  have key := sl.set (s := .d (both (.ref a) K D)) (v := .ref a) i (fun H2 sm => ⟨rfl, Rp.mono sm _ _ r⟩)
  have e : σ.set i (some (.ref a)) = σ := by
    refine List.ext_getElem? fun j => ?_
    by_cases z : i = j
    · subst z
      rw [List.getElem?_set_self (List.getElem?_eq_some_iff.mp hv).1, hv]
    · rw [List.getElem?_set_ne z]
  rw [e] at key
  exact h a F B as σ H ow key Z gd
end
end LJ
namespace LJ
open PySem PySem.Spec PyProof.Rows L2 LamX DJ
section
variable {K : PySem.W.Frag} {G : List (Option Sl)} {M : List MO} {t : TS} {o : Out}
/-- an owned list that is changed no more is data from here on -/
theorem es_freeze {xs : List Dt} (i k : Nat) (hG : G[i]? = some (some (.o k))) (hM : M[k]? = some (.lst xs)) (h : EvS K t (G.set i (some (.d (.lst xs)))) (M.set k .gone) o) : EvS K t G M o := fun F B as σ H ow sl Z gd => by
  obtain ⟨v, hv, q⟩ := ev_wk (ev_freezeX (ev_var (K := K) (M := M) hG) hM) lstX_lst F B as σ H ow sl (fun v H1 => σ[i]? = some (some v) → t Z σ H1) fun v B1 as1 H1 g p o1 r hv => by
    have key := (sl.mono g.1 p).set (s := .d (.lst xs)) (v := v) i r
    have e : σ.set i (some v) = σ := by
      refine List.ext_getElem? fun j => ?_
      by_cases z : i = j
      · subst z
        rw [List.getElem?_set_self (List.getElem?_eq_some_iff.mp hv).1, hv]
      · rw [List.getElem?_set_ne z]
    rw [e] at key
    refine h F B1 as1 σ H1 o1 key Z ?_
    cases o with
    | nx G2 M2 => exact fun B' as' σ' H' g' p' o' s' => gd B' as' σ' H' (g.trans g') (p.trans p') o' s'
    | rt s M2 => exact fun v' B' as' H' g' p' o' s' => gd v' B' as' H' (g.trans g') (p.trans p') o' s'
    | _ => exact fun B' as' σ' H' g' p' o' s' => gd B' as' σ' H' (g.trans g') (p.trans p') o' s'
  exact q hv
end
theorem es_nxT' {K : PySem.W.Frag} {G G1 : List (Option Sl)} {M M2 X : List MO} {t : TS} (h : EvS K t G M (.nx G1 (M2 ++ X))) (hl : M2.length = M.length := by rfl) (hg : ∀ s ∈ G1, ∀ k, s = some (Sl.o k) → k < M.length := by decide) : EvS K t G M (.nx G1 M2) := fun F B as σ H ow sl D gd =>
  h F B as σ H ow sl D fun B' as' σ' H' g p o' s' => by
    obtain ⟨tl, rfl⟩ := p
    refine gd B' as σ' H' g (Px.refl as) ⟨o'.fb, o'.bb, ow.len.trans hl.symm, ow.nd, fun a ha => o'.al a (List.mem_append_left _ ha), fun a ha => o'.fa a (List.mem_append_left _ ha), fun k a m e1 e2 hm => ?_⟩ ⟨s'.1, fun i s e => ?_⟩
    · refine o'.own k a m ?_ ?_ hm
      · rw [List.getElem?_append_left (List.getElem?_eq_some_iff.mp e1).1]
        exact e1
      · rw [List.getElem?_append_left (List.getElem?_eq_some_iff.mp e2).1]
        exact e2
    · obtain ⟨v, hv, r⟩ := s'.2 i s e
      refine ⟨v, hv, ?_⟩
      cases s with
      | d x => exact r
      | o k =>
        obtain ⟨a, ha, rfl⟩ := r
        have hk := hg _ (List.mem_of_getElem? e) k rfl
        rw [List.getElem?_append_left (by rw [ow.len]; exact hk)] at ha
        exact ⟨a, ha, rfl⟩
/-- what is asked of each of several lambdas -/
theorem lams_nil {Ok : LamI → Prop} : ∀ l ∈ ([] : List LamI), Ok l := fun _ h => nomatch h
theorem lams_cons {Ok : LamI → Prop} {l : LamI} {ls : List LamI} (h : Ok l) (hs : ∀ l ∈ ls, Ok l) : ∀ l' ∈ l :: ls, Ok l' := fun l' h' => by
  rcases List.mem_cons.mp h' with e | e
  · rw [e]; exact h
  · exact hs l' e
/-- the parts of a lambda's words -/
def lPr : Expr → Arguments
  | .Lambda pr _ _ _ => pr
  | _ => ⟨[], [], none, [], [], none, []⟩
def lBd : Expr → Expr
  | .Lambda _ bd _ _ => bd
  | e => e
def lSc (d : Scope) : Expr → Scope
  | .Lambda _ _ sc _ => sc
  | _ => d
end LJ
namespace T
open PySem PySem.Spec PyProof.Rows L2 DJ
/-! ### figures -/
def dig : Nat → Nat → List Nat
  | 0, _ => []
  | k + 1, m => dig k (m / 10) ++ [48 + m % 10]
theorem dig_len : ∀ k m, (dig k m).length = k
  | 0, _ => rfl
  | k + 1, m => by rw [dig, List.length_append, dig_len k]; rfl
theorem dig_mod : ∀ k m, dig k (m % 10 ^ k) = dig k m
  | 0, _ => rfl
  | k + 1, m => by
    have e1 : m % 10 ^ (k + 1) / 10 = m / 10 % 10 ^ k := by
      rw [Nat.pow_succ, Nat.mul_comm, Nat.mod_mul_right_div_self]
    have e2 : m % 10 ^ (k + 1) % 10 = m % 10 := Nat.mod_mod_of_dvd m (by rw [Nat.pow_succ]; exact Nat.dvd_mul_left 10 _)
    rw [dig, e1, e2, dig_mod k]
    rfl
theorem numL_dig : ∀ k n, 10 ^ k ≤ n → TL.numL n = TL.numL (n / 10 ^ k) ++ dig k n
  | 0, n, _ => by rw [Nat.pow_zero, Nat.div_one, dig, List.append_nil]
  | k + 1, n, h => by
    have h10 : 10 ≤ n := by
      have : 10 ^ 1 ≤ 10 ^ (k + 1) := Nat.pow_le_pow_right (by decide) (by omega)
      omega
    have hk : 10 ^ k ≤ n / 10 := by
      rw [Nat.le_div_iff_mul_le (by decide)]
      rw [Nat.pow_succ] at h
      exact h
    rw [TL.numL_step h10, numL_dig k (n / 10) hk, dig, List.append_assoc, Nat.div_div_eq_div_mul, Nat.pow_succ, Nat.mul_comm 10]
theorem dig_zero : ∀ k, dig k 0 = List.replicate k 48
  | 0 => rfl
  | k + 1 => by rw [dig, dig_zero k, List.replicate_succ']
theorem zfill_dig : ∀ k m, m < 10 ^ (k + 1) → zfillL (k + 1) (TL.numL m) = dig (k + 1) m
  | 0, m, h => by
    rw [TL.numL_lt (by simpa using h)]
    have : m % 10 = m := Nat.mod_eq_of_lt (by simpa using h)
    simp [zfillL, dig, this]
  | k + 1, m, h => by
    by_cases h10 : m < 10
    · rw [TL.numL_lt h10, dig, Nat.div_eq_of_lt h10, Nat.mod_eq_of_lt h10, dig_zero]
      rfl
    · have hk : m / 10 < 10 ^ (k + 1) := by
        rw [Nat.div_lt_iff_lt_mul (by decide), ← Nat.pow_succ]
        exact h
      rw [TL.numL_step (by omega), dig, ← zfill_dig k (m / 10) hk]
      unfold zfillL
      rw [List.length_append, List.length_singleton, ← List.append_assoc, Nat.add_sub_add_right]
def E60 : Nat := 10 ^ 60
theorem E60_pos : 0 < E60 := by decide
/-- what the loop leaves -/
def figW (n : Nat) (ps : List (List Nat)) : Nat × List (List Nat) :=
  if h : E60 ≤ n then figW (n / E60) (ps ++ [zfillL 60 (TL.numL (n % E60))]) else (n, ps)
termination_by n
decreasing_by exact Nat.div_lt_self (Nat.lt_of_lt_of_le E60_pos h) (by decide)
theorem figW_eq (n : Nat) (ps : List (List Nat)) : figW n ps = if E60 ≤ n then figW (n / E60) (ps ++ [zfillL 60 (TL.numL (n % E60))]) else (n, ps) := by
  rw [figW]
  split <;> rfl
theorem figW_is : ∀ (n : Nat) (ps : List (List Nat)), TL.numL (figW n ps).1 ++ (figW n ps).2.reverse.flatten = TL.numL n ++ ps.reverse.flatten ∧ (figW n ps).1 < E60 := by
  intro n
  induction n using Nat.strongRecOn with
  | ind n ih =>
    intro ps
    rw [figW_eq]
    by_cases h : E60 ≤ n
    · rw [if_pos h]
      have hlt : n / E60 < n := Nat.div_lt_self (Nat.lt_of_lt_of_le E60_pos h) (by decide)
      obtain ⟨i1, i2⟩ := ih (n / E60) hlt (ps ++ [zfillL 60 (TL.numL (n % E60))])
      refine ⟨?_, i2⟩
      rw [i1, List.reverse_append, List.reverse_singleton, List.singleton_append, List.flatten_cons, ← List.append_assoc]
      congr 1
      have e1 : zfillL 60 (TL.numL (n % E60)) = dig 60 (n % E60) := zfill_dig 59 _ (Nat.mod_lt _ E60_pos)
      have e2 : dig 60 (n % E60) = dig 60 n := dig_mod 60 n
      rw [e1, e2]
      exact (numL_dig 60 n h).symm
    · rw [if_neg h]
      exact ⟨rfl, by omega⟩
theorem figW_P : ∀ (n : Nat) (ps : List (List Nat)), (TL.numL n).length + 60 * ps.length ≤ 200000 → (∀ x ∈ ps, x.length = 60) → (TL.numL (figW n ps).1).length + 60 * (figW n ps).2.length ≤ 200000 ∧ ∀ x ∈ (figW n ps).2, x.length = 60 := by
  intro n
  induction n using Nat.strongRecOn with
  | ind n ih =>
    intro ps h1 h2
    rw [figW_eq]
    by_cases h : E60 ≤ n
    · rw [if_pos h]
      have hlt : n / E60 < n := Nat.div_lt_self (Nat.lt_of_lt_of_le E60_pos h) (by decide)
      have e1 : zfillL 60 (TL.numL (n % E60)) = dig 60 (n % E60) := zfill_dig 59 _ (Nat.mod_lt _ E60_pos)
      have hn : (TL.numL n).length = (TL.numL (n / E60)).length + 60 := by
        rw [numL_dig 60 n h, List.length_append, dig_len] <;> rfl
      refine ih (n / E60) hlt _ ?_ ?_
      · rw [List.length_append, List.length_singleton]; omega
      · intro x hx
        rcases List.mem_append.mp hx with hx | hx
        · exact h2 x hx
        · obtain rfl : x = _ := by simpa using hx
          rw [e1, dig_len]
    · rw [if_neg h]
      exact ⟨h1, h2⟩
theorem sum60 {α : Type} : ∀ xs : List α, (xs.map fun _ => 60).sum = xs.length * 60
  | [] => rfl
  | x :: xs => by rw [List.map_cons, List.sum_cons, sum60 xs, List.length_cons]; omega
theorem joinL_nil : ∀ xs : List (List Nat), TL.joinL [] xs = xs.flatten
  | [] => rfl
  | [x] => by simp [TL.joinL]
  | x :: y :: r => by
    have := joinL_nil (y :: r)
    simp only [TL.joinL, List.append_nil, List.flatten_cons] at this ⊢
    rw [this]
    simp
/-! ### what figures are worth -/
theorem val_app (a b : List Nat) : NumText.digitsVal (a ++ b) = NumText.digitsVal a * 10 ^ b.length + NumText.digitsVal b := by
  have gen : ∀ (b : List Nat) (x : Nat), b.foldl (fun acc c => acc * 10 + (c - 48)) x = x * 10 ^ b.length + b.foldl (fun acc c => acc * 10 + (c - 48)) 0 := by
    intro b
    induction b with
    | nil => intro x; simp
    | cons c b ih =>
      intro x
      rw [List.foldl_cons, List.foldl_cons, ih (x * 10 + (c - 48)), ih (0 * 10 + (c - 48)), List.length_cons, Nat.pow_succ]
      rw [Nat.zero_mul, Nat.zero_add, Nat.add_mul, Nat.mul_assoc, Nat.mul_comm 10 (10 ^ b.length), Nat.add_assoc]
  unfold NumText.digitsVal
  rw [List.foldl_append, gen b]
theorem val_lt' : ∀ (l : List Nat) (x : Nat), NumText.AllDigits l → l.foldl (fun acc c => acc * 10 + (c - 48)) x + 1 ≤ (x + 1) * 10 ^ l.length
  | [], x, _ => by simp
  | c :: l, x, h => by
    have hc := h.head
    have ih := val_lt' l (x * 10 + (c - 48)) h.tail
    rw [List.foldl_cons, List.length_cons, Nat.pow_succ]
    refine Nat.le_trans ih ?_
    rw [Nat.mul_comm (10 ^ l.length) 10, ← Nat.mul_assoc]
    exact Nat.mul_le_mul_right _ (by omega)
theorem val_lt (l : List Nat) (h : NumText.AllDigits l) : NumText.digitsVal l < 10 ^ l.length := by
  have := val_lt' l 0 h
  rw [Nat.zero_add, Nat.one_mul] at this
  exact this
/-- the value of the beginning and of sixty figures more -/
theorem val_step (l : List Nat) (a : Nat) (h : a + 60 ≤ l.length) : NumText.digitsVal (l.take (a + 60)) = NumText.digitsVal (l.take a) * E60 + NumText.digitsVal ((l.drop a).take 60) := by
  rw [List.take_add, val_app]
  have : ((l.drop a).take 60).length = 60 := by rw [List.length_take, List.length_drop]; omega
  rw [this] <;> rfl
theorem all_dig {l : List Nat} (h : NumText.AllDigits l) : l.all (fun c => decide (48 ≤ c) && decide (c ≤ 57)) = true := by
  rw [List.all_eq_true]
  intro c hc
  have := h c hc
  rw [Bool.and_eq_true, decide_eq_true_eq, decide_eq_true_eq]
  exact this
theorem take_dig {l : List Nat} (h : NumText.AllDigits l) (n : Nat) : NumText.AllDigits (l.take n) := fun c hc => h c (List.mem_of_mem_take hc)
theorem drop_dig {l : List Nat} (h : NumText.AllDigits l) (n : Nat) : NumText.AllDigits (l.drop n) := fun c hc => h c (List.mem_of_mem_drop hc)
theorem rs60 (n : Nat) : Builtin.Range.rangeSize ((n - n / 60 * 60 : Nat) : Int) (n : Int) 60 = ((n / 60 : Nat) : Int) := by
  unfold Builtin.Range.rangeSize
  rw [if_pos (by decide)]
  by_cases e : n / 60 = 0
  · rw [if_neg (by omega)]
    omega
  · rw [if_pos (by omega)]
    omega
theorem fitsL {i : Int} (h1 : -1000000 ≤ i) (h2 : i ≤ 1000000) : Builtin.Range.rangeFitsLong i = true := by
  unfold Builtin.Range.rangeFitsLong
  rw [Bool.and_eq_true]
  exact ⟨decide_eq_true (by omega), decide_eq_true (by omega)⟩
theorem rg60 {n : Nat} (h : n ≤ 100000) : RgC ((n - n / 60 * 60 : Nat) : Int) (n : Int) 60 (n / 60) := by
  refine ⟨by decide, by decide, ?_, ?_⟩
  · have e : Builtin.Range.rangeSize ((n - n / 60 * 60 : Nat) : Int) (n : Int) 60 = ((n / 60 : Nat) : Int) := rs60 n
    unfold Builtin.Range.small
    rw [e, fitsL (by omega) (by omega), fitsL (by omega) (by omega), fitsL (by omega) (by omega), fitsL (by omega) (by omega), if_pos (by decide), fitsL (by omega) (by omega)]
    rw [Bool.or_true] <;> rfl
  · exact rs60 n
/-! ### parts, one sign for another -/
theorem par_len (S : List Nat) : ∀ (l acc p q : List Nat), TL.par S acc l = some (p, q) → p.length + q.length ≤ acc.length + l.length
  | [], _, _, _, h => by cases h
  | c :: r, acc, p, q, h => by
    unfold TL.par at h
    split at h
    · cases h
      rw [List.length_drop]
      omega
    · have := par_len S r (acc ++ [c]) p q h
      rw [List.length_append, List.length_singleton] at this
      rw [List.length_cons]
      omega
theorem part_len (b a : List Nat) : (partL b a).1.length + (partL b a).2.2.length ≤ a.length := by
  unfold partL
  split
  · rename_i p q h
    have := par_len b a [] p q h
    simpa using this
  · simp
theorem repl_one (c d : Nat) : ∀ l : List Nat, StrLaws.replL [c] [d] l = l.map fun x => if x = c then d else x
  | [] => StrLaws.replL_nil
  | x :: r => by
    by_cases h : x = c
    · subst h
      rw [StrLaws.replL_hit (by simp) (by simp), List.map_cons, if_pos rfl]
      show [d] ++ StrLaws.replL [x] [d] r = _
      rw [repl_one x d r] <;> rfl
    · rw [StrLaws.replL_miss (by simpa using h), List.map_cons, if_neg h, repl_one c d r]
theorem numL_len_le (n k : Nat) (hk : 0 < k) (h : n < 10 ^ k) : (TL.numL n).length ≤ k := TL.numL_len hk h
end T
namespace T
open PySem PySem.Spec PyProof.Rows L2 DJ LJ LamX
def topS (i : Nat) : Stmt := PySem.Challenge.pw_anchorpages_k56_collections_and_schemas.main.body.getD i (.Pass ⟨0, 0, 0, 0⟩)
/-! ### tags of sequences and mappings, schemas -/
abbrev s_is_all : Stmt := topS 23
abbrev N_is_all : List Str := ["word", "signs", "sign"]
theorem sc_is_all : FnScope N_is_all ["word", "signs"] (defScope s_is_all) := ⟨rfl, rfl, rfl, by decide +kernel, rfl, by decide +kernel, by decide +kernel⟩
abbrev s_check_schema : Stmt := topS 20
abbrev N_check_schema : List Str := ["schema"]
theorem sc_check_schema : FnScope N_check_schema ["schema"] (defScope s_check_schema) := ⟨rfl, rfl, rfl, by decide +kernel, rfl, by decide +kernel, by decide +kernel⟩
abbrev s_may_have : Stmt := topS 22
abbrev N_may_have : List Str := ["kind", "tag", "schema"]
theorem sc_may_have : FnScope N_may_have ["kind", "tag", "schema"] (defScope s_may_have) := ⟨rfl, rfl, rfl, by decide +kernel, rfl, by decide +kernel, by decide +kernel⟩
abbrev s_resolved : Stmt := topS 17
abbrev N_resolved : List Str := ["kind", "tag", "style", "value", "schema", "place", "content"]
theorem sc_resolved : FnScope N_resolved ["kind", "tag", "style", "value", "schema", "place"] (defScope s_resolved) := ⟨rfl, rfl, rfl, by decide +kernel, rfl, by decide +kernel, by decide +kernel⟩
abbrev s_is_tag : Stmt := topS 21
abbrev N_is_tag : List Str := ["thing", "name"]
theorem sc_is_tag : FnScope N_is_tag ["thing"] (defScope s_is_tag) := ⟨rfl, rfl, rfl, by decide +kernel, rfl, by decide +kernel, by decide +kernel⟩
abbrev s_tag_fits : Stmt := topS 18
abbrev N_tag_fits : List Str := ["kind", "tag", "content", "schema"]
theorem sc_tag_fits : FnScope N_tag_fits ["kind", "tag", "content", "schema"] (defScope s_tag_fits) := ⟨rfl, rfl, rfl, by decide +kernel, rfl, by decide +kernel, by decide +kernel⟩
abbrev s_tag_needed : Stmt := topS 19
abbrev N_tag_needed : List Str := ["kind", "tag", "content", "style", "schema", "place", "wanted", "least"]
theorem sc_tag_needed : FnScope N_tag_needed ["kind", "tag", "content", "style", "schema", "place"] (defScope s_tag_needed) := ⟨rfl, rfl, rfl, by decide +kernel, rfl, by decide +kernel, by decide +kernel⟩
abbrev TAGSG : List Nat := [65, 66, 67, 68, 69, 70, 71, 72, 73, 74, 75, 76, 77, 78, 79, 80, 81, 82, 83, 84, 85, 86, 87, 88, 89, 90, 97, 98, 99, 100, 101, 102, 103, 104, 105, 106, 107, 108, 109, 110, 111, 112, 113, 114, 115, 116, 117, 118, 119, 120, 121, 122, 48, 49, 50, 51, 52, 53, 54, 55, 56, 57, 45, 35, 59, 47, 63, 58, 64, 38, 61, 43, 36, 95, 46, 126, 42, 39, 40, 41]
abbrev tScalar : List Nat := [115, 99, 97, 108, 97, 114]
abbrev tSeqK : List Nat := [115, 101, 113, 117, 101, 110, 99, 101]
abbrev tMapK : List Nat := [109, 97, 112, 112, 105, 110, 103]
abbrev tSeq : List Nat := [33, 33, 115, 101, 113]
abbrev tMap : List Nat := [33, 33, 109, 97, 112]
abbrev tStr : List Nat := [33, 33, 115, 116, 114]
abbrev sCore : List Nat := [99, 111, 114, 101]
abbrev sText : List Nat := [116, 101, 120, 116]
abbrev SCH : List (List Nat) := [sCore, sText]
abbrev CT : List (List Nat) := [tSeq, tMap]
abbrev WT : List (List Nat) := [[33, 33, 110, 117, 108, 108], [33, 33, 98, 111, 111, 108], [33, 33, 105, 110, 116], [33, 33, 102, 108, 111, 97, 116]]
def isAllL (w s : List Nat) : Bool := (!decide (w = [])) && (w.map fun c => sub [c] s).all id
def mayO (k : List Nat) (t : Option (List Nat)) (s : List Nat) : Bool :=
  if k = tScalar then !decide (t ∈ CT.map some) else if (decide (t = some (if k = tSeqK then tMap else tSeq)) || decide (t = some tStr)) = true then false else decide (s = sText) || !decide (t ∈ WT.map some)
theorem cut_at2 (l : List Nat) : Sl.d (Dt.str (cutL l (some 2) none)) = Sl.d (Dt.str (l.drop 2)) := by rw [show cutL l (some 2) none = l.drop 2 from cutL_from l 2]
def isTagL (l : List Nat) : Bool := pre [33] l && isAllL (if pre [33, 33] l = true then l.drop 2 else l.drop 1) TAGSG
/-- a sequence's or a mapping's own tag -/
def ownT (k : List Nat) : List Nat := if k = tSeqK then tSeq else tMap
def isC (k : List Nat) : Prop := k = tSeqK ∨ k = tMapK
def resC (k : List Nat) (t : Option (List Nat)) (s : List Nat) : Option (List Nat) := if mayO k t s = false then none else some (if decide (t = none) || decide (t = some [33]) then ownT k else t.getD [])
def fitsC (k t s : List Nat) : Bool := isTagL t && mayO k (some t) s
def needC (k t : List Nat) : Option (List Nat) := if t = ownT k then none else some t
/-- what is no schema -/
def OddS (K : PySem.W.Frag) (d : Dt) : Prop := RC K (rIsi K) [d, tyStr] (.bl false) ∨ ∃ x : List Nat, d = .str x ∧ x ∉ SCH
section
variable {P : Program} {w : World} {K : PySem.W.Frag} {mg : Str → Option Value} {base : Heap}
def R_is_all : List Sl → List MO → Sl → List MO → Prop := fun ss M r M' => ∃ l m : List Nat, l.length ≤ 100000 ∧ ss = [.d (.str l), .d (.str m)] ∧ M = [] ∧ r = .d (.bl (isAllL l m)) ∧ M' = []
theorem cal_is_all {k : Nat} (D : Df K mg "is_all" s_is_all ["word", "signs"]) (m_all : mg "all" = none) : Cal P w K mg base (k + 1) "is_all" (SpR K 2 R_is_all) [] := by
  refine cal_mk D sc_is_all rfl fun f cdv A outer s H E hr ss M r M' h => ?_
  obtain ⟨l, m, hl, rfl, rfl, rfl, rfl⟩ := h
  refine ⟨_, [], (pss_one (ps_ret (pe_and (pe_cmpR op_ne (pv 0) pe_str (nomark _)) (pe_one (pe_callB (cr_all rfl) (by rfl) m_all (by decide +kernel) (pa_cons (pe_lc (own := [("sign", 2)]) (g := (gName 2)) (by rfl) sc_is_all.nd (pi_str (pv 0)) (blkOk_by (own := [("sign", 2)]) (N := N_is_all) (sc := defScope s_is_all) (by decide +kernel)) (fun _ _ _ _ _ => pg_name (i := 2) sc_is_all.nd rfl (by first | exact .inl rfl | exact .inr rfl)) (fun _ _ _ _ _ => pts_nil) (fun _ _ _ _ _ => (pe_cmpR op_in_str (pv 2) (pv 1) (by rfl)))) pa_nil)))))), ?_, Nat.le_refl _, fun _ h => nomatch h⟩
  refine es_ret (ev_andV (ev_op (ev_var rfl) (ev_str []) ro_neS) (fun _ => ev_cb (xs := [.lst ((l.map fun c => sub [c] m).map Dt.bl)]) (ea_cons (ev_isD (ev_lcM l (fun c => .str [c]) (fun c => .bl (sub [c] m)) (ei_str (ev_var rfl)) (by omega) (hw_name (by decide)) (fun c _ => ⟨_, eg_name, ev_op (ev_var rfl) (ev_var rfl) ro_inS⟩)) (by rw [List.map_map] <;> rfl)) ea_nil) rc_all) (fun _ => rfl))
theorem ro_ninOT {p : Option (List Nat)} {xs : List (List Nat)} : RO K (rIn K true) (oS p) (.tup (xs.map Dt.str)) (.bl (!decide (p ∈ xs.map some))) := by
  cases p with
  | some l =>
    have h : decide (some l ∈ xs.map some) = decide (l ∈ xs) := by simp
    rw [h]
    exact ro_ninT
  | none =>
    exact fun F B as M H v u Q ow r1 r2 q => by
      obtain ⟨a, vs, e, h1, h2⟩ := r2
      have e2 := h2.strs
      subst e2; subst e
      have r1 : v = .non := r1
      subst r1
      refine ⟨a, _, rfl, .inr (same_t ow.bb h1), rfl, flat_strs xs, q _ B H (Gr.refl F B) ow ?_⟩
      show V.bl (!inV _ _) = _
      rw [inV_non]
      simp
theorem lg_none {G : List (Option Sl)} {n : Nat} (h : G.length = n) : Lg G (List.replicate n none) := ⟨by rw [List.length_replicate]; exact h, fun i s q => by
  rw [List.getElem?_replicate] at q
  split at q <;> cases q⟩
theorem ev_strTy {G : List (Option Sl)} {M : List MO} : EvE K (tC (.ty "str")) G M (.d tyStr) M := ev_ty
def R_check : List Sl → List MO → Sl → List MO → Prop := fun ss M r M' => ∃ s : List Nat, s ∈ SCH ∧ ss = [.d (.str s)] ∧ M = [] ∧ r = .d .non ∧ M' = []
def X_check (K : PySem.W.Frag) (CN : Addr) : List Sl → List MO → Ex → List MO → Prop := fun ss M x M' => ∃ d : Dt, OddS K d ∧ ss = [.d d] ∧ M = [] ∧ x = ⟨.ref CN, some ("schema", d)⟩ ∧ M' = []
theorem cal_check {CN : Addr} (D : Df K mg "check_schema" s_check_schema ["schema"]) (T_NoSchema : Xi P w K mg base "NoSchema" "schema" CN) (m_isinstance : mg "isinstance" = none) (m_str : mg "str" = none) : CalX P w K mg base 3 "check_schema" (SpX K 1 R_check (X_check K CN)) [] := by
  refine cal_mkX (k := 2) D sc_check_schema rfl fun f cdv A outer s H E hr tk po => ⟨fun ss M r M' h => ?_, fun ss M x M' h => ?_⟩
  · obtain ⟨s, hs, rfl, rfl, rfl, rfl⟩ := h
    refine ⟨_, [], (pss_one (ps_if (pt_not (PW.pt (pw_and (pt_val (pe_callB call_isi (by rfl) m_isinstance (by decide +kernel) (pa_cons (pv 0) (pa_cons (pe_bltn (v := .ty "str") (u := .type "str") (by rfl) m_str (by decide +kernel) rfl) pa_nil)))) (pw_and1 (pt_cmpR (show OpR _ (compareOp .In) (rIn K false) from op_in_seq) (pv 0) (pe_tup (pa_cons pe_str (pa_cons pe_str pa_nil))) (by rfl)))))) (pss_one (ps_raiseI rfl tk T_NoSchema hr (by omega) (by rfl) (pa_cons (pv 0) pa_nil))) pss_nil)), .inr ⟨_, es_no (b := !(true && decide (s ∈ SCH))) (et_not (et_and (et_B (ev_cb (xs := [.str s, tyStr]) (ea_cons (ev_var rfl) (ea_cons ev_strTy ea_nil)) (rc_isStr (.str s)))) (fun _ => et_test (ev_op (ev_var rfl) (ev_tup (xs := SCH.map Dt.str) (ea_cons (ev_str _) (ea_cons (ev_str _) ea_nil)) (show 2 ≤ 1000 by decide)) ro_inT)) (fun _ => rfl))) (by rw [decide_eq_true hs] <;> rfl) es_next, rfl⟩, Nat.le_refl _⟩
  · obtain ⟨d, hd, rfl, rfl, rfl, rfl⟩ := h
    refine ⟨_, [], [some (.d d)], (pss_one (ps_if (pt_not (PW.pt (pw_and (pt_val (pe_callB call_isi (by rfl) m_isinstance (by decide +kernel) (pa_cons (pv 0) (pa_cons (pe_bltn (v := .ty "str") (u := .type "str") (by rfl) m_str (by decide +kernel) rfl) pa_nil)))) (pw_and1 (pt_cmpR (show OpR _ (compareOp .In) (rIn K false) from op_in_seq) (pv 0) (pe_tup (pa_cons pe_str (pa_cons pe_str pa_nil))) (by rfl)))))) (pss_one (ps_raiseI rfl tk T_NoSchema hr (by omega) (by rfl) (pa_cons (pv 0) pa_nil))) pss_nil)), ?_, Nat.le_refl _⟩
    rcases hd with rc | ⟨x, rfl, hx⟩
    · exact er_if (b := true) (M1 := []) (et_is (et_not (et_and (b := false) (c := false) (et_B (ev_cb (xs := [d, tyStr]) (ea_cons (ev_var rfl) (ea_cons ev_strTy ea_nil)) rc)) (fun z => nomatch z) (fun _ => rfl))) rfl) (fun _ => er_raiseI T_NoSchema.ox T_NoSchema.no (ea_cons (ev_var rfl) ea_nil)) (fun z => nomatch z)
    · exact er_if (b := true) (M1 := []) (et_is (et_not (et_and (b := true) (c := decide (x ∈ SCH)) (et_B (ev_cb (xs := [.str x, tyStr]) (ea_cons (ev_var rfl) (ea_cons ev_strTy ea_nil)) (rc_isStr (.str x)))) (fun _ => et_test (ev_op (ev_var rfl) (ev_tup (xs := SCH.map Dt.str) (ea_cons (ev_str _) (ea_cons (ev_str _) ea_nil)) (show 2 ≤ 1000 by decide)) ro_inT)) (fun _ => rfl))) (by rw [decide_eq_false hx] <;> rfl)) (fun _ => er_raiseI T_NoSchema.ox T_NoSchema.no (ea_cons (ev_var rfl) ea_nil)) (fun z => nomatch z)
def R_may : List Sl → List MO → Sl → List MO → Prop := fun ss M r M' => ∃ (k : List Nat) (t : Option (List Nat)) (s : List Nat), ss = [.d (.str k), .d (oS t), .d (.str s)] ∧ M = [] ∧ r = .d (.bl (mayO k t s)) ∧ M' = []
theorem cal_may {j : Nat} (D : Df K mg "may_have" s_may_have ["kind", "tag", "schema"]) (c_COLLECTION_TAGS : Gc K mg "COLLECTION_TAGS" (.tup (CT.map Dt.str))) (c_WORD_TAGS : Gc K mg "WORD_TAGS" (.tup (WT.map Dt.str))) : Cal P w K mg base (j + 1) "may_have" (SpR K 3 R_may) [] := by
  obtain ⟨v_COLLECTION_TAGS, u_COLLECTION_TAGS, hm_COLLECTION_TAGS, hr_COLLECTION_TAGS, hd_COLLECTION_TAGS⟩ := c_COLLECTION_TAGS.ex
  obtain ⟨v_WORD_TAGS, u_WORD_TAGS, hm_WORD_TAGS, hr_WORD_TAGS, hd_WORD_TAGS⟩ := c_WORD_TAGS.ex
  refine cal_mk D sc_may_have rfl fun f cdv A outer s H E hr ss M r M' h => ?_
  obtain ⟨k, t, s, rfl, rfl, rfl, rfl⟩ := h
  refine ⟨_, [], (pss_cons (ps_if (pt_cmpR op_eq (pv 0) pe_str (nomark _)) (pss_one (ps_ret (pe_cmpR op_notIn_seq (pv 1) (pe_glob (by rfl) hm_COLLECTION_TAGS hr_COLLECTION_TAGS) (by rfl)))) pss_nil) (pss_cons (ps_if (PW.pt (pw_or (pt_cmpR op_eq (pv 1) (pe_ifExp (pt_cmpR op_eq (pv 0) pe_str (nomark _)) pe_str pe_str) (nomark _)) (pw_or1 (pt_cmpR op_eq (pv 1) pe_str (nomark _))))) (pss_one (ps_ret pe_bl)) pss_nil) (pss_one (ps_ret (pe_or (pe_cmpR op_eq (pv 2) pe_str (nomark _)) (pe_one (pe_cmpR op_notIn_seq (pv 1) (pe_glob (by rfl) hm_WORD_TAGS hr_WORD_TAGS) (by rfl)))))))), ?_, Nat.le_refl _, fun _ h => nomatch h⟩
  refine es_guard (et_test (ev_op (ev_var rfl) (ev_str tScalar) ro_eqS)) (fun h => es_retD (ev_op (ev_var rfl) (ev_c hd_COLLECTION_TAGS) ro_ninOT) ?_) (fun h => ?_)
  · unfold mayO
    rw [if_pos (of_decide_eq_true h)]
  have h1 := of_decide_eq_false h
  have e1 : (if decide (k = tSeqK) = true then tMap else tSeq) = if k = tSeqK then tMap else tSeq := by
    by_cases z : k = tSeqK
    · rw [if_pos z, if_pos (decide_eq_true z)]
    · rw [if_neg z, if_neg (by rw [decide_eq_false z]; exact Bool.false_ne_true)]
  refine es_guard (et_or (b := decide (t = some (if k = tSeqK then tMap else tSeq))) (c := decide (t = some tStr)) (et_test (ev_op (ev_var rfl) (ev_isD (ev_iteS (et_test (ev_op (ev_var rfl) (ev_str tSeqK) ro_eqS)) (fun _ => ev_str tMap) (fun _ => ev_str tSeq)) (show _ = oS (some (if k = tSeqK then tMap else tSeq)) by rw [e1] <;> rfl)) ro_eqO)) (fun _ => et_test (ev_op (ev_var rfl) (ev_isD (ev_str tStr) (show _ = oS (some tStr) from rfl)) ro_eqO)) (fun _ => rfl)) (fun h => es_retD ev_bl ?_) (fun h => es_retD (ev_orV (ev_op (ev_var rfl) (ev_str sText) ro_eqS) (fun _ => ev_op (ev_var rfl) (ev_c hd_WORD_TAGS) ro_ninOT) (fun _ => rfl)) ?_)
  · unfold mayO
    rw [if_neg h1, if_pos h]
  · have h2 : ¬ (decide (t = some (if k = tSeqK then tMap else tSeq)) || decide (t = some tStr)) = true := by rw [h]; exact Bool.false_ne_true
    unfold mayO
    rw [if_neg h1, if_neg h2]
theorem isC_ne {k : List Nat} (h : isC k) : k ≠ tScalar := by rcases h with rfl | rfl <;> decide
def R_res : List Sl → List MO → Sl → List MO → Prop := fun ss M r M' => ∃ (k : List Nat) (t : Option (List Nat)) (d1 d2 : Dt) (s : List Nat) (p : Int) (a : List Nat), isC k ∧ s ∈ SCH ∧ resC k t s = some a ∧ ss = [.d (.str k), .d (oS t), .d d1, .d d2, .d (.str s), .d (.int p)] ∧ M = [] ∧ r = .d (.tup [.str a, .str []]) ∧ M' = []
def X_res (K : PySem.W.Frag) (C CN : Addr) : List Sl → List MO → Ex → List MO → Prop := fun ss M x M' => (∃ (k : List Nat) (t : Option (List Nat)) (d1 d2 : Dt) (s : List Nat) (p : Int), isC k ∧ s ∈ SCH ∧ resC k t s = none ∧ ss = [.d (.str k), .d (oS t), .d d1, .d d2, .d (.str s), .d (.int p)] ∧ M = [] ∧ x = ⟨.ref C, some ("place", .int p)⟩ ∧ M' = []) ∨
  ∃ d0 d1 d2 d3 d4 d5 : Dt, OddS K d4 ∧ ss = [.d d0, .d d1, .d d2, .d d3, .d d4, .d d5] ∧ M = [] ∧ x = ⟨.ref CN, some ("schema", d4)⟩ ∧ M' = []
theorem cal_res {C CN : Addr} (D : DfK K mg "resolved" s_resolved [("place", .int 0)]) (T_BadTag : Xi P w K mg base "BadTag" "place" C) (f_check_schema : CalX P w K mg base 3 "check_schema" (SpX K 1 R_check (X_check K CN)) []) (f_may_have : Cal P w K mg base 1 "may_have" (SpR K 3 R_may) []) :
    CalFX P w K mg base 5 "resolved" s_resolved ["kind", "tag", "style", "value", "schema", "place"] [("place", .int 0)] (SpX K 6 R_res (X_res K C CN)) := by
  refine cal_mkKX (k := 4) D sc_resolved rfl fun f cdv A outer s' H E hr tk po => ⟨fun ss M r M' h => ?_, fun ss M x M' h => ?_⟩
  · obtain ⟨k, t, d1, d2, s, p, a, hk, hs, he, rfl, rfl, rfl, rfl⟩ := h
    refine ⟨_, [], (pss_cons (ps_expr (pe_cX f_check_schema tk hr (by omega) (by rfl) (pa_cons (pv 4) pa_nil))) (pss_cons (ps_if (pt_not (pt_val (pe_c f_may_have hr (by omega) (by rfl) (pa_cons (pv 0) (pa_cons (pv 1) (pa_cons (pv 4) pa_nil)))))) (pss_one (ps_raiseI rfl tk T_BadTag hr (by omega) (by rfl) (pa_cons (pv 5) pa_nil))) pss_nil) (pss_cons (ps_if (pt_cmpR op_ne (pv 0) pe_str (nomark _)) (pss_cons (ps_if (PW.pt (pw_or (pt_cmpR op_isN (pv 1) pe_non (nomark _)) (pw_or1 (pt_cmpR op_eq (pv 1) pe_str (nomark _))))) (pss_one (ps_ret (pe_tup (pa_cons (pe_ifExp (pt_cmpR op_eq (pv 0) pe_str (nomark _)) pe_str pe_str) (pa_cons pe_str pa_nil))))) pss_nil) (pss_one (ps_ret (pe_tup (pa_cons (pv 1) (pa_cons pe_str pa_nil)))))) pss_nil) (pss_cons ps_never (pss_cons ps_never (pss_cons ps_never (pss_cons ps_never (pss_cons ps_never (pss_one ps_never))))))))), .inl ⟨?_, fun _ h => nomatch h⟩, Nat.le_refl _⟩
    have hm : mayO k t s = true := by
      cases hm : mayO k t s with
      | true => rfl
      | false => unfold resC at he; rw [if_pos hm] at he; cases he
    have he : (if decide (t = none) || decide (t = some [33]) then ownT k else t.getD []) = a := by
      unfold resC at he
      rw [if_neg (by rw [hm]; decide)] at he
      exact Option.some.inj he
    refine es_seq (es_drop (ev_callX (ds := [.str s]) (es := []) (z := .non) (ea_cons (ev_var rfl) ea_nil) ⟨s, hs, rfl, rfl, rfl, rfl⟩ rfl (fun _ => rfl))) ?_
    refine es_pass (et_is (et_not (et_B (ev_call0 (ds := [.str k, oS t, .str s]) (es := []) (z := .bl (mayO k t s)) (ea_cons (ev_var rfl) (ea_cons (ev_var rfl) (ea_cons (ev_var rfl) ea_nil))) ⟨k, t, s, rfl, rfl, rfl, rfl⟩ rfl (fun _ => rfl)))) (by rw [hm] <;> rfl)) ?_
    refine es_guard (b := true) (et_is (et_test (ev_op (ev_var rfl) (ev_str tScalar) ro_neS)) (by rw [decide_eq_false (isC_ne hk)] <;> rfl)) (fun _ => ?_) (fun z => nomatch z)
    refine es_guard (b := decide (t = none) || decide (t = some [33])) (et_or (b := decide (t = none)) (c := decide (t = some [33])) (et_test (ev_op (ev_var rfl) ev_non ro_isN)) (fun _ => et_test (ev_op (ev_var rfl) (ev_isD (ev_str [33]) (show _ = oS (some [33]) from rfl)) ro_eqO)) (fun _ => rfl)) (fun h => ?_) (fun h => ?_)
    · rw [h, if_pos rfl] at he
      subst he
      have e1 : (if decide (k = tSeqK) = true then tSeq else tMap) = ownT k := by
        unfold ownT
        by_cases z : k = tSeqK
        · rw [if_pos z, if_pos (decide_eq_true z)]
        · rw [if_neg z, if_neg (by rw [decide_eq_false z]; exact Bool.false_ne_true)]
      exact es_ret (ev_tup (xs := [.str (ownT k), .str []]) (ea_cons (ev_isD (ev_iteS (et_test (ev_op (ev_var rfl) (ev_str tSeqK) ro_eqS)) (fun _ => ev_str tSeq) (fun _ => ev_str tMap)) (show _ = Dt.str (ownT k) by rw [← e1])) (ea_cons (ev_str []) ea_nil)) (show 2 ≤ 1000 by decide))
    · rw [h, if_neg Bool.false_ne_true] at he
      subst he
      have ht : oS t = .str (t.getD []) := by
        cases t with
        | some l => rfl
        | none => cases h
      exact es_ret (ev_tup (xs := [.str (t.getD []), .str []]) (ea_cons (ev_isD (ev_var rfl) ht) (ea_cons (ev_str []) ea_nil)) (show 2 ≤ 1000 by decide))
  · refine ⟨_, [], List.replicate 7 none, (pss_cons (ps_expr (pe_cX f_check_schema tk hr (by omega) (by rfl) (pa_cons (pv 4) pa_nil))) (pss_cons (ps_if (pt_not (pt_val (pe_c f_may_have hr (by omega) (by rfl) (pa_cons (pv 0) (pa_cons (pv 1) (pa_cons (pv 4) pa_nil)))))) (pss_one (ps_raiseI rfl tk T_BadTag hr (by omega) (by rfl) (pa_cons (pv 5) pa_nil))) pss_nil) (pss_cons (ps_if (pt_cmpR op_ne (pv 0) pe_str (nomark _)) (pss_cons (ps_if (PW.pt (pw_or (pt_cmpR op_isN (pv 1) pe_non (nomark _)) (pw_or1 (pt_cmpR op_eq (pv 1) pe_str (nomark _))))) (pss_one (ps_ret (pe_tup (pa_cons (pe_ifExp (pt_cmpR op_eq (pv 0) pe_str (nomark _)) pe_str pe_str) (pa_cons pe_str pa_nil))))) pss_nil) (pss_one (ps_ret (pe_tup (pa_cons (pv 1) (pa_cons pe_str pa_nil)))))) pss_nil) (pss_cons ps_never (pss_cons ps_never (pss_cons ps_never (pss_cons ps_never (pss_cons ps_never (pss_one ps_never))))))))), ?_, ?_⟩
    · rcases h with ⟨k, t, d1, d2, s, p, hk, hs, he, rfl, rfl, rfl, rfl⟩ | ⟨d0, d1, d2, d3, d4, d5, hd, rfl, rfl, rfl, rfl⟩
      · have hm : mayO k t s = false := by
          cases hm : mayO k t s with
          | false => rfl
          | true => unfold resC at he; rw [if_neg (by rw [hm]; decide)] at he; cases he
        refine er_seq2 (es_drop (ev_callX (ds := [.str s]) (es := []) (z := .non) (ea_cons (ev_var rfl) ea_nil) ⟨s, hs, rfl, rfl, rfl, rfl⟩ rfl (fun _ => rfl))) ?_
        exact er_seq1 (er_if (b := true) (M1 := []) (et_is (et_not (et_B (ev_call0 (ds := [.str k, oS t, .str s]) (es := []) (z := .bl (mayO k t s)) (ea_cons (ev_var rfl) (ea_cons (ev_var rfl) (ea_cons (ev_var rfl) ea_nil))) ⟨k, t, s, rfl, rfl, rfl, rfl⟩ rfl (fun _ => rfl)))) (by rw [hm] <;> rfl)) (fun _ => er_weak (er_raiseI T_BadTag.ox T_BadTag.no (ea_cons (ev_var rfl) ea_nil)) (lg_none rfl)) (fun z => nomatch z))
      · exact er_weak (er_seq1 (er_drop (ex_callX (ds := [d4]) (es := []) (ea_cons (ev_var rfl) ea_nil) ⟨d4, hd, rfl, rfl, rfl, rfl⟩ rfl (fun _ => rfl)))) (lg_none rfl)
    · rcases h with ⟨k, t, d1, d2, s, p, hk, hs, he, rfl, rfl, rfl, rfl⟩ | ⟨d0, d1, d2, d3, d4, d5, hd, rfl, rfl, rfl, rfl⟩ <;> exact Nat.le_refl _
def R_is_tag : List Sl → List MO → Sl → List MO → Prop := fun ss M r M' => ∃ l : List Nat, l.length ≤ 10000 ∧ ss = [.d (.str l)] ∧ M = [] ∧ r = .d (.bl (isTagL l)) ∧ M' = []
theorem cal_is_tag (D : Df K mg "is_tag" s_is_tag ["thing"]) (c_TAG_SIGNS : Gc K mg "TAG_SIGNS" (.str TAGSG)) (f_is_all : Cal P w K mg base 1 "is_all" (SpR K 2 R_is_all) []) (m_isinstance : mg "isinstance" = none) (m_str : mg "str" = none) : Cal P w K mg base 2 "is_tag" (SpR K 1 R_is_tag) [] := by
  obtain ⟨v_TAG_SIGNS, u_TAG_SIGNS, hm_TAG_SIGNS, hr_TAG_SIGNS, hd_TAG_SIGNS⟩ := c_TAG_SIGNS.ex
  refine cal_mk (k := 1) D sc_is_tag rfl fun f cdv A outer s H E hr ss M r M' h => ?_
  obtain ⟨l, hl, rfl, rfl, rfl, rfl⟩ := h
  refine ⟨_, [], (pss_cons (ps_if (PW.pt (pw_or (pt_not (pt_val (pe_callB call_isi (by rfl) m_isinstance (by decide +kernel) (pa_cons (pv 0) (pa_cons (pe_bltn (v := .ty "str") (u := .type "str") (by rfl) m_str (by decide +kernel) rfl) pa_nil))))) (pw_or1 (pt_not (pt_val (pe_m1 PySem.F.slot_str_startswith PySem.F.type_str_startswith mt_startswith (pv 0) pe_str)))))) (pss_one (ps_ret pe_bl)) pss_nil) (pss_cons (ps_asg (pe_ifExp (pt_val (pe_m1 PySem.F.slot_str_startswith PySem.F.type_str_startswith mt_startswith (pv 0) pe_str)) (pe_slice sl_str (pv 0) (po_some pe_int) po_none) (pe_slice sl_str (pv 0) (po_some pe_int) po_none)) (pg_name (i := 1) sc_is_tag.nd rfl (by first | exact .inl rfl | exact .inr rfl))) (pss_one (ps_ret (pe_c f_is_all hr (by omega) (by rfl) (pa_cons (pv 1) (pa_cons (pe_glob (by rfl) hm_TAG_SIGNS hr_TAG_SIGNS) pa_nil))))))), ?_, Nat.le_refl _, fun _ h => nomatch h⟩
  refine es_guard (et_or (b := !true) (c := !pre [33] l) (et_not (et_B (ev_cb (xs := [.str l, tyStr]) (ea_cons (ev_var rfl) (ea_cons ev_strTy ea_nil)) (rc_isStr (.str l))))) (fun _ => et_not (et_B (ev_m1 (ev_var rfl) (ev_str [33]) rm_starts))) (fun _ => rfl)) (fun h => es_retD ev_bl ?_) (fun h => ?_)
  · have h : (!pre [33] l) = true := h
    show Dt.bl false = Dt.bl (isTagL l)
    unfold isTagL
    rw [Bool.not_eq_true'] at h
    rw [h] <;> rfl
  · have h : (!pre [33] l) = false := h
    rw [Bool.not_eq_false'] at h
    have h2 : (l.drop 2).length ≤ l.length ∧ (l.drop 1).length ≤ l.length := by rw [List.length_drop, List.length_drop]; omega
    refine es_seq (es_asg (ev_iteS (et_B (ev_m1 (ev_var rfl) (ev_str [33, 33]) rm_starts)) (fun _ => ev_is (ev_slS (ev_var rfl) (eo_some ev_int) eo_none (by omega)) (cut_at2 l)) (fun _ => ev_is (ev_slS (ev_var rfl) (eo_some ev_int) eo_none (by omega)) (show _ = Sl.d (Dt.str (l.drop 1)) by rw [show cutL l (some 1) none = l.drop 1 from cutL_from l 1])))) ?_
    refine es_retD (ev_call0 (ds := [.str (if pre [33, 33] l = true then l.drop 2 else l.drop 1), .str TAGSG]) (es := []) (z := .bl (isAllL (if pre [33, 33] l = true then l.drop 2 else l.drop 1) TAGSG)) (ea_cons (ev_var rfl) (ea_cons (ev_c hd_TAG_SIGNS) ea_nil)) ⟨_, _, by split <;> omega, rfl, rfl, rfl, rfl⟩ rfl (fun _ => rfl)) ?_
    show _ = Dt.bl (isTagL l)
    unfold isTagL
    rw [h] <;> rfl
end
end T
namespace T
open PySem PySem.Spec PyProof.Rows L2 DJ LJ LamX
/-! ### what fits, what is needed -/
def R_fits : List Sl → List MO → Sl → List MO → Prop := fun ss M r M' => ∃ (k t : List Nat) (c : Dt) (s : List Nat), isC k ∧ t.length ≤ 640 ∧ s ∈ SCH ∧ ss = [.d (.str k), .d (.str t), .d c, .d (.str s)] ∧ M = [] ∧ r = .d (.bl (fitsC k t s)) ∧ M' = []
def X_fits (K : PySem.W.Frag) (CN : Addr) : List Sl → List MO → Ex → List MO → Prop := fun ss M x M' => ∃ d0 d1 d2 d3 : Dt, OddS K d3 ∧ ss = [.d d0, .d d1, .d d2, .d d3] ∧ M = [] ∧ x = ⟨.ref CN, some ("schema", d3)⟩ ∧ M' = []
abbrev LESS : List (Option (List Nat)) := [none, some [33]]
theorem eq_pr (a b c d : List Nat) : eqD (.tup [.str a, .str b]) (.tup [.str c, .str d]) = decide ((a, b) = (c, d)) := by
  have e : eqD (.tup [.str a, .str b]) (.tup [.str c, .str d]) = ((tx a == tx c) && ((tx b == tx d) && true)) := rfl
  rw [e, tx_beq, tx_beq, Bool.and_true]
  by_cases h : a = c <;> by_cases h2 : b = d <;> simp [h, h2]
theorem pr_ok {a b : List Nat} (h1 : Asc a) (h2 : Asc b) : plD (.tup [.str a, .str b]) = true ∧ dpD (.tup [.str a, .str b]) ≤ 64 := by
  refine ⟨?_, (by decide : 1 ≤ 64)⟩
  show (a.all (· < 128) && (b.all (· < 128) && true)) = true
  rw [List.all_eq_true.mpr fun c hc => decide_eq_true (h1 c hc), List.all_eq_true.mpr fun c hc => decide_eq_true (h2 c hc)] <;> rfl
theorem less_res : ∀ k ∈ [tSeqK, tMapK], ∀ s ∈ SCH, ∀ o ∈ LESS, resC k o s = some (ownT k) := by decide +kernel
theorem own_asc : ∀ k ∈ [tSeqK, tMapK], Asc (ownT k) := by
  intro k hk c hc
  have h : ∀ k ∈ [tSeqK, tMapK], ∀ c ∈ ownT k, c < 128 := by decide +kernel
  exact h k hk c hc
theorem isC_mem {k : List Nat} (h : isC k) : k ∈ [tSeqK, tMapK] := by rcases h with rfl | rfl <;> decide
section
variable {P : Program} {w : World} {K : PySem.W.Frag} {mg : Str → Option Value} {base : Heap}
theorem cal_fits {CN : Addr} (D : Df K mg "tag_fits" s_tag_fits ["kind", "tag", "content", "schema"]) (f_check_schema : CalX P w K mg base 3 "check_schema" (SpX K 1 R_check (X_check K CN)) []) (f_is_tag : Cal P w K mg base 2 "is_tag" (SpR K 1 R_is_tag) []) (f_may_have : Cal P w K mg base 1 "may_have" (SpR K 3 R_may) []) (m_isinstance : mg "isinstance" = none) (m_str : mg "str" = none) :
    CalX P w K mg base 4 "tag_fits" (SpX K 4 R_fits (X_fits K CN)) [] := by
  refine cal_mkX (k := 3) D sc_tag_fits rfl fun f cdv A outer s' H E hr tk po => ⟨fun ss M r M' h => ?_, fun ss M x M' h => ?_⟩
  · obtain ⟨k, t, c, s, hk, ht, hs, rfl, rfl, rfl, rfl⟩ := h
    refine ⟨_, [], (pss_cons (ps_expr (pe_cX f_check_schema tk hr (by omega) (by rfl) (pa_cons (pv 3) pa_nil))) (pss_cons (ps_if (PW.pt (pw_or (pt_not (pt_val (pe_c f_is_tag hr (by omega) (by rfl) (pa_cons (pv 1) pa_nil)))) (pw_or1 (pt_not (pt_val (pe_c f_may_have hr (by omega) (by rfl) (pa_cons (pv 0) (pa_cons (pv 1) (pa_cons (pv 3) pa_nil))))))))) (pss_one (ps_ret pe_bl)) pss_nil) (pss_cons (ps_if (pt_cmpR op_ne (pv 0) pe_str (nomark _)) (pss_one (ps_ret pe_bl)) pss_nil) (pss_one ps_never)))), .inl ⟨?_, fun _ h => nomatch h⟩, Nat.le_refl _⟩
    refine es_seq (es_drop (ev_callX (ds := [.str s]) (es := []) (z := .non) (ea_cons (ev_var rfl) ea_nil) ⟨s, hs, rfl, rfl, rfl, rfl⟩ rfl (fun _ => rfl))) ?_
    refine es_guard (et_or (b := !isTagL t) (c := !mayO k (some t) s) (et_not (et_B (ev_call0 (ds := [.str t]) (es := []) (z := .bl (isTagL t)) (ea_cons (ev_var rfl) ea_nil) ⟨t, by omega, rfl, rfl, rfl, rfl⟩ rfl (fun _ => rfl)))) (fun _ => et_not (et_B (ev_call0 (ds := [.str k, oS (some t), .str s]) (es := []) (z := .bl (mayO k (some t) s)) (ea_cons (ev_var rfl) (ea_cons (ev_var rfl) (ea_cons (ev_var rfl) ea_nil))) ⟨k, some t, s, rfl, rfl, rfl, rfl⟩ rfl (fun _ => rfl)))) (fun _ => rfl)) (fun h => es_retD ev_bl ?_) (fun h => ?_)
    · unfold fitsC
      cases h1 : isTagL t <;> cases h2 : mayO k (some t) s <;> rw [h1, h2] at h <;> first | rfl | cases h
    have e : isTagL t = true ∧ mayO k (some t) s = true := by
      cases h1 : isTagL t <;> cases h2 : mayO k (some t) s <;> rw [h1, h2] at h <;> first | exact ⟨rfl, rfl⟩ | cases h
    refine es_guard (b := true) (et_is (et_test (ev_op (ev_var rfl) (ev_str tScalar) ro_neS)) (by rw [decide_eq_false (isC_ne hk)] <;> rfl)) (fun _ => es_retD ev_bl ?_) (fun z => nomatch z)
    unfold fitsC
    rw [e.1, e.2] <;> rfl
  · obtain ⟨d0, d1, d2, d3, hd, rfl, rfl, rfl, rfl⟩ := h
    refine ⟨_, [], List.replicate 4 none, (pss_cons (ps_expr (pe_cX f_check_schema tk hr (by omega) (by rfl) (pa_cons (pv 3) pa_nil))) (pss_cons (ps_if (PW.pt (pw_or (pt_not (pt_val (pe_c f_is_tag hr (by omega) (by rfl) (pa_cons (pv 1) pa_nil)))) (pw_or1 (pt_not (pt_val (pe_c f_may_have hr (by omega) (by rfl) (pa_cons (pv 0) (pa_cons (pv 1) (pa_cons (pv 3) pa_nil))))))))) (pss_one (ps_ret pe_bl)) pss_nil) (pss_cons (ps_if (pt_cmpR op_ne (pv 0) pe_str (nomark _)) (pss_one (ps_ret pe_bl)) pss_nil) (pss_one ps_never)))), ?_, Nat.le_refl _⟩
    exact er_weak (er_seq1 (er_drop (ex_callX (ds := [d3]) (es := []) (ea_cons (ev_var rfl) ea_nil) ⟨d3, hd, rfl, rfl, rfl, rfl⟩ rfl (fun _ => rfl)))) (lg_none rfl)
def R_need : List Sl → List MO → Sl → List MO → Prop := fun ss M r M' => ∃ (k t : List Nat) (c st : Dt) (s : List Nat) (p : Int), isC k ∧ t.length ≤ 640 ∧ Asc t ∧ s ∈ SCH ∧ fitsC k t s = true ∧ ss = [.d (.str k), .d (.str t), .d c, .d st, .d (.str s), .d (.int p)] ∧ M = [] ∧ r = .d (oS (needC k t)) ∧ M' = []
def X_need (K : PySem.W.Frag) (C CN : Addr) : List Sl → List MO → Ex → List MO → Prop := fun ss M x M' => (∃ (k t : List Nat) (c st : Dt) (s : List Nat) (p : Int), isC k ∧ t.length ≤ 640 ∧ s ∈ SCH ∧ fitsC k t s = false ∧ ss = [.d (.str k), .d (.str t), .d c, .d st, .d (.str s), .d (.int p)] ∧ M = [] ∧ x = ⟨.ref C, some ("place", .int p)⟩ ∧ M' = []) ∨
  ∃ d0 d1 d2 d3 d4 d5 : Dt, OddS K d4 ∧ ss = [.d d0, .d d1, .d d2, .d d3, .d d4, .d d5] ∧ M = [] ∧ x = ⟨.ref CN, some ("schema", d4)⟩ ∧ M' = []
theorem cal_need {C CN : Addr} (D : DfK K mg "tag_needed" s_tag_needed [("place", .int 0)]) (T_BadTag : Xi P w K mg base "BadTag" "place" C) (f_check_schema : CalX P w K mg base 3 "check_schema" (SpX K 1 R_check (X_check K CN)) []) (f_tag_fits : CalX P w K mg base 4 "tag_fits" (SpX K 4 R_fits (X_fits K CN)) []) (f_resolved : CalX P w K mg base 5 "resolved" (SpX K 6 R_res (X_res K C CN)) [.int 0]) :
    CalFX P w K mg base 6 "tag_needed" s_tag_needed ["kind", "tag", "content", "style", "schema", "place"] [("place", .int 0)] (SpX K 6 R_need (X_need K C CN)) := by
  refine cal_mkKX (k := 5) D sc_tag_needed rfl fun f cdv A outer s' H E hr tk po => ⟨fun ss M r M' h => ?_, fun ss M x M' h => ?_⟩
  · obtain ⟨k, t, c, st, s, p, hk, ht, at1, hs, hf, rfl, rfl, rfl, rfl⟩ := h
    refine ⟨_, [], (pss_cons (ps_expr (pe_cX f_check_schema tk hr (by omega) (by rfl) (pa_cons (pv 4) pa_nil))) (pss_cons (ps_if (pt_not (pt_val (pe_cX f_tag_fits tk hr (by omega) (by rfl) (pa_cons (pv 0) (pa_cons (pv 1) (pa_cons (pv 2) (pa_cons (pv 4) pa_nil))))))) (pss_one (ps_raiseI rfl tk T_BadTag hr (by omega) (by rfl) (pa_cons (pv 5) pa_nil))) pss_nil) (pss_cons (ps_asg (pe_tup (pa_cons (pv 1) (pa_cons (pe_ifExp (pt_cmpR op_eq (pv 0) pe_str (nomark _)) (pv 2) pe_str) pa_nil))) (pg_name (i := 6) sc_tag_needed.nd rfl (by first | exact .inl rfl | exact .inr rfl))) (pss_cons (ps_for po rfl (pi_tup (pe_tup (pa_cons pe_non (pa_cons pe_str pa_nil)))) (pg_name (i := 7) sc_tag_needed.nd rfl (by first | exact .inl rfl | exact .inr rfl)) (pss_one (ps_if (pt_cmpR (op_eqD (room64 hr)) (pe_cX f_resolved tk hr (by omega) (by rfl) (pa_cons (pv 0) (pa_cons (pv 7) (pa_cons (pv 3) (pa_cons (pv 2) (pa_cons (pv 4) pa_nil)))))) (pv 6) (nomark _)) (pss_one (ps_ret (pv 7))) pss_nil))) (pss_one (ps_ret (pv 1))))))), .inl ⟨?_, fun _ h => nomatch h⟩, Nat.le_refl _⟩
    refine es_seq (es_drop (ev_callX (ds := [.str s]) (es := []) (z := .non) (ea_cons (ev_var rfl) ea_nil) ⟨s, hs, rfl, rfl, rfl, rfl⟩ rfl (fun _ => rfl))) ?_
    refine es_pass (et_is (et_not (et_B (ev_callX (ds := [.str k, .str t, c, .str s]) (es := []) (z := .bl (fitsC k t s)) (ea_cons (ev_var rfl) (ea_cons (ev_var rfl) (ea_cons (ev_var rfl) (ea_cons (ev_var rfl) ea_nil)))) ⟨k, t, c, s, hk, ht, hs, rfl, rfl, rfl, rfl⟩ rfl (fun _ => rfl)))) (by rw [hf] <;> rfl)) ?_
    refine es_seq (es_asg (ev_tup (xs := [.str t, .str []]) (ea_cons (ev_var rfl) (ea_cons (ev_isD (ev_iteS (l := []) (m := []) (et_test (ev_op (ev_var rfl) (ev_str tScalar) ro_eqS)) (fun z => absurd (of_decide_eq_true z) (isC_ne hk)) (fun _ => ev_str [])) (show Dt.str (if decide (k = tScalar) = true then [] else []) = Dt.str [] by rw [ite_self])) ea_nil)) (show 2 ≤ 1000 by decide))) ?_
    refine es_nG (G' := [_, _, _, _, _, _, _, _]) rfl ?_
    have hpl := pr_ok at1 (show Asc [] from fun _ z => nomatch z)
    have hq := pr_ok (own_asc k (isC_mem hk)) (show Asc [] from fun _ z => nomatch z)
    have key : ∀ o, o ∈ LESS → EvT K _ [some (.d (.str k)), some (.d (.str t)), some (.d c), some (.d st), some (.d (.str s)), some (.d (.int p)), some (.d (.tup [.str t, .str []])), some (.d (oS o))] [] (decide (ownT k = t)) [] := fun o ho => by
      refine et_is (et_test (ev_op (ev_callX (ds := [.str k, oS o, st, c, .str s]) (es := [.int 0]) (z := .tup [.str (ownT k), .str []]) (R := R_res) (RX := X_res K C CN) (n := 6) (dvs := [.int 0]) (E := WE fun cls d x H => E cls d H) (ta := tCons (tVar 0) (tCons (tVar 7) (tCons (tVar 3) (tCons (tVar 2) (tCons (tVar 4) tNil))))) (ea_cons (ev_var rfl) (ea_cons (ev_var rfl) (ea_cons (ev_var rfl) (ea_cons (ev_var rfl) (ea_cons (ev_var rfl) ea_nil))))) ⟨k, o, st, c, s, 0, ownT k, hk, hs, less_res k (isC_mem hk) s hs o ho, rfl, rfl, rfl, rfl⟩ rfl (fun _ => ⟨_, _, rfl, rfl, rfl⟩)) (ev_var (i := 6) rfl) (ro_eqDt hq.1 hpl.1 hq.2 hpl.2))) ?_
      rw [eq_pr]
      by_cases h : ownT k = t
      · rw [decide_eq_true h, decide_eq_true (by rw [h])]
      · rw [decide_eq_false h, decide_eq_false (fun z => h (by injection z))]
    refine es_forFind LESS oS (fun _ => decide (ownT k = t)) (fun o => .d (oS o)) (G0 := [some (.d (.str k)), some (.d (.str t)), some (.d c), some (.d st), some (.d (.str s)), some (.d (.int p)), some (.d (.tup [.str t, .str []])), none]) (ei_tup (ev_tup (xs := LESS.map oS) (ea_cons ev_non (ea_cons (ev_str [33]) ea_nil)) (show 2 ≤ 1000 by decide))) (Lg.refl _) (fun o ho => ⟨_, eg_name, fun h => ?_, fun h => ?_⟩) (fun o h => ?_) (fun h => es_retD (ev_var rfl) ?_)
    · exact es_yes (key o ho) h (es_ret (ev_var rfl))
    · exact es_nxw (es_no (key o ho) h es_next) (lg_cons (lg_cons (lg_cons (lg_cons (lg_cons (lg_cons (lg_cons (lg_cons lg_nil (.inr rfl)) (.inl rfl)) (.inl rfl)) (.inl rfl)) (.inl rfl)) (.inl rfl)) (.inl rfl)) (.inl rfl))
    · unfold needC
      by_cases z : ownT k = t
      · rw [if_pos z.symm]
        rw [decide_eq_true z] at h
        cases h
        rfl
      · rw [decide_eq_false z] at h
        cases h
    · unfold needC
      by_cases z : ownT k = t
      · rw [decide_eq_true z] at h
        cases h
      · rw [if_neg (fun q => z q.symm)] <;> rfl
  · refine ⟨_, [], List.replicate 8 none, (pss_cons (ps_expr (pe_cX f_check_schema tk hr (by omega) (by rfl) (pa_cons (pv 4) pa_nil))) (pss_cons (ps_if (pt_not (pt_val (pe_cX f_tag_fits tk hr (by omega) (by rfl) (pa_cons (pv 0) (pa_cons (pv 1) (pa_cons (pv 2) (pa_cons (pv 4) pa_nil))))))) (pss_one (ps_raiseI rfl tk T_BadTag hr (by omega) (by rfl) (pa_cons (pv 5) pa_nil))) pss_nil) (pss_cons (ps_asg (pe_tup (pa_cons (pv 1) (pa_cons (pe_ifExp (pt_cmpR op_eq (pv 0) pe_str (nomark _)) (pv 2) pe_str) pa_nil))) (pg_name (i := 6) sc_tag_needed.nd rfl (by first | exact .inl rfl | exact .inr rfl))) (pss_cons (ps_for po rfl (pi_tup (pe_tup (pa_cons pe_non (pa_cons pe_str pa_nil)))) (pg_name (i := 7) sc_tag_needed.nd rfl (by first | exact .inl rfl | exact .inr rfl)) (pss_one (ps_if (pt_cmpR (op_eqD (room64 hr)) (pe_cX f_resolved tk hr (by omega) (by rfl) (pa_cons (pv 0) (pa_cons (pv 7) (pa_cons (pv 3) (pa_cons (pv 2) (pa_cons (pv 4) pa_nil)))))) (pv 6) (nomark _)) (pss_one (ps_ret (pv 7))) pss_nil))) (pss_one (ps_ret (pv 1))))))), ?_, ?_⟩
    · rcases h with ⟨k, t, c, st, s, p, hk, ht, hs, hf, rfl, rfl, rfl, rfl⟩ | ⟨d0, d1, d2, d3, d4, d5, hd, rfl, rfl, rfl, rfl⟩
      · refine er_seq2 (es_drop (ev_callX (ds := [.str s]) (es := []) (z := .non) (ea_cons (ev_var rfl) ea_nil) ⟨s, hs, rfl, rfl, rfl, rfl⟩ rfl (fun _ => rfl))) ?_
        exact er_seq1 (er_if (b := true) (M1 := []) (et_is (et_not (et_B (ev_callX (ds := [.str k, .str t, c, .str s]) (es := []) (z := .bl (fitsC k t s)) (ea_cons (ev_var rfl) (ea_cons (ev_var rfl) (ea_cons (ev_var rfl) (ea_cons (ev_var rfl) ea_nil)))) ⟨k, t, c, s, hk, ht, hs, rfl, rfl, rfl, rfl⟩ rfl (fun _ => rfl)))) (by rw [hf] <;> rfl)) (fun _ => er_weak (er_raiseI T_BadTag.ox T_BadTag.no (ea_cons (ev_var rfl) ea_nil)) (lg_none rfl)) (fun z => nomatch z))
      · exact er_weak (er_seq1 (er_drop (ex_callX (ds := [d4]) (es := []) (ea_cons (ev_var rfl) ea_nil) ⟨d4, hd, rfl, rfl, rfl, rfl⟩ rfl (fun _ => rfl)))) (lg_none rfl)
    · rcases h with ⟨k, t, c, st, s, p, hk, ht, hs, hf, rfl, rfl, rfl, rfl⟩ | ⟨d0, d1, d2, d3, d4, d5, hd, rfl, rfl, rfl, rfl⟩ <;> exact Nat.le_refl _
end
end T
namespace T
open PySem PySem.Spec PyProof.Rows L2 DJ LJ LamX
/-! ### the law's draws -/
abbrev s__law_draw : Stmt := topS 30
abbrev N__law_draw : List Str := ["_law_well_here", "_law_many", "_law_mixed", "_law_found"]
theorem sc__law_draw : FnScope N__law_draw ["_law_well_here", "_law_many"] (defScope s__law_draw) := ⟨rfl, rfl, rfl, by decide +kernel, rfl, by decide +kernel, by decide +kernel⟩
abbrev Wl := Int × Int × Int
abbrev wl (w : Wl) : MO := .lst [.int w.1, .int w.2.1, .int w.2.2]
def mix1 (a b : Int) : Int := ((a + 7919 * b + 1) * 48271) % 2147483647
def mix2 (m : Int) : Int := (m * (m / 1009 + 69621)) % 2147483629
def mix3 (m : Int) : Int := (m * (m / 2003 + 40692)) % 2147483587 / 5
def drawW (w : Wl) (n : Int) : Int × Wl :=
  if 10 ^ 18 ≤ w.1 then (w.1 % n, (w.1 / n, w.2.1, w.2.2)) else (mix3 (mix2 (mix1 w.2.1 (w.2.2 + 1))) % n, (w.1, w.2.1, w.2.2 + 1))
theorem draw_lt (w : Wl) {n : Int} (h : 0 < n) : 0 ≤ (drawW w n).1 ∧ (drawW w n).1 < n := by
  unfold drawW
  split
  · exact ⟨Int.emod_nonneg _ (by omega), Int.emod_lt_of_pos _ h⟩
  · exact ⟨Int.emod_nonneg _ (by omega), Int.emod_lt_of_pos _ h⟩
section
variable {P : Program} {w : World} {K : PySem.W.Frag} {mg : Str → Option Value} {base : Heap}
def R_draw : List Sl → List MO → Sl → List MO → Prop := fun ss M r M' => ∃ (x : Wl) (n : Int), (0 < n ∧ n.natAbs.log2 < 9000) ∧ ss = [.o 0, .d (.int n)] ∧ M = [wl x] ∧ r = .d (.int (drawW x n).1) ∧ M' = [wl (drawW x n).2]
theorem cal_draw {k : Nat} (D : Df K mg "_law_draw" s__law_draw ["_law_well_here", "_law_many"]) (m_int : mg "int" = none) : Cal P w K mg base (k + 1) "_law_draw" (SpR K 2 R_draw) [] := by
  refine cal_mk D sc__law_draw rfl fun f cdv A outer s H E hr ss M r M' h => ?_
  obtain ⟨⟨a, b, c⟩, n, ⟨hn, hn2⟩, rfl, rfl, rfl, rfl⟩ := h
  refine ⟨_, [], (pss_cons (ps_if (pt_cmpR op_ge (pe_ix ix_list (pv 0) pe_int (fun _ _ => rfl)) (pe_op op_pow pe_int pe_int) (nomark _)) (pss_cons (ps_asg (pe_op op_mod (pe_callTy call_int1 (by rfl) m_int (by decide +kernel) (pa_cons (pe_ix ix_list (pv 0) pe_int (fun _ _ => rfl)) pa_nil)) (pv 1)) (pg_name (i := 3) sc__law_draw.nd rfl (by first | exact .inl rfl | exact .inr rfl))) (pss_cons (ps_asg (pe_op op_fdivW (pe_ix ix_list (pv 0) pe_int (fun _ _ => rfl)) (pv 1)) (pg_sub (pv 0) pe_int set_list)) (pss_one (ps_ret (pv 3))))) pss_nil) (pss_cons (ps_asg (pe_op op_add (pe_ix ix_list (pv 0) pe_int (fun _ _ => rfl)) pe_int) (pg_sub (pv 0) pe_int set_list)) (pss_cons (ps_asg (pe_op op_mod (pe_callTy call_int1 (by rfl) m_int (by decide +kernel) (pa_cons (pe_op op_mul (pe_op op_add (pe_op op_add (pe_ix ix_list (pv 0) pe_int (fun _ _ => rfl)) (pe_op op_mul pe_int (pe_ix ix_list (pv 0) pe_int (fun _ _ => rfl)))) pe_int) pe_int) pa_nil)) pe_int) (pg_name (i := 2) sc__law_draw.nd rfl (by first | exact .inl rfl | exact .inr rfl))) (pss_cons (ps_asg (pe_op op_mod (pe_callTy call_int1 (by rfl) m_int (by decide +kernel) (pa_cons (pe_op op_mul (pv 2) (pe_op op_add (pe_op op_fdivW (pv 2) pe_int) pe_int)) pa_nil)) pe_int) (pg_name (i := 2) sc__law_draw.nd rfl (by first | exact .inl rfl | exact .inr rfl))) (pss_one (ps_ret (pe_op op_mod (pe_callTy call_int1 (by rfl) m_int (by decide +kernel) (pa_cons (pe_op op_fdivW (pe_op op_mod (pe_callTy call_int1 (by rfl) m_int (by decide +kernel) (pa_cons (pe_op op_mul (pv 2) (pe_op op_add (pe_op op_fdivW (pv 2) pe_int) pe_int)) pa_nil)) pe_int) pe_int) pa_nil)) (pv 1)))))))), ?_, Nat.le_refl _, fun _ h => nomatch h⟩
  refine es_guard (et_test (ev_op (ev_ixO (k := 0) (x := .int a) (ev_var rfl) ev_int rfl rfl) (ev_op ev_int ev_int (ro_pow ⟨by decide, by decide, by decide⟩)) ro_ge)) (fun h => ?_) (fun h => ?_)
  · have h : (10 : Int) ^ 18 ≤ a := of_decide_eq_true h
    have e : drawW (a, b, c) n = (a % n, (a / n, b, c)) := if_pos h
    rw [e]
    refine es_seq (es_asg (ev_op (ev_cb (xs := [.int a]) (ea_cons (ev_ixO (k := 0) (x := .int a) (ev_var rfl) ev_int rfl rfl) ea_nil) rc_int1) (ev_var rfl) (ro_mod hn))) ?_
    refine es_seq (es_setO (k := 0) (j := 0) (xs := [.int a, .int b, .int c]) (ev_op (ev_ixO (k := 0) (x := .int a) (ev_var rfl) ev_int rfl rfl) (ev_var rfl) (ro_fdivW ⟨hn, hn2⟩)) (ev_var rfl) ev_int rfl rfl) ?_
    exact es_ret (ev_var rfl)
  · have h : ¬ (10 : Int) ^ 18 ≤ a := of_decide_eq_false h
    have e : drawW (a, b, c) n = (mix3 (mix2 (mix1 b (c + 1))) % n, (a, b, c + 1)) := if_neg h
    rw [e]
    have k1 : CMul (mix1 b (c + 1)) (mix1 b (c + 1) / 1009 + 69621) := by
      left
      have h1 : 0 ≤ mix1 b (c + 1) := Int.emod_nonneg _ (by decide)
      have h2 : mix1 b (c + 1) < 2147483647 := Int.emod_lt_of_pos _ (by decide)
      generalize mix1 b (c + 1) = m at *
      omega
    have k2 : CMul (mix2 (mix1 b (c + 1))) (mix2 (mix1 b (c + 1)) / 2003 + 40692) := by
      left
      have h1 : 0 ≤ mix2 (mix1 b (c + 1)) := Int.emod_nonneg _ (by decide)
      have h2 : mix2 (mix1 b (c + 1)) < 2147483629 := Int.emod_lt_of_pos _ (by decide)
      generalize mix2 (mix1 b (c + 1)) = m at *
      omega
    refine es_seq (es_setO (k := 0) (j := 2) (xs := [.int a, .int b, .int c]) (ev_op (ev_ixO (k := 0) (x := .int c) (ev_var rfl) ev_int rfl rfl) ev_int ro_add) (ev_var rfl) ev_int rfl rfl) ?_
    refine es_seq (es_asg (ev_isD (ev_op (ev_cb (xs := [.int ((b + 7919 * (c + 1) + 1) * 48271)]) (ea_cons (ev_op (ev_op (ev_op (ev_ixO (k := 0) (x := .int b) (ev_var rfl) ev_int rfl rfl) (ev_op ev_int (ev_ixO (k := 0) (x := .int (c + 1)) (ev_var rfl) ev_int rfl rfl) (ro_mul (.inl (by decide)))) ro_add) ev_int ro_add) ev_int (ro_mul (.inr (by decide)))) ea_nil) rc_int1) ev_int (ro_mod (by decide))) (show _ = Dt.int (mix1 b (c + 1)) from rfl))) ?_
    refine es_nG (G' := [_, _, _, _]) rfl ?_
    refine es_seq (es_asg (ev_isD (ev_op (ev_cb (xs := [.int (mix1 b (c + 1) * (mix1 b (c + 1) / 1009 + 69621))]) (ea_cons (ev_op (ev_var rfl) (ev_op (ev_op (ev_var rfl) ev_int (ro_fdivW ⟨by decide, by decide⟩)) ev_int ro_add) (ro_mul k1)) ea_nil) rc_int1) ev_int (ro_mod (by decide))) (show _ = Dt.int (mix2 (mix1 b (c + 1))) from rfl))) ?_
    refine es_nG (G' := [_, _, _, _]) rfl ?_
    exact es_ret (ev_op (ev_cb (xs := [.int (mix3 (mix2 (mix1 b (c + 1))))]) (ea_cons (ev_isD (ev_op (ev_op (ev_cb (xs := [.int (mix2 (mix1 b (c + 1)) * (mix2 (mix1 b (c + 1)) / 2003 + 40692))]) (ea_cons (ev_op (ev_var rfl) (ev_op (ev_op (ev_var rfl) ev_int (ro_fdivW ⟨by decide, by decide⟩)) ev_int ro_add) (ro_mul k2)) ea_nil) rc_int1) ev_int (ro_mod (by decide))) ev_int (ro_fdivW ⟨by decide, by decide⟩)) (show _ = Dt.int (mix3 (mix2 (mix1 b (c + 1)))) from rfl)) ea_nil) rc_int1) (ev_var rfl) (ro_mod hn))
end
end T
namespace T
open PySem PySem.Spec PyProof.Rows L2 DJ LJ LamX
abbrev s__law_one : Stmt := topS 31
abbrev N__law_one : List Str := ["_law_well_here", "_law_some"]
theorem sc__law_one : FnScope N__law_one ["_law_well_here", "_law_some"] (defScope s__law_one) := ⟨rfl, rfl, rfl, by decide +kernel, rfl, by decide +kernel, by decide +kernel⟩
abbrev s__law_well : Stmt := topS 32
abbrev N__law_well : List Str := ["_law_script", "_law_k", "_law_cell"]
theorem sc__law_well : FnScope N__law_well ["_law_script", "_law_k"] (defScope s__law_well) := ⟨rfl, rfl, rfl, by decide +kernel, rfl, by decide +kernel, by decide +kernel⟩
def wellW (ns : List Int) (k : Nat) : Wl := (ns.getD k (7919 * (k : Int)), ns.getD k (7919 * (k : Int)) % 2147483629, 0)
/-- a drawn one of some things -/
def oneT (x : Wl) (xs : List (List Nat)) : List Nat × Wl := (xs.getD (drawW x xs.length).1.toNat [], (drawW x xs.length).2)
def oneC (x : Wl) (l : List Nat) : Nat × Wl := (l.getD (drawW x l.length).1.toNat 0, (drawW x l.length).2)
theorem atI_draw {α : Type} (x : Wl) (xs : List α) (d : α) (h : xs ≠ []) : atI xs (drawW x xs.length).1 = some (xs.getD (drawW x xs.length).1.toNat d) := by
  have hl : 0 < xs.length := List.length_pos_iff.mpr h
  obtain ⟨h1, h2⟩ := draw_lt x (n := xs.length) (by omega)
  generalize (drawW x xs.length).1 = i at *
  obtain ⟨n, rfl⟩ := Int.eq_ofNat_of_zero_le h1
  have hn : n < xs.length := by omega
  rw [atI_nat hn, Int.toNat_natCast, List.getD_eq_getElem?_getD, List.getElem?_eq_getElem hn] <;> rfl
section
variable {P : Program} {w : World} {K : PySem.W.Frag} {mg : Str → Option Value} {base : Heap}
def R_one : List Sl → List MO → Sl → List MO → Prop := fun ss M r M' => ∃ x : Wl, M = [wl x] ∧
  ((∃ xs : List Dt, xs ≠ [] ∧ xs.length ≤ 100000 ∧ ss = [.o 0, .d (.lst xs)] ∧ r = .d (xs.getD (drawW x xs.length).1.toNat .non) ∧ M' = [wl (drawW x xs.length).2]) ∨
    ∃ l : List Nat, l ≠ [] ∧ l.length ≤ 100000 ∧ ss = [.o 0, .d (.str l)] ∧ r = .d (.str [l.getD (drawW x l.length).1.toNat 0]) ∧ M' = [wl (drawW x l.length).2])
theorem cal_one {k : Nat} (D : Df K mg "_law_one" s__law_one ["_law_well_here", "_law_some"]) (f__law_draw : Cal P w K mg base (k + 1) "_law_draw" (SpR K 2 R_draw) []) (m_len : mg "len" = none) : Cal P w K mg base (k + 2) "_law_one" (SpR K 2 R_one) [] := by
  refine cal_mk D sc__law_one rfl fun f cdv A outer s H E hr ss M r M' h => ?_
  refine ⟨_, [], (pss_one (ps_ret (pe_ix ix_seq (pv 1) (pe_c f__law_draw hr (by omega) (by rfl) (pa_cons (pv 0) (pa_cons (pe_callB call_len (by rfl) m_len PySem.boot_len (pa_cons (pv 1) pa_nil)) pa_nil))) (fun _ _ => rfl)))), ?_, ?_, ?_⟩
  · obtain ⟨x, rfl, h⟩ := h
    rcases h with ⟨xs, hne, hl, rfl, rfl, rfl⟩ | ⟨l, hne, hl, rfl, rfl, rfl⟩
    · have hp : 0 < xs.length := List.length_pos_iff.mpr hne
      refine es_ret (ev_op (ev_var rfl) (ev_call1 (k := 0) (m := wl x) (m' := wl (drawW x xs.length).2) (es := []) (ss := [.o 0, .d (.int (xs.length : Nat))]) (ea_cons (ev_var rfl) (ea_cons (ev_cb (xs := [.lst xs]) (ea_cons (ev_var rfl) ea_nil) rc_lenL') ea_nil)) rfl (fun z => nomatch z) ?_ ⟨x, _, ⟨by omega, log_short (by omega) (by omega)⟩, rfl, rfl, rfl, rfl⟩ (fun z => nomatch z) rfl (fun _ => rfl)) (ro_ixL' (atI_draw x xs .non hne)))
      intro s hs j e
      subst e
      simp at hs
      exact hs
    · have hp : 0 < l.length := List.length_pos_iff.mpr hne
      refine es_ret (ev_op (ev_var rfl) (ev_call1 (k := 0) (m := wl x) (m' := wl (drawW x l.length).2) (es := []) (ss := [.o 0, .d (.int (l.length : Nat))]) (ea_cons (ev_var rfl) (ea_cons (ev_cb (xs := [.str l]) (ea_cons (ev_var rfl) ea_nil) (rc_lenS' (by omega))) ea_nil)) rfl (fun z => nomatch z) ?_ ⟨x, _, ⟨by omega, log_short (by omega) (by omega)⟩, rfl, rfl, rfl, rfl⟩ (fun z => nomatch z) rfl (fun _ => rfl)) (ro_ixS' (by omega) (atI_draw x l 0 hne)))
      intro s hs j e
      subst e
      simp at hs
      exact hs
  · obtain ⟨x, rfl, h⟩ := h
    rcases h with ⟨xs, hne, hl, rfl, rfl, rfl⟩ | ⟨l, hne, hl, rfl, rfl, rfl⟩ <;> exact Nat.le_refl _
  · obtain ⟨x, rfl, h⟩ := h
    rcases h with ⟨xs, hne, hl, rfl, rfl, rfl⟩ | ⟨l, hne, hl, rfl, rfl, rfl⟩ <;> exact fun _ h => nomatch h
def R_well : List Sl → List MO → Sl → List MO → Prop := fun ss M r M' => ∃ (ns : List Int) (k : Nat), ss = [.d (.lst (ns.map .int)), .d (.int k)] ∧ M = [] ∧ r = .o 0 ∧ M' = [wl (wellW ns k)]
theorem cal_well {k : Nat} (D : Df K mg "_law_well" s__law_well ["_law_script", "_law_k"]) (m_int : mg "int" = none) (m_len : mg "len" = none) : Cal P w K mg base (k + 1) "_law_well" (SpR K 2 R_well) [] := by
  refine cal_mk D sc__law_well rfl fun f cdv A outer s H E hr ss M r M' h => ?_
  obtain ⟨ns, k, rfl, rfl, rfl, rfl⟩ := h
  refine ⟨_, [], (pss_cons (ps_asg (pe_ifExp (pt_cmpR op_lt (pv 1) (pe_callB call_len_seq (by rfl) m_len PySem.boot_len (pa_cons (pv 0) pa_nil)) (nomark _)) (pe_ix ix_list (pv 0) (pv 1) (fun _ _ => rfl)) (pe_op op_mul pe_int (pv 1))) (pg_name (i := 2) sc__law_well.nd rfl (by first | exact .inl rfl | exact .inr rfl))) (pss_one (ps_ret (pe_lst (pa_cons (pv 2) (pa_cons (pe_op op_mod (pe_callTy call_int1 (by rfl) m_int (by decide +kernel) (pa_cons (pv 2) pa_nil)) pe_int) (pa_cons pe_int pa_nil))))))), ?_, Nat.zero_le _, fun j h => by cases h; exact Nat.zero_lt_one⟩
  refine es_seq (es_asg (ev_isD (ev_iteI (et_test (ev_op (ev_var rfl) (ev_cb (xs := [.lst (ns.map .int)]) (ea_cons (ev_var rfl) ea_nil) rc_lenL) ro_lt)) (fun h => ev_isD (ev_op (ev_var rfl) (ev_var rfl) (ro_ixL (x := .int (ns.getD k (7919 * (k : Int)))) ?_)) rfl) (fun h => ev_op ev_int (ev_var rfl) (ro_mul (.inl (by decide))))) (show _ = Dt.int (ns.getD k (7919 * (k : Int))) from ?_))) ?_
  · have h : (k : Int) < ((ns.map Dt.int).length : Nat) := of_decide_eq_true h
    rw [List.length_map] at h
    have hk : k < ns.length := by omega
    rw [atI_nat (by rw [List.length_map]; exact hk), List.getElem_map, List.getD_eq_getElem?_getD, List.getElem?_eq_getElem hk] <;> rfl
  · congr 1
    split
    · rfl
    · rename_i h
      have h : ¬ (k : Int) < ((ns.map Dt.int).length : Nat) := by simpa using h
      rw [List.length_map] at h
      rw [List.getD_eq_getElem?_getD, List.getElem?_eq_none (by omega)] <;> rfl
  · exact es_ret (ev_lstO (xs := [_, _, _]) (ea_cons (ev_var rfl) (ea_cons (ev_op (ev_cb (xs := [.int (ns.getD k (7919 * (k : Int)))]) (ea_cons (ev_var rfl) ea_nil) rc_int1) ev_int (ro_mod (by decide))) (ea_cons ev_int ea_nil))) (show 3 ≤ 1000 by decide))
end
end T
namespace T
open PySem PySem.Spec PyProof.Rows L2 DJ LJ LamX
/-! ### what the law expects -/
abbrev s__law_due : Stmt := topS 34
abbrev N__law_due : List Str := ["_law_sort_so", "_law_lead", "_law_way", "_law_at", "_law_own", "_law_barred"]
theorem sc__law_due : FnScope N__law_due ["_law_sort_so", "_law_lead", "_law_way", "_law_at"] (defScope s__law_due) := ⟨rfl, rfl, rfl, by decide +kernel, rfl, by decide +kernel, by decide +kernel⟩
theorem draw_nat (x : Wl) (n : Nat) (h : 0 < n) : (drawW x n).1.toNat < n := by
  obtain ⟨h1, h2⟩ := draw_lt x (n := n) (by omega)
  omega
abbrev wg (x : Wl) : wl x ≠ .gone := fun z => nomatch z
theorem getD_map {α : Type} (f : α → Dt) (ys : List α) (d : α) (i : Nat) (h : i < ys.length) : (ys.map f).getD i .non = f (ys.getD i d) := by
  rw [List.getD_eq_getElem?_getD, List.getD_eq_getElem?_getD, List.getElem?_map, List.getElem?_eq_getElem h] <;> rfl
def oneA {α : Type} (d : α) (x : Wl) (ys : List α) : α × Wl := (ys.getD (drawW x ys.length).1.toNat d, (drawW x ys.length).2)
theorem R_oneA {α : Type} (f : α → Dt) (d : α) (x : Wl) (ys : List α) (hne : ys ≠ []) (hl : ys.length ≤ 100000) : R_one (.o 0 :: [Dt.lst (ys.map f)].map Sl.d) [wl x] (.d (f (oneA d x ys).1)) [wl (oneA d x ys).2] := by
  have hp := draw_nat x ys.length (List.length_pos_iff.mpr hne)
  refine ⟨x, rfl, .inl ⟨ys.map f, by simpa using hne, by rw [List.length_map]; exact hl, rfl, ?_, ?_⟩⟩
  · rw [List.length_map, getD_map f ys d _ hp] <;> rfl
  · rw [List.length_map] <;> rfl
theorem oneA_mem {α : Type} (d : α) (x : Wl) {ys : List α} (hne : ys ≠ []) : (oneA d x ys).1 ∈ ys := by
  have hp := draw_nat x ys.length (List.length_pos_iff.mpr hne)
  show ys.getD _ d ∈ ys
  rw [List.getD_eq_getElem?_getD, List.getElem?_eq_getElem hp]
  exact List.getElem_mem hp
theorem R_drawI (x : Wl) (n : Int) (h : 0 < n) (h2 : n < 1073741824) : R_draw (.o 0 :: [Dt.int n].map Sl.d) [wl x] (.d (.int (drawW x n).1)) [wl (drawW x n).2] := ⟨x, n, ⟨h, log_short h h2⟩, rfl, rfl, rfl, rfl⟩
theorem R_drawL (x : Wl) (n : Int) (h : 0 < n) (h2 : n.natAbs.log2 < 9000) : R_draw (.o 0 :: [Dt.int n].map Sl.d) [wl x] (.d (.int (drawW x n).1)) [wl (drawW x n).2] := ⟨x, n, ⟨h, h2⟩, rfl, rfl, rfl, rfl⟩
abbrev tBad : List Nat := [98, 97, 100]
abbrev BARS : List (List Nat) := [tSeq, tMap, tStr]
def BAR (s : List Nat) : List (List Nat) := BARS ++ (List.replicate (if s = sCore then 1 else 0) WT).flatten
def dueL (k : List Nat) (t : Option (List Nat)) (s : List Nat) : Option (List Nat) := match t with
  | none => some (ownT k)
  | some l => if l ∈ [[33], ownT k] then some (ownT k) else if l ∈ BAR s then none else some l
def tagD (o : Option (List Nat)) (p : Int) : Dt := match o with
  | some a => .tup [.str a, .str []]
  | none => .tup [.str tBad, .int p]
def dueD (k : List Nat) (t : Option (List Nat)) (s : List Nat) (p : Int) : Dt := tagD (dueL k t s) p
section
variable {P : Program} {w : World} {K : PySem.W.Frag} {mg : Str → Option Value} {base : Heap}
def R_due : List Sl → List MO → Sl → List MO → Prop := fun ss M r M' => ∃ (k : List Nat) (t : Option (List Nat)) (s : List Nat) (p : Int), ss = [.d (.str k), .d (oS t), .d (.str s), .d (.int p)] ∧ M = [] ∧ r = .d (dueD k t s p) ∧ M' = []
theorem cal_due {j : Nat} (D : Df K mg "_law_due" s__law_due ["_law_sort_so", "_law_lead", "_law_way", "_law_at"]) (m_int : mg "int" = none) : Cal P w K mg base (j + 1) "_law_due" (SpR K 4 R_due) [] := by
  refine cal_mk D sc__law_due rfl fun f cdv A outer s' H E hr ss M r M' h => ?_
  obtain ⟨k, t, s, p, rfl, rfl, rfl, rfl⟩ := h
  refine ⟨_, [], (pss_cons (ps_asg (pe_ifExp (pt_cmpR op_eq (pv 0) pe_str (nomark _)) pe_str pe_str) (pg_name (i := 4) sc__law_due.nd rfl (by first | exact .inl rfl | exact .inr rfl))) (pss_cons (ps_if (PW.pt (pw_or (pt_cmpR op_isN (pv 1) pe_non (nomark _)) (pw_or1 (pt_cmpR (show OpR _ (compareOp .In) (rIn K false) from op_in_seq) (pv 1) (pe_tup (pa_cons pe_str (pa_cons (pv 4) pa_nil))) (by rfl))))) (pss_one (ps_ret (pe_tup (pa_cons (pv 4) (pa_cons pe_str pa_nil))))) pss_nil) (pss_cons (ps_asg (pe_op op_cat (pe_lst (pa_cons pe_str (pa_cons pe_str (pa_cons pe_str pa_nil)))) (pe_op op_rep (pe_lst (pa_cons pe_str (pa_cons pe_str (pa_cons pe_str (pa_cons pe_str pa_nil))))) (pe_callTy call_int1 (by rfl) m_int (by decide +kernel) (pa_cons (pe_cmpR op_eq (pv 2) pe_str (nomark _)) pa_nil)))) (pg_name (i := 5) sc__law_due.nd rfl (by first | exact .inl rfl | exact .inr rfl))) (pss_one (ps_ret (pe_ifExp (pt_cmpR (show OpR _ (compareOp .In) (rIn K false) from op_in_seq) (pv 1) (pv 5) (by rfl)) (pe_tup (pa_cons pe_str (pa_cons (pv 3) pa_nil))) (pe_tup (pa_cons (pv 1) (pa_cons pe_str pa_nil))))))))), ?_, Nat.le_refl _, fun _ h => nomatch h⟩
  have e1 : (if decide (k = tSeqK) = true then tSeq else tMap) = ownT k := by
    unfold ownT
    by_cases z : k = tSeqK
    · rw [if_pos z, if_pos (decide_eq_true z)]
    · rw [if_neg z, if_neg (by rw [decide_eq_false z]; exact Bool.false_ne_true)]
  refine es_seq (es_asg (ev_isD (ev_iteS (et_test (ev_op (ev_var rfl) (ev_str tSeqK) ro_eqS)) (fun _ => ev_str tSeq) (fun _ => ev_str tMap)) (show _ = Dt.str (ownT k) by rw [← e1]))) ?_
  refine es_nG (G' := [_, _, _, _, _, _]) rfl ?_
  cases t with
  | none =>
    exact es_guard (b := true) (et_is (et_or (b := true) (c := true) (et_is (et_test (ev_op (ev_var rfl) ev_non ro_isN)) rfl) (fun z => nomatch z) (fun _ => rfl)) rfl) (fun _ => es_retD (ev_tup (xs := [.str (ownT k), .str []]) (ea_cons (ev_var rfl) (ea_cons (ev_str []) ea_nil)) (show 2 ≤ 1000 by decide)) rfl) (fun z => nomatch z)
  | some l =>
    have e2 : dueD k (some l) s p = if l ∈ [[33], ownT k] then .tup [.str (ownT k), .str []] else if l ∈ BAR s then .tup [.str tBad, .int p] else .tup [.str l, .str []] := by
      unfold dueD dueL
      by_cases h1 : l ∈ [[33], ownT k]
      · simp only [if_pos h1, tagD]
      · simp only [if_neg h1]
        by_cases h2 : l ∈ BAR s
        · simp only [if_pos h2, tagD]
        · simp only [if_neg h2, tagD]
    rw [e2]
    refine es_guard (b := decide (l ∈ [[33], ownT k])) (et_or (b := false) (c := decide (l ∈ [[33], ownT k])) (et_is (et_test (ev_op (ev_isD (ev_var rfl) (show _ = oS (some l) from rfl)) ev_non ro_isN)) rfl) (fun _ => et_test (ev_op (ev_isD (ev_var rfl) (show oS (some l) = Dt.str l from rfl)) (ev_isD (ev_tup (xs := [.str [33], .str (ownT k)]) (ea_cons (ev_str [33]) (ea_cons (ev_var rfl) ea_nil)) (show 2 ≤ 1000 by decide)) (show _ = Dt.tup ([[33], ownT k].map Dt.str) from rfl)) ro_inT)) (fun z => nomatch z)) (fun h => ?_) (fun h => ?_)
    · rw [if_pos (of_decide_eq_true h)]
      exact es_ret (ev_tup (xs := [.str (ownT k), .str []]) (ea_cons (ev_var rfl) (ea_cons (ev_str []) ea_nil)) (show 2 ≤ 1000 by decide))
    · rw [if_neg (of_decide_eq_false h)]
      have eb : Dt.int (if decide (s = sCore) = true then 1 else 0) = .int (((if s = sCore then 1 else 0 : Nat)) : Int) := by
        by_cases z : s = sCore
        · rw [if_pos z, if_pos (decide_eq_true z)] <;> rfl
        · rw [if_neg z, if_neg (by rw [decide_eq_false z]; exact Bool.false_ne_true)] <;> rfl
      have n1 : (if s = sCore then 1 else 0 : Nat) ≤ 1 := by split <;> omega
      have e3 : BARS.map Dt.str ++ (List.replicate (if s = sCore then 1 else 0) (WT.map Dt.str)).flatten = (BAR s).map Dt.str := by
        unfold BAR
        split <;> rfl
      have l3 : (BARS.map Dt.str).length + ((List.replicate (if s = sCore then 1 else 0) (WT.map Dt.str)).flatten).length ≤ 100000 := by
        split <;> decide
      refine es_seq (es_asg (s := .d (.lst ((BAR s).map Dt.str))) (M1 := []) (ev_wk (ev_isD (ev_op (ev_lstX (xs := BARS.map Dt.str) (ea_cons (ev_str _) (ea_cons (ev_str _) (ea_cons (ev_str _) ea_nil))) (show 3 ≤ 1000 by decide)) (ev_op (ev_lstX (xs := WT.map Dt.str) (ea_cons (ev_str _) (ea_cons (ev_str _) (ea_cons (ev_str _) (ea_cons (ev_str _) ea_nil)))) (show 4 ≤ 1000 by decide)) (ev_isD (ev_cb (xs := [.bl (decide (s = sCore))]) (ea_cons (ev_op (ev_var rfl) (ev_str sCore) ro_eqS) ea_nil) rc_intB) eb) (ro_rep (show 4 * _ ≤ 100000 by omega) (by omega))) (ro_cat l3)) (show _ = lstX K ((BAR s).map Dt.str) by rw [e3])) lstX_lst)) ?_
      refine es_nG (G' := [_, _, _, _, _, _]) rfl ?_
      refine es_ret (ev_if (b := decide (l ∈ BAR s)) (et_test (ev_op (ev_isD (ev_var rfl) (show oS (some l) = Dt.str l from rfl)) (ev_var rfl) ro_inL)) (fun h2 => ?_) (fun h2 => ?_))
      · rw [if_pos (of_decide_eq_true h2)]
        exact ev_tup (xs := [.str tBad, .int p]) (ea_cons (ev_str tBad) (ea_cons (ev_var rfl) ea_nil)) (show 2 ≤ 1000 by decide)
      · rw [if_neg (of_decide_eq_false h2)]
        exact ev_tup (xs := [.str l, .str []]) (ea_cons (ev_isD (ev_var rfl) (show oS (some l) = Dt.str l from rfl)) (ea_cons (ev_str []) ea_nil)) (show 2 ≤ 1000 by decide)
end
end T
namespace T
open PySem PySem.Spec PyProof.Rows L2 DJ LJ LamX
/-! ### what was told; one draw, held against what is resolved, what fits, what is needed -/
abbrev s__law_told : Stmt := topS 33
abbrev N__law_told : List Str := ["_law_ask", "e"]
theorem sc__law_told : FnScope N__law_told ["_law_ask"] (defScope s__law_told) := ⟨rfl, rfl, rfl, by decide +kernel, rfl, by decide +kernel, by decide +kernel⟩
abbrev s__law_right : Stmt := topS 35
abbrev N__law_right : List Str := ["_law_well_here", "_law_tags", "_law_due_here", "_law_sort_so", "_law_lead", "_law_way", "_law_at", "_law_shape", "_law_more", "_law_found", "_law_needed"]
theorem sc__law_right : FnScope N__law_right ["_law_well_here"] (defScope s__law_right) := ⟨rfl, rfl, rfl, by decide +kernel, rfl, by decide +kernel, by decide +kernel⟩
abbrev tNone : List Nat := [110, 111, 110, 101]
def OKB (y z : Dt) : Prop := ∃ p : Int, y = .int p ∧ z = .tup [.str tBad, .int p]
def OKN (y z : Dt) : Prop := z = .tup [.str tNone, y]
section
variable {X : Cx}
theorem told_ok {C CN : Addr} (TB : Xi X.prog X.w X.K X.mg X.base "BadTag" "place" C) (TN : Xi X.prog X.w X.K X.mg X.base "NoSchema" "schema" CN) (e21 : PySem.W.exmOne X.K (.ref CN) (.ref C) = some false) (q : Str) (g : Addr) (cdg : Value) : GivesG X N__law_told "_law_told" (defScope s__law_told) g cdg (defBody s__law_told) "_law_ask" q (LJ.TTold2 X.K q C CN "place" "schema" Eq OKB OKN) :=
  LJ.told_gives2R
    (ts1 := fun a cls d => tRet (tTup (tCons (tC (.str (tx tBad))) (tCons (tXf a cls d C "place" (tVar 1)) tNil))))
    (ts2 := fun a cls d => tRet (tTup (tCons (tC (.str (tx tNone))) (tCons (tXf a cls d CN "schema" (tVar 1)) tNil))))
    sc__law_told.nd rfl TB.te e21 TN.te
    (fun s H => .cons (n := "e") (c := .ref C) (i := 1) ⟨rfl, by decide, .inl TB.gC⟩ rfl rfl
      (fun a oe cls d pn hz hf => pss_one (ps_ret (pe_tup (pa_cons pe_str (pa_cons (pe_xf TB.xf TB.no hz hf (pv 1)) pa_nil)))))
      (.cons (n := "e") (c := .ref CN) (i := 1) ⟨rfl, by decide, .inl TN.gC⟩ rfl rfl
        (fun a oe cls d pn hz hf => pss_one (ps_ret (pe_tup (pa_cons pe_str (pa_cons (pe_xf TN.xf TN.no hz hf (pv 1)) pa_nil))))) .nil))
    (fun y z h fv a d M => by
      obtain ⟨i, rfl, rfl⟩ := h
      exact es_ret (ev_tup (xs := [.str tBad, .int i]) (ea_cons (ev_str _) (ea_cons (ev_xf (ev_var rfl)) ea_nil)) (show 2 ≤ 1000 by decide)))
    (fun y z h fv a d M => by
      have h : z = .tup [.str tNone, y] := h
      subst h
      exact es_ret (ev_tup (xs := [.str tNone, y]) (ea_cons (ev_str _) (ea_cons (ev_xf (ev_var rfl)) ea_nil)) (show 2 ≤ 1000 by decide)))
theorem pe_told {C CN c PT : Addr} {j : Nat} {pr : Arguments} {bd : Expr} {sc : Scope} {t : XK → TE} {dfl : Option Int} {p lpos pos : Pos} (D : Df X.K X.mg "_law_told" s__law_told ["_law_ask"]) (Tb : Xi X.prog X.w X.K X.mg X.base "BadTag" "place" C) (TN : Xi X.prog X.w X.K X.mg X.base "NoSchema" "schema" CN) (e21 : PySem.W.exmOne X.K (.ref CN) (.ref C) = some false) (hg : Gl X "_law_told")
    (TB : TabB X.base X.mg c PT) (hcode : X.env.code = .ref c) (hr : Room j X.A) (hj : 9 ≤ j) (L0 : LamN X.N X.env.scope sc) (df : Dfl pr X.env dfl) (lb : LamB pr bd sc dfl)
    (hbody : ∀ (A : Around) (outer : List Env) (s : Shared) (H : Hp) (E : XK) (f c' : Addr), Room 7 (A.deeper (lamEnv X sc s.heap.objs.size f c')) → PE (lamCx X A outer s H E sc f c') bd (t E))
    (hst : starEach [Expr.Lambda pr bd sc lpos] X.env = (false, eval (.Lambda pr bd sc lpos) X.env) :: starEach [] X.env := by rfl) (hpl : (backTo pos (starEach [] X.env)).any (·.1) = false := by rfl)
    (hbt : backTo pos ((false, eval (.Lambda pr bd sc lpos) X.env) :: starEach [] X.env) = (false, eval (.Lambda pr bd sc lpos) X.env) :: backTo pos (starEach [] X.env) := by rfl) :
    PE X (.Call (.Name "_law_told" p) [.Lambda pr bd sc lpos] [] pos) (tLamG (X.env.qual ++ "<lambda>") PT lpos (LJ.TTold2 X.K (X.env.qual ++ "<lambda>") C CN "place" "schema" Eq OKB OKN) tNil t) :=
  pe_lamD (k := 7) D hg sc__law_told rfl (.inl rfl) (fun tl c' vs H Q h => by
    obtain ⟨_, h, _⟩ := h
    rw [List.length_cons, h] <;> rfl) (told_ok Tb TN e21 _) TB hcode (hr.mono hj) L0 df lb pa_nil hbody (by decide) (by decide) (by decide) hst hpl hbt
end
/-! #### draws -/
abbrev KINDS : List (List Nat) := [tSeqK, tMapK]
abbrev TG12 : List (Option (List Nat)) := [none, some [33], some tSeq, some tMap, some tStr, some [33, 33, 110, 117, 108, 108], some [33, 33, 98, 111, 111, 108], some [33, 33, 105, 110, 116], some [33, 33, 102, 108, 111, 97, 116], some [33, 120], some [33, 33, 115, 101, 116], some [33, 115, 101, 113]]
abbrev TGS : List (Option (List Nat)) := TG12 ++ [some [33, 33, 77, 97, 112]]
abbrev SHP : List (Option (List Nat)) := [some [112, 108, 97, 105, 110], some [100, 111, 117, 98, 108, 101], none, some [98, 108, 111, 99, 107]]
abbrev MOR : List (Option (List Nat)) := [some [], some [49, 50], none, some [110, 117, 108, 108]]
def rightW (x : Wl) : Wl := (oneA none (oneA none (drawW (oneA [] (oneA none (oneA [] x KINDS).2 TGS).2 SCH).2 1000000000).2 SHP).2 MOR).2
theorem due_res : ∀ k ∈ KINDS, ∀ t ∈ TGS, ∀ s ∈ SCH, dueL k t s = resC k t s := by decide +kernel
theorem res_ne : ∀ k ∈ KINDS, ∀ t ∈ TGS, ∀ s ∈ SCH, (resC k t s).all (fun a => !decide (a = tBad) && a.all (· < 128)) = true := by decide +kernel
theorem fits_res : ∀ k ∈ KINDS, ∀ t ∈ TGS, ∀ s ∈ SCH, ∀ l ∈ t, l ≠ [33] → fitsC k l s = !decide (resC k t s = none) ∧ l.length ≤ 640 ∧ (l.all (· < 128)) = true ∧ (fitsC k l s = true → (if l ∈ CT then none else some l) = needC k l) := by decide +kernel
def needD (k : List Nat) (t : Option (List Nat)) (s l : List Nat) (p : Int) : Dt := if decide (resC k t s = none) = true then .tup [.str tBad, .int p] else if decide (l ∈ CT) = true then .non else .str l
theorem bad_ok (p : Int) : plD (.tup [.str tBad, .int p]) = true ∧ dpD (.tup [.str tBad, .int p]) ≤ 64 := ⟨(show (tBad.all (· < 128) && (true && true)) = true by decide), (by decide : 1 ≤ 64)⟩
theorem tagD_ok {k s : List Nat} {t : Option (List Nat)} (hk : k ∈ KINDS) (ht : t ∈ TGS) (hs : s ∈ SCH) (p : Int) : plD (tagD (resC k t s) p) = true ∧ dpD (tagD (resC k t s) p) ≤ 64 := by
  have h := res_ne k hk t ht s hs
  cases e : resC k t s with
  | none => exact bad_ok p
  | some a =>
    rw [e] at h
    have h : (!decide (a = tBad) && a.all (· < 128)) = true := h
    refine ⟨?_, (by decide : 1 ≤ 64)⟩
    show (a.all (· < 128) && (true && true)) = true
    rw [((Bool.and_eq_true _ _).mp h).2] <;> rfl
theorem tagD_ix {k s : List Nat} {t : Option (List Nat)} (p : Int) : ∃ xs, tagD (resC k t s) p = .tup xs ∧ atI xs 0 = some (.str ((resC k t s).getD tBad)) := by
  cases resC k t s with
  | none => exact ⟨_, rfl, rfl⟩
  | some a => exact ⟨_, rfl, rfl⟩
theorem bad_dec {k s : List Nat} {t : Option (List Nat)} (hk : k ∈ KINDS) (ht : t ∈ TGS) (hs : s ∈ SCH) : decide ((resC k t s).getD tBad = tBad) = decide (resC k t s = none) := by
  have h := res_ne k hk t ht s hs
  cases e : resC k t s with
  | none => rfl
  | some a =>
    rw [e] at h
    have h : (!decide (a = tBad) && a.all (· < 128)) = true := h
    have h1 := ((Bool.and_eq_true _ _).mp h).1
    show decide (a = tBad) = false
    cases z : decide (a = tBad) with
    | false => rfl
    | true => rw [z] at h1; cases h1
abbrev RQ : Str := (envOfC "_law_right" (defScope s__law_right) 0 0 .none).qual ++ "<lambda>"
end T
namespace T
open PySem PySem.Spec PyProof.Rows L2 DJ LJ LamX
/-! ### a sequence or mapping is resolved rightly -/
def gApp {α : Type} (us ws : List α) : List α := us ++ ws
section
variable {P : Program} {w : World} {K : PySem.W.Frag} {mg : Str → Option Value} {base : Heap}
theorem hp5 {a b c d e : Dt} {p : Int} : ∀ (B : Hp) (vs zs : List V), RpL K B [a, b, c, d, e] vs → RpL K B [.int p] zs → RpL K B [a, b, c, d, e, .int p] (gApp vs zs) := fun B vs zs h1 h2 => RpL.append h1 h2
def R_right (PT : Addr) (T2 : MO) : List Sl → List MO → Sl → List MO → Prop := fun ss M r M' => ∃ x : Wl, ss = [.o 2] ∧ M = [tabM PT RQ, T2, wl x] ∧ r = .d (.bl true) ∧ M' = [tabM PT RQ, T2, wl (rightW x)]
theorem cal_right {c PT C CN : Addr} {T2 : MO} (D : DfT K mg "_law_right" s__law_right ["_law_well_here"] c) (TB : TabB base mg c PT) (D__law_told : Df K mg "_law_told" s__law_told ["_law_ask"]) (T_BadTag : Xi P w K mg base "BadTag" "place" C) (T_NoSchema : Xi P w K mg base "NoSchema" "schema" CN) (TD : PySem.W.exmOne K (.ref CN) (.ref C) = some false)
    (k_resolved : CalKX P w K mg base 5 "resolved" 5 ["place"] gApp gApp (SpX K 6 R_res (X_res K C CN))) (k_tag_needed : CalKX P w K mg base 6 "tag_needed" 5 ["place"] gApp gApp (SpX K 6 R_need (X_need K C CN))) (f_tag_fits : CalX P w K mg base 4 "tag_fits" (SpX K 4 R_fits (X_fits K CN)) [])
    (f__law_due : Cal P w K mg base 1 "_law_due" (SpR K 4 R_due) []) (f__law_draw : Cal P w K mg base 1 "_law_draw" (SpR K 2 R_draw) []) (f__law_one : Cal P w K mg base 2 "_law_one" (SpR K 2 R_one) []) : Cal P w K mg base 11 "_law_right" (SpR K 1 (R_right PT T2)) [] := by
  refine cal_mkT (k := 10) D sc__law_right rfl fun f A outer s' H E hr ss M r M' h => ?_
  obtain ⟨x, rfl, rfl, rfl, rfl⟩ := h
  refine ⟨_, [.gone], (pss_cons (ps_asg (pe_lst (pa_cons pe_non (pa_cons pe_str (pa_cons pe_str (pa_cons pe_str (pa_cons pe_str (pa_cons pe_str (pa_cons pe_str (pa_cons pe_str (pa_cons pe_str (pa_cons pe_str (pa_cons pe_str (pa_cons pe_str pa_nil))))))))))))) (pg_name (i := 1) sc__law_right.nd rfl (by first | exact .inl rfl | exact .inr rfl))) (pss_cons (ps_expr (pe_bm PySem.F.plainAttrs_list PySem.F.slot_list_append PySem.F.type_list_append mt_append (pv 1) (pa_cons pe_str pa_nil))) (pss_cons (ps_asg (pe_tup (pa_cons (pe_c f__law_one hr (by omega) (by rfl) (pa_cons (pv 0) (pa_cons (pe_lst (pa_cons pe_str (pa_cons pe_str pa_nil))) pa_nil))) (pa_cons (pe_c f__law_one hr (by omega) (by rfl) (pa_cons (pv 0) (pa_cons (pv 1) pa_nil))) pa_nil))) (pg_tup rfl (pgs_cons (pg_name (i := 3) sc__law_right.nd rfl (by first | exact .inl rfl | exact .inr rfl)) (pgs_cons (pg_name (i := 4) sc__law_right.nd rfl (by first | exact .inl rfl | exact .inr rfl)) pgs_nil)))) (pss_cons (ps_asg (pe_tup (pa_cons (pe_c f__law_one hr (by omega) (by rfl) (pa_cons (pv 0) (pa_cons (pe_lst (pa_cons pe_str (pa_cons pe_str pa_nil))) pa_nil))) (pa_cons (pe_c f__law_draw hr (by omega) (by rfl) (pa_cons (pv 0) (pa_cons (pe_op op_pow pe_int pe_int) pa_nil))) pa_nil))) (pg_tup rfl (pgs_cons (pg_name (i := 5) sc__law_right.nd rfl (by first | exact .inl rfl | exact .inr rfl)) (pgs_cons (pg_name (i := 6) sc__law_right.nd rfl (by first | exact .inl rfl | exact .inr rfl)) pgs_nil)))) (pss_cons (ps_asg (pe_tup (pa_cons (pe_c f__law_one hr (by omega) (by rfl) (pa_cons (pv 0) (pa_cons (pe_lst (pa_cons pe_str (pa_cons pe_str (pa_cons pe_non (pa_cons pe_str pa_nil))))) pa_nil))) (pa_cons (pe_c f__law_one hr (by omega) (by rfl) (pa_cons (pv 0) (pa_cons (pe_lst (pa_cons pe_str (pa_cons pe_str (pa_cons pe_non (pa_cons pe_str pa_nil))))) pa_nil))) pa_nil))) (pg_tup rfl (pgs_cons (pg_name (i := 7) sc__law_right.nd rfl (by first | exact .inl rfl | exact .inr rfl)) (pgs_cons (pg_name (i := 8) sc__law_right.nd rfl (by first | exact .inl rfl | exact .inr rfl)) pgs_nil)))) (pss_cons (ps_asg (pe_c f__law_due hr (by omega) (by rfl) (pa_cons (pv 3) (pa_cons (pv 4) (pa_cons (pv 5) (pa_cons (pv 6) pa_nil))))) (pg_name (i := 2) sc__law_right.nd rfl (by first | exact .inl rfl | exact .inr rfl))) (pss_cons (ps_if (pt_cmpR (op_neD (room64 hr)) (pe_told D__law_told T_BadTag T_NoSchema TD (by rfl) TB rfl hr (by omega) (lamN_by (N := N__law_right) (o := defScope s__law_right) (by decide +kernel)) (.no rfl) (.no fun _ _ _ _ _ _ => rfl) (fun A outer s H E f c' hr2 => (pe_cNX k_resolved lam_takes hr2 (by omega) (by rfl) (pa_cons (pv 3) (pa_cons (pv 4) (pa_cons (pv 7) (pa_cons (pv 8) (pa_cons (pv 5) pa_nil))))) (pk_cons (pv 6) pk_nil)))) (pv 2) (nomark _)) (pss_one (ps_ret pe_bl)) pss_nil) (pss_cons (ps_if (PW.pt (pw_and (pt_cmpR op_notN (pv 4) pe_non (nomark _)) (pw_and1 (pt_cmpR op_ne (pv 4) pe_str (nomark _))))) (pss_cons (ps_asg (pe_cX f_tag_fits L2.takes0 hr (by omega) (by rfl) (pa_cons (pv 3) (pa_cons (pv 4) (pa_cons (pv 8) (pa_cons (pv 5) pa_nil))))) (pg_name (i := 9) sc__law_right.nd rfl (by first | exact .inl rfl | exact .inr rfl))) (pss_cons (ps_if (PW.pt (pw_or (PW.pt (pw_and (pt_cmpR op_notB (pv 9) pe_bl (nomark _)) (pw_and1 (pt_cmpR op_notB (pv 9) pe_bl (nomark _))))) (pw_or1 (pt_cmpR op_ne (pv 9) (pe_cmpR op_ne (pe_ix (show IxR _ (rIxT K) from ix_tup) (pv 2) pe_int (fun _ _ => rfl)) pe_str (nomark _)) (nomark _))))) (pss_one (ps_ret pe_bl)) pss_nil) (pss_cons (ps_asg (pe_ifExp (pt_cmpR op_eq (pe_ix (show IxR _ (rIxT K) from ix_tup) (pv 2) pe_int (fun _ _ => rfl)) pe_str (nomark _)) (pv 2) (pe_ifExp (pt_cmpR (show OpR _ (compareOp .In) (rIn K false) from op_in_seq) (pv 4) (pe_tup (pa_cons pe_str (pa_cons pe_str pa_nil))) (by rfl)) pe_non (pv 4))) (pg_name (i := 10) sc__law_right.nd rfl (by first | exact .inl rfl | exact .inr rfl))) (pss_one (ps_ret (pe_cmpR (op_eqD (room64 hr)) (pe_told D__law_told T_BadTag T_NoSchema TD (by rfl) TB rfl hr (by omega) (lamN_by (N := N__law_right) (o := defScope s__law_right) (by decide +kernel)) (.one rfl rfl) (.one rfl fun _ _ _ _ _ _ _ => ⟨_, rfl, fun _ => rfl⟩) (fun A outer s H E f c' hr2 => (pe_cNX k_tag_needed lam_takes hr2 (by omega) (by rfl) (pa_cons (pv 3) (pa_cons (pv 4) (pa_cons (pv 8) (pa_cons (pv 7) (pa_cons (pv 5) pa_nil))))) (pk_cons (pv 6) pk_nil)))) (pv 10) (nomark _))))))) pss_nil) (pss_one (ps_ret pe_bl)))))))))), ?_, Nat.le_refl _, fun _ h => nomatch h⟩
  unfold rightW
  refine es_seq (es_asg (ev_lstO (xs := TG12.map oS) (ea_cons ev_non (ea_cons (ev_str _) (ea_cons (ev_str _) (ea_cons (ev_str _) (ea_cons (ev_str _) (ea_cons (ev_str _) (ea_cons (ev_str _) (ea_cons (ev_str _) (ea_cons (ev_str _) (ea_cons (ev_str _) (ea_cons (ev_str _) (ea_cons (ev_str _) ea_nil)))))))))))) (show 12 ≤ 1000 by decide))) ?_
  refine es_nG (G' := [_, _, _, _, _, _, _, _, _, _, _]) rfl ?_
  refine es_seq (es_appO (k := 3) (xs := TG12.map oS) (x := oS (some [33, 33, 77, 97, 112])) (ev_var rfl) (ev_str _) ⟨_, rfl⟩ rfl (show 12 < 1000000 by decide)) ?_
  have hk := oneA_mem [] x (ys := KINDS) (List.cons_ne_nil _ _)
  refine es_seq (es_asgG (s := .d (.tup [.str (oneA [] x KINDS).1, oS (oneA none (oneA [] x KINDS).2 TGS).1])) (M1 := [tabM PT RQ, T2, wl (oneA none (oneA [] x KINDS).2 TGS).2, .gone]) (ev_tup (xs := [.str (oneA [] x KINDS).1, oS (oneA none (oneA [] x KINDS).2 TGS).1])
    (ea_cons (ev_wG (k := 2) (ds := [.lst (KINDS.map .str)]) (M1 := [tabM PT RQ, T2, wl x, .lst (TGS.map oS)]) (ea_cons (ev_var rfl) (ea_cons (ev_lst (xs := KINDS.map Dt.str) (ea_cons (ev_str _) (ea_cons (ev_str _) ea_nil)) (show 2 ≤ 1000 by decide)) ea_nil)) rfl (wg _) (R_oneA Dt.str [] x KINDS (List.cons_ne_nil _ _) (show 2 ≤ 100000 by decide)) (wg _) rfl)
    (ea_cons (ev_wG (k := 2) (ds := [.lst (TGS.map oS)]) (M1 := [tabM PT RQ, T2, wl (oneA [] x KINDS).2, .gone]) (ea_cons (ev_var rfl) (ea_cons (ev_wk (ev_freezeX (k := 3) (ev_var rfl) rfl) lstX_lst) ea_nil)) rfl (wg _) (R_oneA oS none (oneA [] x KINDS).2 TGS (List.cons_ne_nil _ _) (show 13 ≤ 100000 by decide)) (wg _) rfl) ea_nil)) (show 2 ≤ 1000 by decide)) (eg_tup (egs_cons eg_name (egs_cons eg_name egs_nil)) rfl)) ?_
  refine es_nG (G' := [_, _, _, _, _, _, _, _, _, _, _]) rfl ?_
  generalize oneA [] x KINDS = kk at *
  obtain ⟨k, y⟩ := kk
  have ht := oneA_mem none y (ys := TGS) (List.cons_ne_nil _ _)
  generalize oneA none y TGS = tt at *
  obtain ⟨t, y⟩ := tt
  have hs := oneA_mem [] y (ys := SCH) (List.cons_ne_nil _ _)
  refine es_seq (es_asgG (s := .d (.tup [.str (oneA [] y SCH).1, .int (drawW (oneA [] y SCH).2 1000000000).1])) (M1 := [tabM PT RQ, T2, wl (drawW (oneA [] y SCH).2 1000000000).2, .gone]) (ev_tup (xs := [.str (oneA [] y SCH).1, .int (drawW (oneA [] y SCH).2 1000000000).1])
    (ea_cons (ev_wG (k := 2) (ds := [.lst (SCH.map .str)]) (M1 := [tabM PT RQ, T2, wl y, .gone]) (ea_cons (ev_var rfl) (ea_cons (ev_lst (xs := SCH.map Dt.str) (ea_cons (ev_str _) (ea_cons (ev_str _) ea_nil)) (show 2 ≤ 1000 by decide)) ea_nil)) rfl (wg _) (R_oneA Dt.str [] y SCH (List.cons_ne_nil _ _) (show 2 ≤ 100000 by decide)) (wg _) rfl)
    (ea_cons (ev_wG (k := 2) (ds := [.int 1000000000]) (M1 := [tabM PT RQ, T2, wl (oneA [] y SCH).2, .gone]) (ea_cons (ev_var rfl) (ea_cons (ev_isD (ev_op ev_int ev_int (ro_pow ⟨by decide, by decide, by decide⟩)) (show _ = Dt.int 1000000000 from rfl)) ea_nil)) rfl (wg _) (R_drawI _ 1000000000 (by decide) (by decide)) (wg _) rfl) ea_nil)) (show 2 ≤ 1000 by decide)) (eg_tup (egs_cons eg_name (egs_cons eg_name egs_nil)) rfl)) ?_
  refine es_nG (G' := [_, _, _, _, _, _, _, _, _, _, _]) rfl ?_
  generalize oneA [] y SCH = ww at *
  obtain ⟨s, y⟩ := ww
  generalize drawW y 1000000000 = dd at *
  obtain ⟨p, y⟩ := dd
  refine es_seq (es_asgG (s := .d (.tup [oS (oneA none y SHP).1, oS (oneA none (oneA none y SHP).2 MOR).1])) (M1 := [tabM PT RQ, T2, wl (oneA none (oneA none y SHP).2 MOR).2, .gone]) (ev_tup (xs := [oS (oneA none y SHP).1, oS (oneA none (oneA none y SHP).2 MOR).1])
    (ea_cons (ev_wG (k := 2) (ds := [.lst (SHP.map oS)]) (M1 := [tabM PT RQ, T2, wl y, .gone]) (ea_cons (ev_var rfl) (ea_cons (ev_lst (xs := SHP.map oS) (ea_cons (ev_str _) (ea_cons (ev_str _) (ea_cons ev_non (ea_cons (ev_str _) ea_nil)))) (show 4 ≤ 1000 by decide)) ea_nil)) rfl (wg _) (R_oneA oS none y SHP (List.cons_ne_nil _ _) (show 4 ≤ 100000 by decide)) (wg _) rfl)
    (ea_cons (ev_wG (k := 2) (ds := [.lst (MOR.map oS)]) (M1 := [tabM PT RQ, T2, wl (oneA none y SHP).2, .gone]) (ea_cons (ev_var rfl) (ea_cons (ev_lst (xs := MOR.map oS) (ea_cons (ev_str _) (ea_cons (ev_str _) (ea_cons ev_non (ea_cons (ev_str _) ea_nil)))) (show 4 ≤ 1000 by decide)) ea_nil)) rfl (wg _) (R_oneA oS none (oneA none y SHP).2 MOR (List.cons_ne_nil _ _) (show 4 ≤ 100000 by decide)) (wg _) rfl) ea_nil)) (show 2 ≤ 1000 by decide)) (eg_tup (egs_cons eg_name (egs_cons eg_name egs_nil)) rfl)) ?_
  refine es_nG (G' := [_, _, _, _, _, _, _, _, _, _, _]) rfl ?_
  generalize oneA none y SHP = sh at *
  obtain ⟨sh, y⟩ := sh
  generalize oneA none y MOR = mm at *
  obtain ⟨mo, y⟩ := mm
  have hk : k ∈ KINDS := hk
  have ht : t ∈ TGS := ht
  have hs : s ∈ SCH := hs
  have kc : isC k := by simpa [isC] using hk
  have htd := tagD_ok hk ht hs p
  refine es_seq (es_asg (ev_isD (ev_call0 (ds := [.str k, oS t, .str s, .int p]) (es := []) (z := dueD k t s p) (ea_cons (ev_var rfl) (ea_cons (ev_var rfl) (ea_cons (ev_var rfl) (ea_cons (ev_var rfl) ea_nil)))) ⟨k, t, s, p, rfl, rfl, rfl, rfl⟩ rfl (fun _ => rfl)) (show _ = tagD (resC k t s) p by unfold dueD; rw [due_res k hk t ht s hs]))) ?_
  refine es_nG (G' := [_, _, _, _, _, _, _, _, _, _, _]) rfl ?_
  refine es_pass (et_is (et_test (ev_op (LJ.ev_told2 (kT := 0) (z := tagD (resC k t s) p) rfl rfl ?_) (ev_var rfl) (ro_neSelf htd.1 htd.2))) rfl) ?_
  · cases hf : resC k t s with
    | some a => exact .inl ⟨_, rfl, fun E => ev_callNX (ds := [.str k, oS t, oS sh, oS mo, .str s]) (es := [.int p]) (cs := [.str k, oS t, oS sh, oS mo, .str s, .int p]) (z := .tup [.str a, .str []]) (ea_cons (ev_var rfl) (ea_cons (ev_var rfl) (ea_cons (ev_var rfl) (ea_cons (ev_var rfl) (ea_cons (ev_var rfl) ea_nil))))) (ea_cons (ev_var rfl) ea_nil) rfl rfl hp5 rfl ⟨k, t, oS sh, oS mo, s, p, a, kc, hs, hf, rfl, rfl, rfl, rfl⟩⟩
    | none => exact .inr ⟨C, "place", .int p, .inl ⟨rfl, rfl, p, rfl, rfl⟩, fun E => ex_callNX (ds := [.str k, oS t, oS sh, oS mo, .str s]) (es := [.int p]) (cs := [.str k, oS t, oS sh, oS mo, .str s, .int p]) (ea_cons (ev_var rfl) (ea_cons (ev_var rfl) (ea_cons (ev_var rfl) (ea_cons (ev_var rfl) (ea_cons (ev_var rfl) ea_nil))))) (ea_cons (ev_var rfl) ea_nil) rfl rfl hp5 rfl (.inl ⟨k, t, oS sh, oS mo, s, p, kc, hs, hf, rfl, rfl, rfl, rfl⟩)⟩
  have htx := tagD_ix (k := k) (s := s) (t := t) p
  obtain ⟨xs, ex, ei⟩ := htx
  refine es_guard (b := !decide (t = none) && !decide (t = some [33])) (et_and (b := !decide (t = none)) (c := !decide (t = some [33])) (et_test (ev_op (ev_var rfl) ev_non ro_notN)) (fun _ => et_test (ev_op (ev_var rfl) (ev_isD (ev_str [33]) (show _ = oS (some [33]) from rfl)) ro_neO)) (fun _ => rfl)) (fun h => ?_) (fun h => es_retD ev_bl rfl)
  cases t with
  | none => cases h
  | some l =>
  have hl : l ≠ [33] := fun z => by rw [z] at h; cases h
  obtain ⟨f1, f2, f3, f4⟩ := fits_res k hk (some l) ht s hs l rfl hl
  have ha : Asc l := fun c hc => of_decide_eq_true (List.all_eq_true.mp f3 c hc)
  have hbd := bad_dec hk ht hs
  refine es_seq (es_asg (ev_callX (ds := [.str k, .str l, oS mo, .str s]) (es := []) (z := .bl (fitsC k l s)) (ea_cons (ev_var rfl) (ea_cons (ev_isD (ev_var rfl) (show oS (some l) = Dt.str l from rfl)) (ea_cons (ev_var rfl) (ea_cons (ev_var rfl) ea_nil)))) ⟨k, l, oS mo, s, kc, f2, hs, rfl, rfl, rfl, rfl⟩ rfl (fun _ => rfl))) ?_
  refine es_nG (G' := [_, _, _, _, _, _, _, _, _, _, _]) rfl ?_
  refine es_pass (et_is (et_or (b := !decide (fitsC k l s = true) && !decide (fitsC k l s = false)) (c := !decide (fitsC k l s = !decide ((resC k (some l) s).getD tBad = tBad))) (et_and (b := !decide (fitsC k l s = true)) (c := !decide (fitsC k l s = false)) (et_test (ev_op (ev_var rfl) ev_bl ro_notB)) (fun _ => et_test (ev_op (ev_var rfl) ev_bl ro_notB)) (fun _ => rfl)) (fun _ => et_test (ev_op (ev_var rfl) (ev_op (ev_op (ev_isD (ev_var rfl) ex) ev_int (ro_ixT ei)) (ev_str tBad) ro_neS) ro_neBl)) (fun _ => rfl)) (by rw [hbd, f1]; cases decide (resC k (some l) s = none) <;> rfl)) ?_
  refine es_seq (es_asg (s := .d (needD k (some l) s l p)) (M1 := [tabM PT RQ, T2, wl y, .gone]) (ev_if (b := decide (resC k (some l) s = none)) (et_is (et_test (ev_op (ev_op (ev_isD (ev_var rfl) ex) ev_int (ro_ixT ei)) (ev_str tBad) ro_eqS)) hbd) (fun z => ev_isD (ev_var rfl) ?_) (fun z => ev_if (b := decide (l ∈ CT)) (et_test (ev_op (ev_isD (ev_var rfl) (show oS (some l) = Dt.str l from rfl)) (ev_tup (xs := CT.map Dt.str) (ea_cons (ev_str _) (ea_cons (ev_str _) ea_nil)) (show 2 ≤ 1000 by decide)) ro_inT)) (fun q => ev_isD ev_non ?_) (fun q => ev_isD (ev_var rfl) ?_)))) ?_
  · unfold needD
    rw [if_pos z, of_decide_eq_true z] <;> rfl
  · unfold needD
    rw [if_neg (by rw [z]; exact Bool.false_ne_true), if_pos q]
  · unfold needD
    rw [if_neg (by rw [z]; exact Bool.false_ne_true), if_neg (by rw [q]; exact Bool.false_ne_true)] <;> rfl
  refine es_nG (G' := [_, _, _, _, _, _, _, _, _, _, _]) rfl ?_
  cases hf : fitsC k l s with
  | true =>
    have hn : resC k (some l) s ≠ none := fun z => by rw [f1, z] at hf; cases hf
    have en : needD k (some l) s l p = oS (needC k l) := by
      rw [← f4 hf]
      unfold needD
      rw [decide_eq_false hn, if_neg Bool.false_ne_true]
      by_cases q : l ∈ CT
      · rw [if_pos q, if_pos (decide_eq_true q)] <;> rfl
      · rw [if_neg q, if_neg (by rw [decide_eq_false q]; exact Bool.false_ne_true)] <;> rfl
    rw [en]
    have hok : plD (oS (needC k l)) = true ∧ dpD (oS (needC k l)) ≤ 64 := by
      unfold needC
      split
      · exact ⟨rfl, by decide⟩
      · exact ⟨List.all_eq_true.mpr fun c hc => decide_eq_true (ha c hc), (by decide : 0 ≤ 64)⟩
    exact es_retD (ev_op (LJ.ev_told2 (kT := 0) (z := oS (needC k l)) rfl rfl (.inl ⟨_, rfl, fun E => ev_callNX (ds := [.str k, .str l, oS mo, oS sh, .str s]) (es := [.int p]) (cs := [.str k, .str l, oS mo, oS sh, .str s, .int p]) (ea_cons (ev_var rfl) (ea_cons (ev_isD (ev_var rfl) (show oS (some l) = Dt.str l from rfl)) (ea_cons (ev_var rfl) (ea_cons (ev_var rfl) (ea_cons (ev_var rfl) ea_nil))))) (ea_cons (ev_var rfl) ea_nil) rfl rfl hp5 rfl ⟨k, l, oS mo, oS sh, s, p, kc, f2, ha, hs, hf, rfl, rfl, rfl, rfl⟩⟩)) (ev_var rfl) (ro_eqSelf hok.1 hok.2)) rfl
  | false =>
    have hn : resC k (some l) s = none := by
      cases z : resC k (some l) s with
      | none => rfl
      | some a => rw [f1, z] at hf; cases hf
    have en : needD k (some l) s l p = .tup [.str tBad, .int p] := by
      unfold needD
      rw [decide_eq_true hn, if_pos rfl]
    rw [en]
    have hok := bad_ok p
    exact es_retD (ev_op (LJ.ev_told2 (kT := 0) (z := .tup [.str tBad, .int p]) rfl rfl (.inr ⟨C, "place", .int p, .inl ⟨rfl, rfl, p, rfl, rfl⟩, fun E => ex_callNX (ds := [.str k, .str l, oS mo, oS sh, .str s]) (es := [.int p]) (cs := [.str k, .str l, oS mo, oS sh, .str s, .int p]) (ea_cons (ev_var rfl) (ea_cons (ev_isD (ev_var rfl) (show oS (some l) = Dt.str l from rfl)) (ea_cons (ev_var rfl) (ea_cons (ev_var rfl) (ea_cons (ev_var rfl) ea_nil))))) (ea_cons (ev_var rfl) ea_nil) rfl rfl hp5 rfl (.inl ⟨k, l, oS mo, oS sh, s, p, kc, f2, hs, hf, rfl, rfl, rfl, rfl⟩)⟩)) (ev_var rfl) (ro_eqSelf hok.1 hok.2)) rfl
end
end T
namespace T
open PySem PySem.Spec PyProof.Rows L2 DJ LJ LamX
/-! ### what is no schema is refused first -/
abbrev s__law_refused_right : Stmt := topS 36
abbrev N__law_refused_right : List Str := ["_law_well_here", "_law_some", "_law_odd", "_law_asks", "_law_at", "_law_lead", "_law_ask"]
theorem sc__law_refused_right : FnScope N__law_refused_right ["_law_well_here"] (defScope s__law_refused_right) := ⟨rfl, rfl, rfl, by decide +kernel, rfl, by decide +kernel, by decide +kernel⟩
theorem app_rel {vs : List V} {us : List Value} {zs : List V} {ws : List Value} (h1 : Vals vs us) (h2 : Vals zs ws) : Vals (gApp vs zs) (gApp us ws) := h1.append h2
theorem room16' {k : Nat} {A : Around} (h : Room k A) : A.units + 16 < cLine := by have := h.un; omega
section
variable {P : Program} {w : World} {K : PySem.W.Frag} {mg : Str → Option Value} {base : Heap}
theorem res_pos {C CN : Addr} (c : CalFX P w K mg base 5 "resolved" s_resolved ["kind", "tag", "style", "value", "schema", "place"] [("place", .int 0)] (SpX K 6 R_res (X_res K C CN))) : CalX P w K mg base 5 "resolved" (SpX K 6 R_res (X_res K C CN)) [.int 0] :=
  c.pos (n := 5) (List.cons_ne_nil _ _) rfl fun D doc pm an cdv ct us ks h1 h2 => by
    match us, h1 with
    | [a, b, c, d, e], _ =>
      match ks, h2 with
      | [z], _ => exact ⟨_, _, _, _, _, _, rfl, rfl, rfl⟩
theorem res_kw {C CN : Addr} (c : CalFX P w K mg base 5 "resolved" s_resolved ["kind", "tag", "style", "value", "schema", "place"] [("place", .int 0)] (SpX K 6 R_res (X_res K C CN))) : CalKX P w K mg base 5 "resolved" 5 ["place"] gApp gApp (SpX K 6 R_res (X_res K C CN)) :=
  c.kw (n := 5) app_rel fun kV doc pm an cdv ct us ws h1 h2 => by
    match us, h1 with
    | [a, b, c, d, e], _ =>
      match ws, h2 with
      | [z], _ => rfl
theorem need_kw {C CN : Addr} (c : CalFX P w K mg base 6 "tag_needed" s_tag_needed ["kind", "tag", "content", "style", "schema", "place"] [("place", .int 0)] (SpX K 6 R_need (X_need K C CN))) : CalKX P w K mg base 6 "tag_needed" 5 ["place"] gApp gApp (SpX K 6 R_need (X_need K C CN)) :=
  c.kw (n := 5) app_rel fun kV doc pm an cdv ct us ws h1 h2 => by
    match us, h1 with
    | [a, b, c, d, e], _ =>
      match ws, h2 with
      | [z], _ => rfl
end
/-! #### the lambdas, as they stand in the def -/
def lFor : List Stmt → List Stmt
  | .For _ _ b _ _ :: _ => b
  | _ :: r => lFor r
  | [] => []
def lLam : List Stmt → List Expr
  | .Assign _ (.List es _) _ :: r => es ++ lLam r
  | .Expr (.Call _ es _ _) _ :: r => es ++ lLam r
  | _ :: r => lLam r
  | [] => []
abbrev lamE (i : Nat) : Expr := (lLam (lFor (defBody s__law_refused_right))).getD i (.List [] ⟨0, 0, 0, 0⟩)
theorem lamN_0 : LamN N__law_refused_right (defScope s__law_refused_right) (LJ.lSc (defScope s__law_refused_right) (lamE 0)) := lamN_by (by decide +kernel)
theorem lamN_1 : LamN N__law_refused_right (defScope s__law_refused_right) (LJ.lSc (defScope s__law_refused_right) (lamE 1)) := lamN_by (by decide +kernel)
theorem lamN_2 : LamN N__law_refused_right (defScope s__law_refused_right) (LJ.lSc (defScope s__law_refused_right) (lamE 2)) := lamN_by (by decide +kernel)
theorem lamN_3 : LamN N__law_refused_right (defScope s__law_refused_right) (LJ.lSc (defScope s__law_refused_right) (lamE 3)) := lamN_by (by decide +kernel)
abbrev FQ : Str := (envOfC "_law_refused_right" (defScope s__law_refused_right) 0 0 .none).qual ++ "<lambda>"
abbrev LDS : List (Option (List Nat)) := [some [33, 33, 109, 97, 112], some [33, 33, 105, 110, 116], some [120], none, some [33, 33, 115, 101, 113]]
abbrev tCoreL : List Nat := [99, 111, 114, 101]
abbrev ODD : List Dt := [.non, .str [], .str [67, 111, 114, 101], .str [106, 115, 111, 110], .str [67, 79, 82, 69], .int 0, .bl true, .lst [.str tCoreL], .tup [.str tCoreL], dic0, .str [99, 111, 114, 101, 32], .str [102, 97, 105, 108, 115, 97, 102, 101]]
def refTurn (x : Wl) : Wl := (oneA none (drawW x 99).2 LDS).2
def refW (x : Wl) : Nat → Wl
  | 0 => x
  | n + 1 => refTurn (refW x n)
section
variable {P : Program} {w : World} {K : PySem.W.Frag} {mg : Str → Option Value} {base : Heap}
/-- how a thing that is no schema is taken: flat, or a thing with an address -/
theorem odd_ways : ∀ d ∈ ODD, (OddS K d ∧ SameD K 0 d d) ∨ ((∀ B v, Rp K B d v → ∃ a, v = .ref a) ∧ ∀ a, OddS K (LJ.both (.ref a) K d)) := by
  intro d hd
  simp only [List.mem_cons, List.not_mem_nil, or_false] at hd
  rcases hd with rfl | rfl | rfl | rfl | rfl | rfl | rfl | rfl | rfl | rfl | rfl | rfl
  · exact .inl ⟨.inl (rc_isStr .non), .non⟩
  · exact .inl ⟨.inr ⟨_, rfl, by decide⟩, .str _⟩
  · exact .inl ⟨.inr ⟨_, rfl, by decide⟩, .str _⟩
  · exact .inl ⟨.inr ⟨_, rfl, by decide⟩, .str _⟩
  · exact .inl ⟨.inr ⟨_, rfl, by decide⟩, .str _⟩
  · exact .inl ⟨.inl (rc_isStr (.int 0)), .int 0⟩
  · exact .inl ⟨.inl (rc_isStr (.bl true)), .bl true⟩
  · exact .inr ⟨fun B v h => let ⟨a, _, e, _⟩ := h; ⟨a, e⟩, fun a => .inl (LJ.rc_both (rc_isStr (.lst _)))⟩
  · exact .inr ⟨fun B v h => let ⟨a, _, e, _⟩ := h; ⟨a, e⟩, fun a => .inl (LJ.rc_both (rc_isStr (.tup _)))⟩
  · exact .inr ⟨fun B v h => let ⟨a, e, _⟩ := h B (Same.refl B); ⟨a, e⟩, fun a => .inl (LJ.rc_both (rc_isStr .dic))⟩
  · exact .inl ⟨.inr ⟨_, rfl, by decide⟩, .str _⟩
  · exact .inl ⟨.inr ⟨_, rfl, by decide⟩, .str _⟩
theorem odd_split {G : List (Option Sl)} {M : List MO} {t : TS} {o : Out} {d : Dt} (hd : d ∈ ODD) (hG : G[2]? = some (some (.d d))) (main : ∀ D : Dt, OddS K D → SameD K 0 D D → EvS K t (G.set 2 (some (.d D))) M o) : EvS K t G M o := by
  rcases odd_ways d hd with ⟨h1, h2⟩ | ⟨h1, h2⟩
  · have e : G.set 2 (some (.d d)) = G := by
      refine List.ext_getElem? fun j => ?_
      by_cases z : 2 = j
      · subst z
        rw [List.getElem?_set_self (List.getElem?_eq_some_iff.mp hG).1, hG]
      · rw [List.getElem?_set_ne z]
    rw [← e]
    exact main d h1 h2
  · exact LJ.es_raw 2 hG h1 fun a => main _ (h2 a) (.ref a d d)
def R_refd (PT : Addr) (T1 : MO) : List Sl → List MO → Sl → List MO → Prop := fun ss M r M' => ∃ x : Wl, ss = [.o 2] ∧ M = [T1, tabM PT FQ, wl x] ∧ r = .d (.bl true) ∧ M' = [T1, tabM PT FQ, wl (refW x 12)]
theorem cal_refused {c PT C CN : Addr} {T1 : MO} (D : DfT K mg "_law_refused_right" s__law_refused_right ["_law_well_here"] c) (TB : TabB base mg c PT) (D__law_told : Df K mg "_law_told" s__law_told ["_law_ask"]) (T_BadTag : Xi P w K mg base "BadTag" "place" C) (T_NoSchema : Xi P w K mg base "NoSchema" "schema" CN) (TD : PySem.W.exmOne K (.ref CN) (.ref C) = some false)
    (k_resolved : CalKX P w K mg base 5 "resolved" 5 ["place"] gApp gApp (SpX K 6 R_res (X_res K C CN))) (f_resolved : CalX P w K mg base 5 "resolved" (SpX K 6 R_res (X_res K C CN)) [.int 0]) (k_tag_needed : CalKX P w K mg base 6 "tag_needed" 5 ["place"] gApp gApp (SpX K 6 R_need (X_need K C CN))) (f_tag_fits : CalX P w K mg base 4 "tag_fits" (SpX K 4 R_fits (X_fits K CN)) [])
    (f__law_draw : Cal P w K mg base 1 "_law_draw" (SpR K 2 R_draw) []) (f__law_one : Cal P w K mg base 2 "_law_one" (SpR K 2 R_one) []) : Cal P w K mg base 11 "_law_refused_right" (SpR K 1 (R_refd PT T1)) [] := by
  refine cal_mkT (k := 10) D sc__law_refused_right rfl fun f A outer s' H E hr ss M r M' h => ?_
  obtain ⟨x, rfl, rfl, rfl, rfl⟩ := h
  refine ⟨_, [], (pss_cons (ps_asg (pe_lst (pa_cons pe_non (pa_cons pe_str (pa_cons pe_str (pa_cons pe_str (pa_cons pe_str (pa_cons pe_int (pa_cons pe_bl (pa_cons (pe_lst (pa_cons pe_str pa_nil)) (pa_cons (pe_tup (pa_cons pe_str pa_nil)) (pa_cons pe_dnewK (pa_cons pe_str (pa_cons pe_str pa_nil))))))))))))) (pg_name (i := 1) sc__law_refused_right.nd rfl (by first | exact .inl rfl | exact .inr rfl))) (pss_cons (ps_for PassesOwn.never rfl (pi_list (pv 1)) (pg_name (i := 2) sc__law_refused_right.nd rfl (by first | exact .inl rfl | exact .inr rfl)) (pss_cons (ps_asg (pe_tup (pa_cons (pe_c f__law_draw hr (by omega) (by rfl) (pa_cons (pv 0) (pa_cons pe_int pa_nil))) (pa_cons (pe_c f__law_one hr (by omega) (by rfl) (pa_cons (pv 0) (pa_cons (pe_lst (pa_cons pe_str (pa_cons pe_str (pa_cons pe_str (pa_cons pe_non (pa_cons pe_str pa_nil)))))) pa_nil))) pa_nil))) (pg_tup rfl (pgs_cons (pg_name (i := 4) sc__law_refused_right.nd rfl (by first | exact .inl rfl | exact .inr rfl)) (pgs_cons (pg_name (i := 5) sc__law_refused_right.nd rfl (by first | exact .inl rfl | exact .inr rfl)) pgs_nil)))) (pss_cons (ps_asg (pe_lst (pa_cons (LJ.pe_lamV TB rfl (lamN_by (N := N__law_refused_right) (o := defScope s__law_refused_right) (by decide +kernel)) (.no rfl)) pa_nil)) (pg_name (i := 3) sc__law_refused_right.nd rfl (by first | exact .inl rfl | exact .inr rfl))) (pss_cons (ps_expr (pe_bm PySem.F.plainAttrs_list PySem.F.slot_list_append PySem.F.type_list_append mt_append (pv 3) (pa_cons (LJ.pe_lamV TB rfl (lamN_by (N := N__law_refused_right) (o := defScope s__law_refused_right) (by decide +kernel)) (.one rfl rfl)) pa_nil))) (pss_cons (ps_expr (pe_bm PySem.F.plainAttrs_list PySem.F.slot_list_append PySem.F.type_list_append mt_append (pv 3) (pa_cons (LJ.pe_lamV TB rfl (lamN_by (N := N__law_refused_right) (o := defScope s__law_refused_right) (by decide +kernel)) (.one rfl rfl)) pa_nil))) (pss_cons (ps_expr (pe_bm PySem.F.plainAttrs_list PySem.F.slot_list_append PySem.F.type_list_append mt_append (pv 3) (pa_cons (LJ.pe_lamV TB rfl (lamN_by (N := N__law_refused_right) (o := defScope s__law_refused_right) (by decide +kernel)) (.one rfl rfl)) pa_nil))) (pss_one (ps_if (pt_cmpR (LJ.op_neSame (room16' hr)) (LJ.pe_lcK (own := [("_law_ask", 6)]) (g := (gName 6)) (by rfl) sc__law_refused_right.nd (pi_list (pv 3)) (blkOk_by (own := [("_law_ask", 6)]) (N := N__law_refused_right) (sc := defScope s__law_refused_right) (by decide +kernel)) (fun _ _ _ _ _ => pg_name (i := 6) sc__law_refused_right.nd rfl (by first | exact .inl rfl | exact .inr rfl)) (fun s0 H0 C0 cl fp pins σ0 I0 hfp => LJ.pe_askL (k := 7) (ls := [⟨LJ.lPr (lamE 0), LJ.lBd (lamE 0), LJ.lSc (defScope s__law_refused_right) (lamE 0), none, _⟩, ⟨LJ.lPr (lamE 1), LJ.lBd (lamE 1), LJ.lSc (defScope s__law_refused_right) (lamE 1), some 0, _⟩, ⟨LJ.lPr (lamE 2), LJ.lBd (lamE 2), LJ.lSc (defScope s__law_refused_right) (lamE 2), some 0, _⟩, ⟨LJ.lPr (lamE 3), LJ.lBd (lamE 3), LJ.lSc (defScope s__law_refused_right) (lamE 3), some 0, _⟩]) I0 hfp D__law_told (by rfl) sc__law_told rfl (.inl rfl) rfl (fun g cdg => told_ok T_BadTag T_NoSchema TD _ g cdg) (hr.mono (by omega)) (pa_cons (pv 6) pa_nil) (LJ.lams_cons ⟨lamN_0, (.no fun _ _ _ _ _ _ => rfl), fun A outer s H E f c' hr2 => (pe_cNX k_resolved lam_takes hr2 (by omega) (by rfl) (pa_cons pe_str (pa_cons (pv 5) (pa_cons pe_str (pa_cons pe_str (pa_cons (pv 2) pa_nil))))) (pk_cons (pv 4) pk_nil))⟩ (LJ.lams_cons ⟨lamN_1, (.one rfl fun _ _ _ _ _ _ _ => ⟨_, rfl, fun _ => rfl⟩), fun A outer s H E f c' hr2 => (pe_cX f_resolved lam_takes hr2 (by omega) (by rfl) (pa_cons pe_str (pa_cons (pv 5) (pa_cons pe_str (pa_cons pe_str (pa_cons (pv 2) pa_nil))))))⟩ (LJ.lams_cons ⟨lamN_2, (.one rfl fun _ _ _ _ _ _ _ => ⟨_, rfl, fun _ => rfl⟩), fun A outer s H E f c' hr2 => (pe_cX f_tag_fits lam_takes hr2 (by omega) (by rfl) (pa_cons pe_str (pa_cons (pv 5) (pa_cons pe_int (pa_cons (pv 2) pa_nil)))))⟩ (LJ.lams_cons ⟨lamN_3, (.one rfl fun _ _ _ _ _ _ _ => ⟨_, rfl, fun _ => rfl⟩), fun A outer s H E f c' hr2 => (pe_cNX k_tag_needed lam_takes hr2 (by omega) (by rfl) (pa_cons pe_str (pa_cons (pv 5) (pa_cons pe_non (pa_cons pe_str (pa_cons (pv 2) pa_nil))))) (pk_cons (pv 4) pk_nil))⟩ LJ.lams_nil)))))) (pe_op op_rep (pe_lst (pa_cons (pe_tup (pa_cons pe_str (pa_cons (pv 2) pa_nil))) pa_nil)) pe_int) (nomark _)) (pss_one (ps_ret pe_bl)) pss_nil)))))))) (pss_one (ps_ret pe_bl)))), ?_, Nat.le_refl _, fun _ h => nomatch h⟩
  refine es_seq (es_asg (ev_lst (xs := ODD) (ea_cons ev_non (ea_cons (ev_str _) (ea_cons (ev_str _) (ea_cons (ev_str _) (ea_cons (ev_str _) (ea_cons ev_int (ea_cons ev_bl (ea_cons (ev_lst (xs := [.str tCoreL]) (ea_cons (ev_str _) ea_nil) (show 1 ≤ 1000 by decide)) (ea_cons (ev_tup (xs := [.str tCoreL]) (ea_cons (ev_str _) ea_nil) (show 1 ≤ 1000 by decide)) (ea_cons ev_dic0 (ea_cons (ev_str _) (ea_cons (ev_str _) ea_nil)))))))))))) (show 12 ≤ 1000 by decide))) ?_
  refine es_nG (G' := [_, _, _, _, _, _, _]) rfl ?_
  refine es_seq (es_forN ODD id (fun i => [some (.o 2), some (.d (.lst ODD)), none, none, none, none, none]) (fun i => [T1, tabM PT FQ, wl (refW x i)]) (ei_list (xs := ODD.map id) (ev_isD (ev_var rfl) (show Dt.lst ODD = _ by rw [List.map_id]))) (Lg.refl _) fun i d hd => ⟨_, eg_name, .inl ?_⟩) (es_ret ev_bl)
  have hd : d ∈ ODD := List.mem_of_getElem? hd
  show EvS K _ [some (.o 2), some (.d (.lst ODD)), some (.d d), none, none, none, none] _ (.nx _ [T1, tabM PT FQ, wl (refTurn (refW x i))])
  generalize refW x i = y
  unfold refTurn
  refine odd_split hd rfl fun D od sd => ?_
  show EvS K _ [some (.o 2), some (.d (.lst ODD)), some (.d D), none, none, none, none] [T1, tabM PT FQ, wl y] (.nx [some (.o 2), some (.d (.lst ODD)), none, none, none, none, none] [T1, tabM PT FQ, wl (oneA none (drawW y 99).2 LDS).2])
  refine LJ.es_nxT' (X := [.gone]) ?_ rfl (fun s hs k e => by
    rcases List.mem_cons.mp hs with z | hs
    · rw [z] at e; cases e; exact (by decide : 2 < 3)
    · subst e; simp at hs)
  refine es_seq (es_asgG (s := .d (.tup [.int (drawW y 99).1, oS (oneA none (drawW y 99).2 LDS).1])) (M1 := [T1, tabM PT FQ, wl (oneA none (drawW y 99).2 LDS).2]) (ev_tup (xs := [.int (drawW y 99).1, oS (oneA none (drawW y 99).2 LDS).1])
    (ea_cons (ev_wG (k := 2) (ds := [.int 99]) (M1 := [T1, tabM PT FQ, wl y]) (ea_cons (ev_var rfl) (ea_cons ev_int ea_nil)) rfl (wg _) (R_drawI _ 99 (by decide) (by decide)) (wg _) rfl)
    (ea_cons (ev_wG (k := 2) (ds := [.lst (LDS.map oS)]) (M1 := [T1, tabM PT FQ, wl (drawW y 99).2]) (ea_cons (ev_var rfl) (ea_cons (ev_lst (xs := LDS.map oS) (ea_cons (ev_str _) (ea_cons (ev_str _) (ea_cons (ev_str _) (ea_cons ev_non (ea_cons (ev_str _) ea_nil))))) (show 5 ≤ 1000 by decide)) ea_nil)) rfl (wg _) (R_oneA oS none (drawW y 99).2 LDS (List.cons_ne_nil _ _) (show 5 ≤ 100000 by decide)) (wg _) rfl) ea_nil)) (show 2 ≤ 1000 by decide)) (eg_tup (egs_cons eg_name (egs_cons eg_name egs_nil)) rfl)) ?_
  refine es_nG (G' := [_, _, _, _, _, _, _]) rfl ?_
  generalize drawW y 99 = dd at *
  obtain ⟨p, y⟩ := dd
  generalize oneA none y LDS = tt at *
  obtain ⟨t, y⟩ := tt
  refine es_seq (es_asg (ev_lstO (xs := [_]) (ea_cons (LJ.ev_lamV (kT := 1) rfl) ea_nil) (show 1 ≤ 1000 by decide))) ?_
  refine es_nG (G' := [_, _, _, _, _, _, _]) rfl ?_
  refine es_seq (es_appO (k := 3) (ev_var rfl) (LJ.ev_lamV (kT := 1) rfl) ⟨_, rfl⟩ rfl (show 1 < 1000000 by decide)) ?_
  refine es_seq (es_appO (k := 3) (ev_var rfl) (LJ.ev_lamV (kT := 1) rfl) ⟨_, rfl⟩ rfl (show 2 < 1000000 by decide)) ?_
  refine es_seq (es_appO (k := 3) (ev_var rfl) (LJ.ev_lamV (kT := 1) rfl) ⟨_, rfl⟩ rfl (show 3 < 1000000 by decide)) ?_
  refine LJ.es_freeze 3 3 rfl rfl ?_
  refine es_nG (G' := [_, _, _, _, _, _, _]) rfl ?_
  have sz : LJ.SameD K 1 (.tup [.str tNone, D]) (.tup [.str tNone, D]) := .pr (.str _) sd
  refine es_nxw (es_no (et_test (ev_op (ev_lcM [0, 1, 2, 3] (fun i => LJ.lamD FQ _ (LJ.lPr (lamE i)) (LJ.lBd (lamE i)) (LJ.lSc (defScope s__law_refused_right) (lamE i)) (if i = 0 then none else some 0)) (fun _ => .tup [.str tNone, D]) (ei_list (ev_var rfl)) (show 4 ≤ 100000 by decide) (hw_name (by decide)) fun i hi => ⟨_, eg_name, ?_⟩)
    (ev_op (ev_lstX (xs := [.tup [.str tNone, D]]) (ea_cons (ev_tup (xs := [.str tNone, D]) (ea_cons (ev_str _) (ea_cons (ev_var rfl) ea_nil)) (show 2 ≤ 1000 by decide)) ea_nil) (show 1 ≤ 1000 by decide)) (ev_isD ev_int (show _ = Dt.int ((4 : Nat) : Int) from rfl)) (ro_rep (show 1 * 4 ≤ 100000 by decide) (by decide)))
    (LJ.ro_neSame (n := 1) (by decide) (.cons sz (.cons sz (.cons sz (.cons sz .nil))))))) rfl es_next) (lg_cons (lg_cons (lg_cons (lg_cons (lg_cons (lg_cons (lg_cons lg_nil (.inr rfl)) (.inr rfl)) (.inr rfl)) (.inr rfl)) (.inr rfl)) (.inl rfl)) (.inl rfl))
  have four : i = 0 ∨ i = 1 ∨ i = 2 ∨ i = 3 := by simpa using hi
  rcases four with rfl | rfl | rfl | rfl
  · exact LJ.ev_askL2 (.head _) (ea_cons (ev_var rfl) ea_nil) rfl (.inr ⟨CN, "schema", D, .inr ⟨rfl, rfl, rfl⟩, fun E => ex_callNX (ds := [.str tSeqK, oS t, .str [112, 108, 97, 105, 110], .str [], D]) (es := [.int p]) (cs := [.str tSeqK, oS t, .str [112, 108, 97, 105, 110], .str [], D, .int p]) (ea_cons (ev_str _) (ea_cons (ev_var rfl) (ea_cons (ev_str _) (ea_cons (ev_str _) (ea_cons (ev_var rfl) ea_nil))))) (ea_cons (ev_var rfl) ea_nil) rfl rfl hp5 rfl (.inr ⟨_, _, _, _, D, _, od, rfl, rfl, rfl, rfl⟩)⟩)
  · exact LJ.ev_askL2 (.tail _ (.head _)) (ea_cons (ev_var rfl) ea_nil) rfl (.inr ⟨CN, "schema", D, .inr ⟨rfl, rfl, rfl⟩, fun E => ex_callX (ds := [.str tScalar, oS t, .str [112, 108, 97, 105, 110], .str [120], D]) (es := [.int 0]) (ea_cons (ev_str _) (ea_cons (ev_var rfl) (ea_cons (ev_str _) (ea_cons (ev_str _) (ea_cons (ev_var rfl) ea_nil))))) (.inr ⟨_, _, _, _, D, _, od, rfl, rfl, rfl, rfl⟩) rfl (fun _ => ⟨_, _, rfl, rfl, rfl⟩)⟩)
  · exact LJ.ev_askL2 (.tail _ (.tail _ (.head _))) (ea_cons (ev_var rfl) ea_nil) rfl (.inr ⟨CN, "schema", D, .inr ⟨rfl, rfl, rfl⟩, fun E => ex_callX (ds := [.str tScalar, oS t, .int 5, D]) (es := []) (ea_cons (ev_str _) (ea_cons (ev_var rfl) (ea_cons ev_int (ea_cons (ev_var rfl) ea_nil)))) ⟨_, _, _, D, od, rfl, rfl, rfl, rfl⟩ rfl (fun _ => rfl)⟩)
  · exact LJ.ev_askL2 (.tail _ (.tail _ (.tail _ (.head _)))) (ea_cons (ev_var rfl) ea_nil) rfl (.inr ⟨CN, "schema", D, .inr ⟨rfl, rfl, rfl⟩, fun E => ex_callNX (ds := [.str tMapK, oS t, .non, .str [112, 108, 97, 105, 110], D]) (es := [.int p]) (cs := [.str tMapK, oS t, .non, .str [112, 108, 97, 105, 110], D, .int p]) (ea_cons (ev_str _) (ea_cons (ev_var rfl) (ea_cons ev_non (ea_cons (ev_str _) (ea_cons (ev_var rfl) ea_nil))))) (ea_cons (ev_var rfl) ea_nil) rfl rfl hp5 rfl (.inr ⟨_, _, _, _, D, _, od, rfl, rfl, rfl, rfl⟩)⟩)
end
end T
namespace T
open PySem PySem.Spec PyProof.Rows L2 DJ LJ LamX
/-! ### the law -/
abbrev s_law : Stmt := topS 37
abbrev N_law : List Str := ["_law_script", "_law_k", "_law_error", "_law_well_here", "_law_turn"]
theorem sc_law : FnScope N_law ["_law_script"] (defScope s_law) := ⟨rfl, rfl, rfl, by decide +kernel, rfl, by decide +kernel, by decide +kernel⟩
def iterW (x : Wl) : Nat → Wl
  | 0 => x
  | j + 1 => rightW (iterW x j)
structure LwC (K : PySem.W.Frag) (C CN CP : Addr) : Prop where
  e1 : ExcC K C
  e2 : ExcC K CN
  p1 : PySem.W.kitOne K (.ref C) (.ref CP) = some true
  p2 : PySem.W.kitOne K (.ref CN) (.ref CP) = some true
  v1 : PySem.W.kitOne K (.ref C) (.type "ValueError") = some true
  v2 : PySem.W.kitOne K (.ref CN) (.type "ValueError") = some true
  n1 : PySem.W.kitOne K (.ref C) (.ref CN) = some false
  n2 : PySem.W.kitOne K (.ref CN) (.ref C) = some false
section
variable {P : Program} {w : World} {K : PySem.W.Frag} {mg : Str → Option Value} {base : Heap}
/-- a def whose code object may be any -/
theorem fn_mkV {x : Str} {st : Stmt} {N ps : List Str} {k n : Nat} {R : List Sl → List MO → Sl → List MO → Prop} {f : Addr} {cdv oc : Value} {od an : Option Addr} {osl : Array (Option Value)} {kV doc pm ct : Value}
    (lk : K.lookup f = some ⟨oc, od, .func (PySem.W.fnOf x x (defArgs st) (defBody st) (defScope st) .none kV doc pm an cdv ct), osl⟩) (hcd : PySem.W.codeIn K cdv x = true) (S : FnScope N ps (defScope st)) (hn : ps.length = n)
    (hb : ∀ (A : Around) (outer : List Env) (s : Shared) (H : Hp) (E : XK), Room k (A.deeper (envOfC x (defScope st) s.heap.objs.size f cdv)) → ∀ ss M r M', R ss M r M' →
      ∃ t X, PSs (cxOf CX0 P w K mg base N x (defScope st) f cdv A outer s H E).nox (defBody st) t ∧ EvS K t (DJ.start N.length ss) M (.rt r (M' ++ X)) ∧ M.length ≤ M'.length ∧ ∀ j, r = .o j → j < M'.length) :
    FnOk P w K mg base CX0 (k + 1) f (PySem.W.fnOf x x (defArgs st) (defBody st) (defScope st) .none kV doc pm an cdv ct) ps (SpR K n R) := by
  refine fn_of lk hcd S (fun vs H Q E h => ?_) (fun A outer s H vs Q E hr h => ?_)
  · obtain ⟨_, _, _, _, _, _, _, _, _, _, e, _⟩ := h
    rw [e, hn]
  · obtain ⟨F', B, as, ss, M, r, M', hR, ow, sl, _, q⟩ := h
    obtain ⟨t, X, ht, he, hl, hr'⟩ := hb A outer s H E hr ss M r M' hR
    exact ⟨t, PSs.nox ht, run_body (X := X) he hl hr' ow sl q⟩
abbrev tabs (P1 P2 : Addr) : List MO := [tabM P1 RQ, tabM P2 FQ]
def R_law (P1 P2 : Addr) : List Sl → List MO → Sl → List MO → Prop := fun ss M r M' => ∃ ns : List Int, ss = [.d (.lst (ns.map .int))] ∧ M = tabs P1 P2 ∧ r = .d (.bl true) ∧ M' = tabs P1 P2
theorem law_fn {f P1 P2 C CN CP : Addr} {cdv oc : Value} {od an : Option Addr} {osl : Array (Option Value)} {kV doc pm ct : Value}
    (lk : K.lookup f = some ⟨oc, od, .func (PySem.W.fnOf "law" "law" (defArgs s_law) (defBody s_law) (defScope s_law) .none kV doc pm an cdv ct), osl⟩) (hcd : PySem.W.codeIn K cdv "law" = true)
    (T_BadTag : Xi P w K mg base "BadTag" "place" C) (T_NoSchema : Xi P w K mg base "NoSchema" "schema" CN) (L : LwC K C CN CP) (g_PageError : mg "PageError" = some (.ref CP))
    (f__law_well : Cal P w K mg base 1 "_law_well" (SpR K 2 R_well) []) (f__law_right : Cal P w K mg base 11 "_law_right" (SpR K 1 (R_right P1 (tabM P2 FQ))) []) (f__law_refused_right : Cal P w K mg base 11 "_law_refused_right" (SpR K 1 (R_refd P2 (tabM P1 RQ))) [])
    (m_range : mg "range" = none) (m_len : mg "len" = none) (m_max : mg "max" = none) (m_min : mg "min" = none) (m_isinstance : mg "isinstance" = none) (m_ValueError : mg "ValueError" = none) :
    FnOk P w K mg base CX0 12 f (PySem.W.fnOf "law" "law" (defArgs s_law) (defBody s_law) (defScope s_law) .none kV doc pm an cdv ct) ["_law_script"] (SpR K 1 (R_law P1 P2)) := by
  refine fn_mkV (k := 11) lk hcd sc_law rfl fun A outer s H E hr ss M r M' h => ?_
  obtain ⟨ns, rfl, rfl, rfl, rfl⟩ := h
  refine ⟨_, [], (pss_cons (ps_for PassesOwn.never rfl (pi_range1 (by rfl) m_range (pa_cons (pe_callB (call_max2 rfl) (by rfl) m_max (by decide +kernel) (pa_cons pe_int (pa_cons (pe_callB (call_min2 rfl) (by rfl) m_min (by decide +kernel) (pa_cons pe_int (pa_cons (pe_callB call_len_seq (by rfl) m_len PySem.boot_len (pa_cons (pv 0) pa_nil)) pa_nil))) pa_nil))) pa_nil)) (pg_name (i := 1) sc_law.nd rfl (by first | exact .inl rfl | exact .inr rfl)) (pss_cons (ps_asg (pe_c f__law_well hr (by omega) (by rfl) (pa_cons (pv 0) (pa_cons (pv 1) pa_nil))) (pg_name (i := 3) sc_law.nd rfl (by first | exact .inl rfl | exact .inr rfl))) (pss_cons (ps_for PassesOwn.never rfl (pi_range1 (by rfl) m_range (pa_cons pe_int pa_nil)) (pg_name (i := 4) sc_law.nd rfl (by first | exact .inl rfl | exact .inr rfl)) (pss_one (ps_if (pt_not (pt_val (pe_c f__law_right hr (by omega) (by rfl) (pa_cons (pv 3) pa_nil)))) (pss_one (ps_ret pe_bl)) pss_nil))) (pss_one (ps_if (pt_not (pt_val (pe_c f__law_refused_right hr (by omega) (by rfl) (pa_cons (pv 3) pa_nil)))) (pss_one (ps_ret pe_bl)) pss_nil))))) (pss_cons (ps_for PassesOwn.never rfl (pi_tup (pe_tup (pa_cons (LJ.pe_mkE T_BadTag hr (by omega) (by rfl) (pa_cons pe_int pa_nil)) (pa_cons (LJ.pe_mkE T_NoSchema hr (by omega) (by rfl) (pa_cons pe_str pa_nil)) pa_nil)))) (pg_name (i := 2) sc_law.nd rfl (by first | exact .inl rfl | exact .inr rfl)) (pss_one (ps_if (PW.pt (pw_or (pt_not (pt_val (pe_callB LJ.call_isV (by rfl) m_isinstance (by decide +kernel) (pa_cons (pv 2) (pa_cons (pe_glob (v := .ref CP) (u := .ref CP) (by rfl) g_PageError rfl) pa_nil))))) (pw_or1 (pt_not (pt_val (pe_callB LJ.call_isV (by rfl) m_isinstance (by decide +kernel) (pa_cons (pv 2) (pa_cons (pe_bltn (v := .ty "ValueError") (u := .type "ValueError") (by rfl) m_ValueError (by decide +kernel) rfl) pa_nil)))))))) (pss_one (ps_ret pe_bl)) pss_nil))) (pss_one (ps_ret (pe_and (pe_not (pe_callB LJ.call_isV (by rfl) m_isinstance (by decide +kernel) (pa_cons (LJ.pe_mkE T_BadTag hr (by omega) (by rfl) (pa_cons pe_int pa_nil)) (pa_cons (pe_glob (v := .ref CN) (u := .ref CN) (by rfl) T_NoSchema.gC rfl) pa_nil)))) (pe_one (pe_not (pe_callB LJ.call_isV (by rfl) m_isinstance (by decide +kernel) (pa_cons (LJ.pe_mkE T_NoSchema hr (by omega) (by rfl) (pa_cons pe_int pa_nil)) (pa_cons (pe_glob (v := .ref C) (u := .ref C) (by rfl) T_BadTag.gC rfl) pa_nil)))))))))), ?_, Nat.le_refl _, fun _ h => nomatch h⟩
  have hm : max 1 (min 5 ((ns.map Dt.int).length : Int)) ≤ 5 ∧ 1 ≤ max 1 (min 5 ((ns.map Dt.int).length : Int)) := by omega
  refine es_seq (M1 := tabs P1 P2) (G1 := [some (.d (.lst (ns.map .int))), none, none, none, none]) ?_ ?_
  · refine es_forN (List.range (max 1 (min 5 ((ns.map Dt.int).length : Int))).toNat) (fun i => .int (i : Nat)) (fun _ => [some (.d (.lst (ns.map .int))), none, none, none, none]) (fun _ => tabs P1 P2) (ei_is (ei_rng1 (ea_cons (ev_isD (ev_cb (xs := [.int 1, .int (min 5 ((ns.map Dt.int).length : Int))]) (ea_cons ev_int (ea_cons (ev_isD (ev_cb (xs := [.int 5, .int ((ns.map Dt.int).length : Nat)]) (ea_cons ev_int (ea_cons (ev_cb (xs := [.lst (ns.map .int)]) (ea_cons (ev_var rfl) ea_nil) rc_lenL) ea_nil)) rc_min2) (show _ = Dt.int (min 5 ((ns.map Dt.int).length : Int)) by congr 1; split <;> omega)) ea_nil)) rc_max2) (show _ = Dt.int (max 1 (min 5 ((ns.map Dt.int).length : Int))) by congr 1; split <;> omega)) ea_nil) (by omega)) ?_) (Lg.refl _) fun i k hk => ⟨_, eg_name, .inl ?_⟩
    · exact List.map_congr_left fun i _ => by rw [Int.zero_add]
    refine es_nxT (X := [wl (refW (iterW (wellW ns k) (List.range 16).length) 12)]) ?_ (by simp)
    refine es_seq (es_asg (ev_call0n (ds := [.lst (ns.map .int), .int (k : Nat)]) (es := []) (m := wl (wellW ns k)) (ea_cons (ev_var rfl) (ea_cons (ev_var rfl) ea_nil)) ⟨ns, k, rfl, rfl, rfl, rfl⟩ (fun z => nomatch z) rfl (fun _ => rfl))) ?_
    refine es_nG (G' := [_, _, _, _, _]) rfl ?_
    refine es_seq (G1 := [some (.d (.lst (ns.map .int))), none, none, some (.o 2), none]) (M1 := [tabM P1 RQ, tabM P2 FQ, wl (iterW (wellW ns k) (List.range 16).length)]) ?_ ?_
    · refine es_forN (List.range 16) (fun i => .int (0 + (i : Nat))) (fun _ => [some (.d (.lst (ns.map .int))), none, none, some (.o 2), none]) (fun j => [tabM P1 RQ, tabM P2 FQ, wl (iterW (wellW ns k) j)]) (ei_rng1 (n := 16) (ea_cons ev_int ea_nil) (by decide)) (lg_cons (lg_cons (lg_cons (lg_cons (lg_cons lg_nil (.inl rfl)) (.inl rfl)) (.inl rfl)) (.inr rfl)) (.inl rfl)) fun j y hj => ⟨_, eg_name, .inl ?_⟩
      have es : iterW (wellW ns k) (j + 1) = rightW (iterW (wellW ns k) j) := rfl
      rw [es]
      generalize iterW (wellW ns k) j = x at *
      exact es_nxw (es_no (et_not (et_B (ev_callA (ss := [.o 2]) (z := .bl true) (ea_cons (ev_var rfl) ea_nil) (⟨x, rfl, rfl, rfl, rfl⟩ : R_right P1 (tabM P2 FQ) _ _ _ _) rfl))) rfl es_next) (lg_cons (lg_cons (lg_cons (lg_cons (lg_cons lg_nil (.inr rfl)) (.inl rfl)) (.inl rfl)) (.inl rfl)) (.inl rfl))
    · generalize iterW (wellW ns k) (List.range 16).length = x at *
      exact es_nxw (es_no (et_not (et_B (ev_callA (ss := [.o 2]) (z := .bl true) (ea_cons (ev_var rfl) ea_nil) (⟨x, rfl, rfl, rfl, rfl⟩ : R_refd P2 (tabM P1 RQ) _ _ _ _) rfl))) rfl es_next) (lg_cons (lg_cons (lg_cons (lg_cons (lg_cons lg_nil (.inl rfl)) (.inr rfl)) (.inl rfl)) (.inl rfl)) (.inl rfl))
  refine es_seq (M1 := tabs P1 P2) (G1 := [some (.d (.lst (ns.map .int))), none, none, none, none]) ?_ ?_
  · refine es_forN [C, CN] LJ.excV (fun _ => [some (.d (.lst (ns.map .int))), none, none, none, none]) (fun _ => tabs P1 P2) (ei_tup (ev_tup (xs := [LJ.excV C, LJ.excV CN]) (ea_cons (LJ.ev_mkE T_BadTag.ox T_BadTag.no (ea_cons ev_int ea_nil)) (ea_cons (LJ.ev_mkE T_NoSchema.ox T_NoSchema.no (ea_cons (ev_str _) ea_nil)) ea_nil)) (show 2 ≤ 1000 by decide))) (Lg.refl _) fun i c hc => ⟨_, eg_name, .inl ?_⟩
    have way : ExcC K c ∧ PySem.W.kitOne K (.ref c) (.ref CP) = some true ∧ PySem.W.kitOne K (.ref c) (.type "ValueError") = some true := by
      have := List.mem_of_getElem? hc
      simp only [List.mem_cons, List.not_mem_nil, or_false] at this
      rcases this with e | e
      · rw [e]; exact ⟨L.e1, L.p1, L.v1⟩
      · rw [e]; exact ⟨L.e2, L.p2, L.v2⟩
    exact es_nxw (es_no (et_or (b := false) (c := false) (et_is (et_not (et_B (ev_cb (xs := [LJ.excV c, .raw (.ref CP)]) (ea_cons (ev_var rfl) (ea_cons (ev_c fun _ => rfl) ea_nil)) (LJ.rc_isV way.1 (fun u h => h) way.2.1)))) rfl) (fun _ => et_is (et_not (et_B (ev_cb (xs := [LJ.excV c, .raw (.ty "ValueError")]) (ea_cons (ev_var rfl) (ea_cons ev_ty ea_nil)) (LJ.rc_isV way.1 (fun u h => h) way.2.2)))) rfl) (fun _ => rfl)) rfl es_next) (lg_cons (lg_cons (lg_cons (lg_cons (lg_cons lg_nil (.inl rfl)) (.inl rfl)) (.inr rfl)) (.inl rfl)) (.inl rfl))
  refine es_ret (ev_andV (a := true) (c := true) (ev_notV (ev_cb (xs := [LJ.excV C, .raw (.ref CN)]) (ea_cons (LJ.ev_mkE T_BadTag.ox T_BadTag.no (ea_cons ev_int ea_nil)) (ea_cons (ev_c fun _ => rfl) ea_nil)) (LJ.rc_isV L.e1 (fun u h => h) L.n1))) (fun _ => ev_notV (ev_cb (xs := [LJ.excV CN, .raw (.ref C)]) (ea_cons (LJ.ev_mkE T_NoSchema.ox T_NoSchema.no (ea_cons ev_int ea_nil)) (ea_cons (ev_c fun _ => rfl) ea_nil)) (LJ.rc_isV L.e2 (fun u h => h) L.n2))) (fun _ => rfl))
end
end T
namespace T
open PySem PySem.Spec PyProof.Rows L2 DJ LJ LamX
/-! ### the end: what the top has left -/
theorem all_mk {l : PySem.W.OpenLaw} {w : World} {K : PySem.W.Frag} {h : Heap} {mg : Str → Option Value} {fa : Addr} (X : K.In h) (G : h.Ns mainGlobals mg) (hfa : mg "law" = some (.ref fa))
    {f0 f1 f2 f3 f4 f5 f6 f7 f8 f9 f10 f11 f12 f13 f14 g0 g1 kd4 kd6 cL0 cL1 PL0 PL1 PgX0 : Addr}
    {od0 od1 od2 od3 od4 od5 od6 od7 od8 od9 od10 od11 od12 od13 od14 od15 od16 an0 an1 an2 an3 an4 an5 an6 an7 an8 an9 an10 an11 an12 an13 an14 tdd0 tdd1 : Option Addr}
    {sl0 sl1 sl2 sl3 sl4 sl5 sl6 sl7 sl8 sl9 sl10 sl11 sl12 sl13 sl14 sl15 sl16 tsl0 tsl1 : Array (Option Value)}
    {oc0 oc1 oc2 oc3 oc4 oc5 oc6 oc7 oc8 oc9 oc10 oc11 oc12 oc13 oc14 kV0 kV1 kV2 kV3 kV5 kV7 kV8 kV9 kV10 kV11 kV12 kV13 kV14 dc0 dc1 dc2 dc3 dc4 dc5 dc6 dc7 dc8 dc9 dc10 dc11 dc12 dc13 dc14 pm0 pm1 pm2 pm3 pm4 pm5 pm6 pm7 pm8 pm9 pm10 pm11 pm12 pm13 pm14 cd0 cd1 cd2 cd3 cd4 cd5 cd6 cd7 cd8 cd9 cd10 cd11 cd14 ct0 ct1 ct2 ct3 ct4 ct5 ct6 ct7 ct8 ct9 ct10 ct11 ct12 ct13 ct14 tcl0 tcl1 : Value}
    {tvs0 tvs1 : Array Value}
    {tc0 tc1 : Value}
    {ti0 ti1 : Array Value}
    {tn0 tn1 : Nat}
    {tS0 : Tok}
    (a0 : PySem.W.nsIn K mainGlobals "is_all" = some (some (.ref f0)))
    (l0 : K.lookup f0 = some ⟨oc0, od0, .func (PySem.W.fnOf "is_all" "is_all" (defArgs s_is_all) (defBody s_is_all) (defScope s_is_all) .none kV0 dc0 pm0 an0 cd0 ct0), sl0⟩)
    (c0 : PySem.W.codeIn K cd0 "is_all" = true)
    (k0 : PySem.W.keepIn K (.ref f0) = true)
    (a1 : PySem.W.nsIn K mainGlobals "is_tag" = some (some (.ref f1)))
    (l1 : K.lookup f1 = some ⟨oc1, od1, .func (PySem.W.fnOf "is_tag" "is_tag" (defArgs s_is_tag) (defBody s_is_tag) (defScope s_is_tag) .none kV1 dc1 pm1 an1 cd1 ct1), sl1⟩)
    (c1 : PySem.W.codeIn K cd1 "is_tag" = true)
    (k1 : PySem.W.keepIn K (.ref f1) = true)
    (a2 : PySem.W.nsIn K mainGlobals "check_schema" = some (some (.ref f2)))
    (l2 : K.lookup f2 = some ⟨oc2, od2, .func (PySem.W.fnOf "check_schema" "check_schema" (defArgs s_check_schema) (defBody s_check_schema) (defScope s_check_schema) .none kV2 dc2 pm2 an2 cd2 ct2), sl2⟩)
    (c2 : PySem.W.codeIn K cd2 "check_schema" = true)
    (k2 : PySem.W.keepIn K (.ref f2) = true)
    (a3 : PySem.W.nsIn K mainGlobals "may_have" = some (some (.ref f3)))
    (l3 : K.lookup f3 = some ⟨oc3, od3, .func (PySem.W.fnOf "may_have" "may_have" (defArgs s_may_have) (defBody s_may_have) (defScope s_may_have) .none kV3 dc3 pm3 an3 cd3 ct3), sl3⟩)
    (c3 : PySem.W.codeIn K cd3 "may_have" = true)
    (k3 : PySem.W.keepIn K (.ref f3) = true)
    {tk4 : Tok}
    (a4 : PySem.W.nsIn K mainGlobals "resolved" = some (some (.ref f4)))
    (l4 : K.lookup f4 = some ⟨oc4, od4, .func (PySem.W.fnOf "resolved" "resolved" (defArgs s_resolved) (defBody s_resolved) (defScope s_resolved) .none (.ref kd4) dc4 pm4 an4 cd4 ct4), sl4⟩)
    (c4 : PySem.W.codeIn K cd4 "resolved" = true)
    (k4 : PySem.W.keepIn K (.ref f4) = true)
    (kw4 : PySem.W.nsIn K kd4 "place" = some (some (.int 0 tk4)))
    (a5 : PySem.W.nsIn K mainGlobals "tag_fits" = some (some (.ref f5)))
    (l5 : K.lookup f5 = some ⟨oc5, od5, .func (PySem.W.fnOf "tag_fits" "tag_fits" (defArgs s_tag_fits) (defBody s_tag_fits) (defScope s_tag_fits) .none kV5 dc5 pm5 an5 cd5 ct5), sl5⟩)
    (c5 : PySem.W.codeIn K cd5 "tag_fits" = true)
    (k5 : PySem.W.keepIn K (.ref f5) = true)
    {tk6 : Tok}
    (a6 : PySem.W.nsIn K mainGlobals "tag_needed" = some (some (.ref f6)))
    (l6 : K.lookup f6 = some ⟨oc6, od6, .func (PySem.W.fnOf "tag_needed" "tag_needed" (defArgs s_tag_needed) (defBody s_tag_needed) (defScope s_tag_needed) .none (.ref kd6) dc6 pm6 an6 cd6 ct6), sl6⟩)
    (c6 : PySem.W.codeIn K cd6 "tag_needed" = true)
    (k6 : PySem.W.keepIn K (.ref f6) = true)
    (kw6 : PySem.W.nsIn K kd6 "place" = some (some (.int 0 tk6)))
    (a7 : PySem.W.nsIn K mainGlobals "_law_well" = some (some (.ref f7)))
    (l7 : K.lookup f7 = some ⟨oc7, od7, .func (PySem.W.fnOf "_law_well" "_law_well" (defArgs s__law_well) (defBody s__law_well) (defScope s__law_well) .none kV7 dc7 pm7 an7 cd7 ct7), sl7⟩)
    (c7 : PySem.W.codeIn K cd7 "_law_well" = true)
    (k7 : PySem.W.keepIn K (.ref f7) = true)
    (a8 : PySem.W.nsIn K mainGlobals "_law_draw" = some (some (.ref f8)))
    (l8 : K.lookup f8 = some ⟨oc8, od8, .func (PySem.W.fnOf "_law_draw" "_law_draw" (defArgs s__law_draw) (defBody s__law_draw) (defScope s__law_draw) .none kV8 dc8 pm8 an8 cd8 ct8), sl8⟩)
    (c8 : PySem.W.codeIn K cd8 "_law_draw" = true)
    (k8 : PySem.W.keepIn K (.ref f8) = true)
    (a9 : PySem.W.nsIn K mainGlobals "_law_one" = some (some (.ref f9)))
    (l9 : K.lookup f9 = some ⟨oc9, od9, .func (PySem.W.fnOf "_law_one" "_law_one" (defArgs s__law_one) (defBody s__law_one) (defScope s__law_one) .none kV9 dc9 pm9 an9 cd9 ct9), sl9⟩)
    (c9 : PySem.W.codeIn K cd9 "_law_one" = true)
    (k9 : PySem.W.keepIn K (.ref f9) = true)
    (a10 : PySem.W.nsIn K mainGlobals "_law_told" = some (some (.ref f10)))
    (l10 : K.lookup f10 = some ⟨oc10, od10, .func (PySem.W.fnOf "_law_told" "_law_told" (defArgs s__law_told) (defBody s__law_told) (defScope s__law_told) .none kV10 dc10 pm10 an10 cd10 ct10), sl10⟩)
    (c10 : PySem.W.codeIn K cd10 "_law_told" = true)
    (k10 : PySem.W.keepIn K (.ref f10) = true)
    (a11 : PySem.W.nsIn K mainGlobals "_law_due" = some (some (.ref f11)))
    (l11 : K.lookup f11 = some ⟨oc11, od11, .func (PySem.W.fnOf "_law_due" "_law_due" (defArgs s__law_due) (defBody s__law_due) (defScope s__law_due) .none kV11 dc11 pm11 an11 cd11 ct11), sl11⟩)
    (c11 : PySem.W.codeIn K cd11 "_law_due" = true)
    (k11 : PySem.W.keepIn K (.ref f11) = true)
    (a12 : PySem.W.nsIn K mainGlobals "_law_right" = some (some (.ref f12)))
    (l12 : K.lookup f12 = some ⟨oc12, od12, .func (PySem.W.fnOf "_law_right" "_law_right" (defArgs s__law_right) (defBody s__law_right) (defScope s__law_right) .none kV12 dc12 pm12 an12 (.ref cL0) ct12), sl12⟩)
    (c12 : PySem.W.codeIn K (.ref cL0) "_law_right" = true)
    (k12 : PySem.W.keepIn K (.ref f12) = true)
    (a13 : PySem.W.nsIn K mainGlobals "_law_refused_right" = some (some (.ref f13)))
    (l13 : K.lookup f13 = some ⟨oc13, od13, .func (PySem.W.fnOf "_law_refused_right" "_law_refused_right" (defArgs s__law_refused_right) (defBody s__law_refused_right) (defScope s__law_refused_right) .none kV13 dc13 pm13 an13 (.ref cL1) ct13), sl13⟩)
    (c13 : PySem.W.codeIn K (.ref cL1) "_law_refused_right" = true)
    (k13 : PySem.W.keepIn K (.ref f13) = true)
    (a14 : PySem.W.nsIn K mainGlobals "law" = some (some (.ref f14)))
    (l14 : K.lookup f14 = some ⟨oc14, od14, .func (PySem.W.fnOf "law" "law" (defArgs s_law) (defBody s_law) (defScope s_law) .none kV14 dc14 pm14 an14 cd14 ct14), sl14⟩)
    (c14 : PySem.W.codeIn K cd14 "law" = true)
    (k14 : PySem.W.keepIn K (.ref f14) = true)
    (t10 : K.lookup cL0 = some ⟨tcl0, tdd0, .fields tvs0, tsl0⟩)
    (t20 : tvs0[11]? = some (.ref PL0))
    (t30 : PySem.W.codeHdIn K cL0 PL0 = true)
    (t40 : K.lookup PL0 = none)
    (t50 : h.get? PL0 = some { cls := .none, data := .fields #[] })
    (t11 : K.lookup cL1 = some ⟨tcl1, tdd1, .fields tvs1, tsl1⟩)
    (t21 : tvs1[11]? = some (.ref PL1))
    (t31 : PySem.W.codeHdIn K cL1 PL1 = true)
    (t41 : K.lookup PL1 = none)
    (t51 : h.get? PL1 = some { cls := .none, data := .fields #[] })
    (tn : [PL0, PL1].Nodup)
    (b0 : PySem.W.nsIn K mainGlobals "TAG_SIGNS" = some (some (.str (tx TAGSG) tS0)))
    (u0 : PySem.W.nsIn K mainGlobals "COLLECTION_TAGS" = some (some (.ref g0)))
    (v0 : K.lookup g0 = some ⟨tc0, od15, .seq ti0 tn0, sl15⟩)
    (w0 : tc0 = .type "tuple")
    (x0 : ti0.size ≤ 1000)
    (y0 : strsOf CT ti0.toList = true)
    (u1 : PySem.W.nsIn K mainGlobals "WORD_TAGS" = some (some (.ref g1)))
    (v1 : K.lookup g1 = some ⟨tc1, od16, .seq ti1 tn1, sl16⟩)
    (w1 : tc1 = .type "tuple")
    (x1 : ti1.size ≤ 1000)
    (y1 : strsOf WT ti1.toList = true)
    (z0 : PySem.W.nsIn K mainGlobals "all" = some none)
    (z1 : PySem.W.nsIn K mainGlobals "isinstance" = some none)
    (z2 : PySem.W.nsIn K mainGlobals "int" = some none)
    (z3 : PySem.W.nsIn K mainGlobals "str" = some none)
    (z4 : PySem.W.nsIn K mainGlobals "range" = some none)
    (z5 : PySem.W.nsIn K mainGlobals "len" = some none)
    (z6 : PySem.W.nsIn K mainGlobals "max" = some none)
    (z7 : PySem.W.nsIn K mainGlobals "min" = some none)
    (z8 : PySem.W.nsIn K mainGlobals "ValueError" = some none)
    {ClX0 NX0 IX0 HX0 : Addr} {nX0 qX0 : Str} {bsX0 bmX0 suX0 : List Value} {snX0 : List Str} {abX0 : Bool} {coX0 : Option Bool} {ddX0 ioX0 iaX0 dqX0 : Option Addr} {m0X0 m1X0 m2X0 m3X0 m5X0 : Option Value}
    {icX0 ikX0 idX0 ipX0 ieX0 itX0 dcX0 : Value} {isX0 dsX0 : Array (Option Value)} {diX0 : Array Value} {dnX0 : Nat}
    (xa0 : PySem.W.nsIn K mainGlobals "BadTag" = some (some (.ref ClX0)))
    (xl0 : K.lookup ClX0 = some (excClassObj nX0 qX0 ClX0 NX0 bsX0 bmX0 true snX0 suX0 abX0 coX0 ddX0 m0X0 m1X0 m2X0 m3X0 m5X0 "ValueError.__new__"))
    (xv0 : PySem.HandSPX.refsVE bmX0 = true)
    (xs0 : PySem.W.findIn K (.ref ClX0) "__setattr__" = some (some (.builtin "object.__setattr__")))
    (xb0 : PySem.W.subIn K (.ref ClX0) (.type "BaseException") = some true)
    (xt0 : PySem.W.typeIn K (.ref ClX0) = some (.type "type"))
    (xk0 : PySem.W.keepIn K (.ref ClX0) = true)
    (xn0 : PySem.W.findIn K (.ref ClX0) "place" = some none)
    (xi0 : PySem.W.isClsIn K ClX0 = true)
    (xu0 : PySem.W.subIn K (.ref ClX0) (.ref ClX0) = some true)
    (xg0 : PySem.W.findIn K (.ref ClX0) "__getattribute__" = some (some (.builtin "BaseException.__getattribute__")))
    (xh0 : PySem.W.findIn K (.ref ClX0) "__getattr__" = some none)
    (xd0 : PySem.W.hasDictIn K ClX0 = true)
    (xj0 : PySem.W.findIn K (.ref ClX0) "__init__" = some (some (.ref IX0)))
    (xy0 : PySem.W.typeIn K (.ref IX0) = some (.type "function"))
    (xf0 : K.lookup IX0 = some ⟨icX0, ioX0, .func (PySem.W.fnOf "__init__" "BadTag.__init__" (defArgs (initS (topS 3))) (defBody (initS (topS 3))) (defScope (initS (topS 3))) (.ref HX0) ikX0 idX0 ipX0 iaX0 ieX0 itX0), isX0⟩)
    (xc0 : PySem.W.codeIn K ieX0 "BadTag.__init__" = true)
    (xo0 : PySem.W.keepIn K (.ref IX0) = true)
    (xr0 : K.lookup HX0 = some ⟨dcX0, dqX0, .seq diX0 dnX0, dsX0⟩)
    (xe0 : diX0 = #[.none])
    {ClX1 NX1 IX1 HX1 : Addr} {nX1 qX1 : Str} {bsX1 bmX1 suX1 : List Value} {snX1 : List Str} {abX1 : Bool} {coX1 : Option Bool} {ddX1 ioX1 iaX1 dqX1 : Option Addr} {m0X1 m1X1 m2X1 m3X1 m5X1 : Option Value}
    {icX1 ikX1 idX1 ipX1 ieX1 itX1 dcX1 : Value} {isX1 dsX1 : Array (Option Value)} {diX1 : Array Value} {dnX1 : Nat}
    (xa1 : PySem.W.nsIn K mainGlobals "NoSchema" = some (some (.ref ClX1)))
    (xl1 : K.lookup ClX1 = some (excClassObj nX1 qX1 ClX1 NX1 bsX1 bmX1 true snX1 suX1 abX1 coX1 ddX1 m0X1 m1X1 m2X1 m3X1 m5X1 "ValueError.__new__"))
    (xv1 : PySem.HandSPX.refsVE bmX1 = true)
    (xs1 : PySem.W.findIn K (.ref ClX1) "__setattr__" = some (some (.builtin "object.__setattr__")))
    (xb1 : PySem.W.subIn K (.ref ClX1) (.type "BaseException") = some true)
    (xt1 : PySem.W.typeIn K (.ref ClX1) = some (.type "type"))
    (xk1 : PySem.W.keepIn K (.ref ClX1) = true)
    (xn1 : PySem.W.findIn K (.ref ClX1) "schema" = some none)
    (xi1 : PySem.W.isClsIn K ClX1 = true)
    (xu1 : PySem.W.subIn K (.ref ClX1) (.ref ClX1) = some true)
    (xg1 : PySem.W.findIn K (.ref ClX1) "__getattribute__" = some (some (.builtin "BaseException.__getattribute__")))
    (xh1 : PySem.W.findIn K (.ref ClX1) "__getattr__" = some none)
    (xd1 : PySem.W.hasDictIn K ClX1 = true)
    (xj1 : PySem.W.findIn K (.ref ClX1) "__init__" = some (some (.ref IX1)))
    (xy1 : PySem.W.typeIn K (.ref IX1) = some (.type "function"))
    (xf1 : K.lookup IX1 = some ⟨icX1, ioX1, .func (PySem.W.fnOf "__init__" "NoSchema.__init__" (defArgs (initS (topS 2))) (defBody (initS (topS 2))) (defScope (initS (topS 2))) (.ref HX1) ikX1 idX1 ipX1 iaX1 ieX1 itX1), isX1⟩)
    (xc1 : PySem.W.codeIn K ieX1 "NoSchema.__init__" = true)
    (xo1 : PySem.W.keepIn K (.ref IX1) = true)
    (xr1 : K.lookup HX1 = some ⟨dcX1, dqX1, .seq diX1 dnX1, dsX1⟩)
    (xe1 : diX1 = #[.none])
    (ea0 : PySem.W.findIn K (.ref ClX0) "__class__" = some (some (.builtin "object.__class__")))
    (eb0 : PySem.W.specialIn K (.builtin "object.__class__") "__get__" = some (some (.builtin "getset_descriptor.__get__")))
    (ec0 : PySem.W.takesIn K (.builtin "object.__class__") = some true)
    (ed0 : PySem.W.mroIn K ClX0 (.type "object") = some true)
    (ef0 : PySem.W.nsIn K mainGlobals "PageError" = some (some (.ref PgX0)))
    (ee0 : PySem.W.kitOne K (.ref ClX0) (.ref PgX0) = some true)
    (qv1 : PySem.W.findIn K (.ref ClX1) "__class__" = some (some (.builtin "object.__class__")))
    (qv2 : PySem.W.mroIn K ClX1 (.type "object") = some true)
    (qv3 : PySem.W.kitOne K (.ref ClX1) (.ref PgX0) = some true)
    (qv4 : PySem.W.kitOne K (.ref ClX0) (.type "ValueError") = some true)
    (qv5 : PySem.W.kitOne K (.ref ClX1) (.type "ValueError") = some true)
    (qv6 : PySem.W.kitOne K (.ref ClX0) (.ref ClX1) = some false)
    (qv7 : PySem.W.kitOne K (.ref ClX1) (.ref ClX0) = some false)
    (qv8 : PySem.W.exmOne K (.ref ClX1) (.ref ClX0) = some false) :
    LawAtS l w K CX0 12 63 "_law_script" mg fa h := by
  have e := hfa.symm.trans (PySem.W.mg_of X G a14)
  cases e
  have D_is_all := df_mk (st := s_is_all) (ps := ["word", "signs"]) X G a0 l0 c0 k0 fun _ _ _ _ _ _ us hl => match us, hl with | [_, _], _ => rfl
  have D_is_tag := df_mk (st := s_is_tag) (ps := ["thing"]) X G a1 l1 c1 k1 fun _ _ _ _ _ _ us hl => match us, hl with | [_], _ => rfl
  have D_check_schema := df_mk (st := s_check_schema) (ps := ["schema"]) X G a2 l2 c2 k2 fun _ _ _ _ _ _ us hl => match us, hl with | [_], _ => rfl
  have D_may_have := df_mk (st := s_may_have) (ps := ["kind", "tag", "schema"]) X G a3 l3 c3 k3 fun _ _ _ _ _ _ us hl => match us, hl with | [_, _, _], _ => rfl
  have D_resolved := dfk_int (st := s_resolved) X G a4 l4 c4 k4 kw4
  have D_tag_fits := df_mk (st := s_tag_fits) (ps := ["kind", "tag", "content", "schema"]) X G a5 l5 c5 k5 fun _ _ _ _ _ _ us hl => match us, hl with | [_, _, _, _], _ => rfl
  have D_tag_needed := dfk_int (st := s_tag_needed) X G a6 l6 c6 k6 kw6
  have D__law_well := df_mk (st := s__law_well) (ps := ["_law_script", "_law_k"]) X G a7 l7 c7 k7 fun _ _ _ _ _ _ us hl => match us, hl with | [_, _], _ => rfl
  have D__law_draw := df_mk (st := s__law_draw) (ps := ["_law_well_here", "_law_many"]) X G a8 l8 c8 k8 fun _ _ _ _ _ _ us hl => match us, hl with | [_, _], _ => rfl
  have D__law_one := df_mk (st := s__law_one) (ps := ["_law_well_here", "_law_some"]) X G a9 l9 c9 k9 fun _ _ _ _ _ _ us hl => match us, hl with | [_, _], _ => rfl
  have D__law_told := df_mk (st := s__law_told) (ps := ["_law_ask"]) X G a10 l10 c10 k10 fun _ _ _ _ _ _ us hl => match us, hl with | [_], _ => rfl
  have D__law_due := df_mk (st := s__law_due) (ps := ["_law_sort_so", "_law_lead", "_law_way", "_law_at"]) X G a11 l11 c11 k11 fun _ _ _ _ _ _ us hl => match us, hl with | [_, _, _, _], _ => rfl
  have D__law_right := dft_mk (st := s__law_right) (ps := ["_law_well_here"]) X G a12 l12 c12 k12 fun _ _ _ _ _ _ us hl => match us, hl with | [_], _ => rfl
  have D__law_refused_right := dft_mk (st := s__law_refused_right) (ps := ["_law_well_here"]) X G a13 l13 c13 k13 fun _ _ _ _ _ _ us hl => match us, hl with | [_], _ => rfl
  have U_TAG_SIGNS := gc_str X G b0
  have U_COLLECTION_TAGS := gc_tup X G u0 v0 w0 x0 y0
  have U_WORD_TAGS := gc_tup X G u1 v1 w1 x1 y1
  have m_all := PySem.W.mg_none_of X G z0
  have m_isinstance := PySem.W.mg_none_of X G z1
  have m_int := PySem.W.mg_none_of X G z2
  have m_str := PySem.W.mg_none_of X G z3
  have m_range := PySem.W.mg_none_of X G z4
  have m_len := PySem.W.mg_none_of X G z5
  have m_max := PySem.W.mg_none_of X G z6
  have m_min := PySem.W.mg_none_of X G z7
  have m_ValueError := PySem.W.mg_none_of X G z8
  refine ⟨PySem.W.fnOf "law" "law" (defArgs s_law) (defBody s_law) (defScope s_law) .none kV14 dc14 pm14 an14 cd14 ct14, [(cL0, PL0), (cL1, PL1)], SpR K 1 (R_law PL0 PL1), List.forall_mem_cons.mpr ⟨t50, List.forall_mem_cons.mpr ⟨t51, fun _ h => nomatch h⟩⟩, List.forall_mem_cons.mpr ⟨t40, List.forall_mem_cons.mpr ⟨t41, fun _ h => nomatch h⟩⟩, List.forall_mem_cons.mpr ⟨PySem.W.codeHd_of_K X t30, List.forall_mem_cons.mpr ⟨PySem.W.codeHd_of_K X t31, fun _ h => nomatch h⟩⟩, fun s v => .of_eq rfl, fun H a ns _ _ hH hS => sp_ofTs (ts := [(PL0, RQ), (PL1, FQ)]) (List.forall_mem_cons.mpr ⟨hH (cL0, PL0) (List.mem_cons_self), List.forall_mem_cons.mpr ⟨hH (cL1, PL1) (List.mem_cons_of_mem _ (List.mem_cons_self)), fun _ h => nomatch h⟩⟩) tn hS ⟨ns, rfl, rfl, rfl, rfl⟩, fun base KI GI TB => ?_⟩
  have X_BadTag : Xi l.prog w K mg base "BadTag" "place" ClX0 := xi_mk (st := initS (topS 3)) (qn := "BadTag.__init__") X G xa0 xl0 xv0 xs0 xb0 xt0 xk0 xn0 xi0 xu0 xg0 xh0 xd0 xj0 xy0 (init_none xf0 xc0 xo0 xr0 xe0) ⟨rfl, rfl, rfl, by decide +kernel, rfl, by decide +kernel, by decide +kernel⟩ (fun cdv A outer s H E => pss_one (ps_ost (pv 0) (pv 1))) (fun T kV doc pm an cdv ct us its h1 h2 => match us, h1 with | [_, _], _ => match its, h2 with | [_], _ => ⟨_, rfl, rfl⟩)
  have X_NoSchema : Xi l.prog w K mg base "NoSchema" "schema" ClX1 := xi_mk (st := initS (topS 2)) (qn := "NoSchema.__init__") X G xa1 xl1 xv1 xs1 xb1 xt1 xk1 xn1 xi1 xu1 xg1 xh1 xd1 xj1 xy1 (init_none xf1 xc1 xo1 xr1 xe1) ⟨rfl, rfl, rfl, by decide +kernel, rfl, by decide +kernel, by decide +kernel⟩ (fun cdv A outer s H E => pss_one (ps_ost (pv 0) (pv 1))) (fun T kV doc pm an cdv ct us its h1 h2 => match us, h1 with | [_, _], _ => match its, h2 with | [_], _ => ⟨_, rfl, rfl⟩)
  have E_BadTag : ExcC K ClX0 := ⟨xg0, xh0, xb0, xd0, ea0, eb0, ec0, ed0⟩
  have g_PageError := PySem.W.mg_of X G ef0
  have F0 := cal_is_all (P := l.prog) (w := w) (base := base) (k := 0) D_is_all m_all
  have IT := cal_is_tag D_is_tag U_TAG_SIGNS F0 m_isinstance m_str
  have CK := cal_check D_check_schema X_NoSchema m_isinstance m_str
  have MH := cal_may (P := l.prog) (w := w) (base := base) (j := 0) D_may_have U_COLLECTION_TAGS U_WORD_TAGS
  have RS := cal_res D_resolved X_BadTag CK MH
  have TF := cal_fits D_tag_fits CK IT MH m_isinstance m_str
  have TN := cal_need D_tag_needed X_BadTag CK TF (res_pos RS)
  have LD := cal_draw (P := l.prog) (w := w) (base := base) (k := 0) D__law_draw m_int
  have LO := cal_one (k := 0) D__law_one LD m_len
  have LW := cal_well (P := l.prog) (w := w) (base := base) (k := 0) D__law_well m_int m_len
  have DU := cal_due (P := l.prog) (w := w) (base := base) (j := 0) D__law_due m_int
  have RR := cal_right (T2 := tabM PL1 FQ) D__law_right (TB (cL0, PL0) (List.mem_cons_self)) D__law_told X_BadTag X_NoSchema qv8 (res_kw RS) (need_kw TN) TF DU LD LO
  have RF := cal_refused (T1 := tabM PL0 RQ) D__law_refused_right (TB (cL1, PL1) (List.mem_cons_of_mem _ (List.mem_cons_self))) D__law_told X_BadTag X_NoSchema qv8 (res_kw RS) (res_pos RS) (need_kw TN) TF LD LO
  have LC : LwC K ClX0 ClX1 PgX0 := ⟨E_BadTag, ⟨xg1, xh1, xb1, xd1, qv1, eb0, ec0, qv2⟩, ee0, qv3, qv4, qv5, qv6, qv7⟩
  exact law_fn l14 c14 X_BadTag X_NoSchema LC g_PageError LW RR RF m_range m_len m_max m_min m_isinstance m_ValueError
end T
open PySem PySem.W PyProof.Rows
set_option maxHeartbeats 0 in
theorem PySem.Challenge.cw_anchorpages_k56_collections_and_schemas_holds : PySem.Challenge.rw_anchorpages_k56_collections_and_schemas.Holds := by
  w_on; o_law; k_head; (case hw => w_witness2)
  k_fill
  refine LamX.walk_ofTs (l := PySem.Challenge.rw_anchorpages_k56_collections_and_schemas) (n := 63) (k := 12) (x := "_law_script") (CX := fun _ => L2.CX0) rfl (by decide) rfl ⟨rfl, by decide, by decide⟩ (fun w h Y => PySem.W.km_in_of Y) ?F (fun _ _ _ _ _ h => h)
  case F =>
    intro w mg fa h Y KX G hmg
    refine' T.all_mk KX G hmg ?a0 ?l0 ?c0 ?k0 ?a1 ?l1 ?c1 ?k1 ?a2 ?l2 ?c2 ?k2 ?a3 ?l3 ?c3 ?k3 ?a4 ?l4 ?c4 ?k4 ?kw4 ?a5 ?l5 ?c5 ?k5 ?a6 ?l6 ?c6 ?k6 ?kw6 ?a7 ?l7 ?c7 ?k7 ?a8 ?l8 ?c8 ?k8 ?a9 ?l9 ?c9 ?k9 ?a10 ?l10 ?c10 ?k10 ?a11 ?l11 ?c11 ?k11 ?a12 ?l12 ?c12 ?k12 ?a13 ?l13 ?c13 ?k13 ?a14 ?l14 ?c14 ?k14 ?t10 ?t20 ?t30 ?t40 ?t50 ?t11 ?t21 ?t31 ?t41 ?t51 ?tn ?b0 ?u0 ?v0 ?w0 ?x0 ?y0 ?u1 ?v1 ?w1 ?x1 ?y1 ?z0 ?z1 ?z2 ?z3 ?z4 ?z5 ?z6 ?z7 ?z8 ?xa0 ?xl0 ?xv0 ?xs0 ?xb0 ?xt0 ?xk0 ?xn0 ?xi0 ?xu0 ?xg0 ?xh0 ?xd0 ?xj0 ?xy0 ?xf0 ?xc0 ?xo0 ?xr0 ?xe0 ?xa1 ?xl1 ?xv1 ?xs1 ?xb1 ?xt1 ?xk1 ?xn1 ?xi1 ?xu1 ?xg1 ?xh1 ?xd1 ?xj1 ?xy1 ?xf1 ?xc1 ?xo1 ?xr1 ?xe1 ?ea0 ?eb0 ?ec0 ?ed0 ?ef0 ?ee0 ?qv1 ?qv2 ?qv3 ?qv4 ?qv5 ?qv6 ?qv7 ?qv8
    (case a0 => k_is); (case l0 => k_is); (case c0 => k_is); (case k0 => k_is); (case a1 => k_is); (case l1 => k_is); (case c1 => k_is); (case k1 => k_is); (case a2 => k_is); (case l2 => k_is); (case c2 => k_is); (case k2 => k_is); (case a3 => k_is); (case l3 => k_is); (case c3 => k_is); (case k3 => k_is); (case a4 => k_is); (case l4 => k_is); (case c4 => k_is); (case k4 => k_is); (case kw4 => k_is); (case a5 => k_is); (case l5 => k_is); (case c5 => k_is); (case k5 => k_is); (case a6 => k_is); (case l6 => k_is); (case c6 => k_is); (case k6 => k_is); (case kw6 => k_is); (case a7 => k_is); (case l7 => k_is); (case c7 => k_is); (case k7 => k_is); (case a8 => k_is); (case l8 => k_is); (case c8 => k_is); (case k8 => k_is); (case a9 => k_is); (case l9 => k_is); (case c9 => k_is); (case k9 => k_is); (case a10 => k_is); (case l10 => k_is); (case c10 => k_is); (case k10 => k_is); (case a11 => k_is); (case l11 => k_is); (case c11 => k_is); (case k11 => k_is); (case a12 => k_is); (case l12 => k_is); (case c12 => k_is); (case k12 => k_is); (case a13 => k_is); (case l13 => k_is); (case c13 => k_is); (case k13 => k_is); (case a14 => k_is); (case l14 => k_is); (case c14 => k_is); (case k14 => k_is); (case t10 => k_is); (case t20 => first | k_is | exact rfl | decide +kernel); (case t30 => first | k_is | decide +kernel | exact rfl); (case t40 => first | k_is | exact rfl | decide +kernel); (case t50 => exact PySem.W.km_tabs_of Y _ (by decide +kernel)); (case t11 => k_is); (case t21 => first | k_is | exact rfl | decide +kernel); (case t31 => first | k_is | decide +kernel | exact rfl); (case t41 => first | k_is | exact rfl | decide +kernel); (case t51 => exact PySem.W.km_tabs_of Y _ (by decide +kernel)); (case tn => decide +kernel); (case b0 => k_is); (case u0 => k_is); (case v0 => k_is); (case w0 => exact rfl); (case x0 => decide +kernel); (case y0 => decide +kernel); (case u1 => k_is); (case v1 => k_is); (case w1 => exact rfl); (case x1 => decide +kernel); (case y1 => decide +kernel); (case z0 => k_is); (case z1 => k_is); (case z2 => k_is); (case z3 => k_is); (case z4 => k_is); (case z5 => k_is); (case z6 => k_is); (case z7 => k_is); (case z8 => k_is); (case xa0 => k_is); (case xl0 => k_is); (case xv0 => exact rfl); (case xs0 => k_is); (case xb0 => k_is); (case xt0 => k_is); (case xk0 => k_is); (case xn0 => k_is); (case xi0 => k_is); (case xu0 => k_is); (case xg0 => k_is); (case xh0 => k_is); (case xd0 => k_is); (case xj0 => k_is); (case xy0 => k_is); (case xf0 => k_is); (case xc0 => k_is); (case xo0 => k_is); (case xr0 => k_is); (case xe0 => exact rfl); (case xa1 => k_is); (case xl1 => k_is); (case xv1 => exact rfl); (case xs1 => k_is); (case xb1 => k_is); (case xt1 => k_is); (case xk1 => k_is); (case xn1 => k_is); (case xi1 => k_is); (case xu1 => k_is); (case xg1 => k_is); (case xh1 => k_is); (case xd1 => k_is); (case xj1 => k_is); (case xy1 => k_is); (case xf1 => k_is); (case xc1 => k_is); (case xo1 => k_is); (case xr1 => k_is); (case xe1 => exact rfl); (case ea0 => first | k_is | exact rfl | decide +kernel | kernel_rfl); (case eb0 => first | k_is | exact rfl | decide +kernel | kernel_rfl); (case ec0 => first | k_is | exact rfl | decide +kernel | kernel_rfl); (case ed0 => first | k_is | exact rfl | decide +kernel | kernel_rfl); (case ef0 => first | k_is | exact rfl | decide +kernel | kernel_rfl); (case ee0 => first | k_is | exact rfl | decide +kernel | kernel_rfl); (case qv1 => first | k_is | exact rfl | decide +kernel | kernel_rfl); (case qv2 => first | k_is | exact rfl | decide +kernel | kernel_rfl); (case qv3 => first | k_is | exact rfl | decide +kernel | kernel_rfl); (case qv4 => first | k_is | exact rfl | decide +kernel | kernel_rfl); (case qv5 => first | k_is | exact rfl | decide +kernel | kernel_rfl); (case qv6 => first | k_is | exact rfl | decide +kernel | kernel_rfl); (case qv7 => first | k_is | exact rfl | decide +kernel | kernel_rfl); (case qv8 => first | k_is | exact rfl | decide +kernel | kernel_rfl)
