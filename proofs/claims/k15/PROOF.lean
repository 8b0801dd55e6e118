import PyProof.Rows.All
import Wide.All
import OpenK.AllK
import Wide.FinOn
import KE.RegKIsAll
import HandS.ForMost
import HandS.Conv
import HandS.TupAny
import HandS.TupMul
import HandS.Zip
import HandS.IsInst
import HandS.SortInts
import HandS.WideBits
import HandS.Walk
import HandS.Text
import KE.GoesMore
import HandS.SetFor
import HandS.Strs
import HandS.OwnEq
import HandS.RevTup
import PySem.Challenge.RW_latekinds_k15_slots_of_a_scheme
set_option Elab.async false
set_option linter.all false
set_option maxRecDepth 100000
set_option maxHeartbeats 4000000
/-! Pd: readings over data. Data D stands for what a value is; Ent for what a slot holds; Ev, St are readings told of data alone. -/
namespace Pd
open PySem L2

inductive D where
  | non | bl (b : Bool) | int (i : Int) | str (x : Str) | tup (ds : List D) | lst (ds : List D) | dct | rg (lo hi : Int) | obj (C : Addr) (ns : List Str) (ds : List D)

mutual
inductive Rep (M : Addr → Prop) (H : Hp) : V → D → Prop
  | non : Rep M H .non .non
  | bl (b : Bool) : Rep M H (.bl b) (.bl b)
  | int (i : Int) : Rep M H (.int i) (.int i)
  | str (x : Str) : Rep M H (.str x) (.str x)
  | tup {a : Addr} {vs : List V} {ds : List D} : H a = some (.tup vs) → RepAll M H vs ds → Rep M H (.ref a) (.tup ds)
  | lst {a : Addr} {vs : List V} {ds : List D} : ¬ M a → H a = some (.lst vs) → RepAll M H vs ds → Rep M H (.ref a) (.lst ds)
  | dct {a : Addr} {kvs : List (Key × V)} : H a = some (.dK kvs) → Rep M H (.ref a) .dct
  | rg {a : Addr} {lo hi : Int} : H a = some (.rng lo hi) → Rep M H (.ref a) (.rg lo hi)
  | obj {a C dx : Addr} {fs : List (Str × V)} {ns : List Str} {vs : List V} {ds : List D} : H a = some (.ins C dx fs) → fs = ns.zip vs → ns.length = vs.length → RepAll M H vs ds → Rep M H (.ref a) (.obj C ns ds)
inductive RepAll (M : Addr → Prop) (H : Hp) : List V → List D → Prop
  | nil : RepAll M H [] []
  | cons {v : V} {vs : List V} {d : D} {ds : List D} : Rep M H v d → RepAll M H vs ds → RepAll M H (v :: vs) (d :: ds)
end

/-- only lists at places of M may have changed; nothing is lost -/
structure Ex (M : Addr → Prop) (H H' : Hp) : Prop where
  kp : ∀ a o, H a = some o → (M a → ∀ xs, o ≠ .lst xs) → H' a = some o
  th : ∀ a o, H a = some o → ∃ o', H' a = some o'
theorem Ex.refl (M : Addr → Prop) (H : Hp) : Ex M H H := ⟨fun _ _ h _ => h, fun _ _ h => ⟨_, h⟩⟩
theorem Ex.trans {M : Addr → Prop} {H H1 H2 : Hp} (a : Ex M H H1) (b : Ex M H1 H2) : Ex M H H2 := ⟨fun x o h k => b.kp x o (a.kp x o h k) k, fun x o h => by
  obtain ⟨o1, h1⟩ := a.th x o h; exact b.th x o1 h1⟩
theorem Ex.weak {M M' : Addr → Prop} {H H' : Hp} (h : ∀ a, M a → M' a) (e : Ex M H H') : Ex M' H H' := ⟨fun a o q k => e.kp a o q fun m => k (h a m), e.th⟩
theorem Ex.new {M : Addr → Prop} {H : Hp} {p : Addr} {o : HO} (h : H p = none) : Ex M H (upd H p o) := ⟨fun a u e _ => by
  rw [upd_ne (ne_of_none e h)]; exact e, fun a u e => ⟨u, by rw [upd_ne (ne_of_none e h)]; exact e⟩⟩
theorem Ex.mut {M : Addr → Prop} {H : Hp} {p : Addr} {o : HO} {xs : List V} (m : M p) (h : H p = some (.lst xs)) : Ex M H (upd H p o) := ⟨fun a u e k => by
  by_cases z : a = p
  · subst z; rw [h] at e; cases e; exact absurd rfl (k m xs)
  · rw [upd_ne z]; exact e, fun a u e => by
  by_cases z : a = p
  · subst z; exact ⟨_, upd_same⟩
  · rw [upd_ne z]; exact ⟨_, e⟩⟩
/-- a change at a place that H does not know -/
theorem Ex.mutN {M : Addr → Prop} {H H' : Hp} {p : Addr} {o : HO} (e : Ex M H H') (h : H p = none) : Ex M H (upd H' p o) := ⟨fun a u q k => by
  rw [upd_ne (ne_of_none q h)]; exact e.kp a u q k, fun a u q => by
  rw [upd_ne (ne_of_none q h)]; exact e.th a u q⟩
theorem Ex.none {M : Addr → Prop} {H H' : Hp} {p : Addr} (e : Ex M H H') (hp : H' p = Option.none) : H p = Option.none := by
  cases q : H p with
  | none => rfl
  | some o =>
    obtain ⟨o', z⟩ := e.th p o q
    rw [hp] at z; cases z

mutual
theorem Rep.mono {M M' : Addr → Prop} {H H' : Hp} (e : Ex M H H') (hM : ∀ a, M a → M' a) : ∀ {v : V} {d : D}, Rep M' H v d → Rep M' H' v d
  | _, _, .non => .non
  | _, _, .bl b => .bl b
  | _, _, .int i => .int i
  | _, _, .str x => .str x
  | _, _, .tup h r => .tup (e.kp _ _ h fun _ xs z => by cases z) (RepAll.mono e hM r)
  | _, _, .lst n h r => .lst n (e.kp _ _ h fun m => absurd (hM _ m) n) (RepAll.mono e hM r)
  | _, _, .dct h => .dct (e.kp _ _ h fun _ xs z => by cases z)
  | _, _, .rg h => .rg (e.kp _ _ h fun _ xs z => by cases z)
  | _, _, .obj h q l r => .obj (e.kp _ _ h fun _ xs z => by cases z) q l (RepAll.mono e hM r)
theorem RepAll.mono {M M' : Addr → Prop} {H H' : Hp} (e : Ex M H H') (hM : ∀ a, M a → M' a) : ∀ {vs : List V} {ds : List D}, RepAll M' H vs ds → RepAll M' H' vs ds
  | _, _, .nil => .nil
  | _, _, .cons r t => .cons (Rep.mono e hM r) (RepAll.mono e hM t)
end
mutual
theorem Rep.less {M M' : Addr → Prop} {H : Hp} (hM : ∀ a, M a → M' a) : ∀ {v : V} {d : D}, Rep M' H v d → Rep M H v d
  | _, _, .non => .non
  | _, _, .bl b => .bl b
  | _, _, .int i => .int i
  | _, _, .str x => .str x
  | _, _, .tup h r => .tup h (RepAll.less hM r)
  | _, _, .lst n h r => .lst (fun m => n (hM _ m)) h (RepAll.less hM r)
  | _, _, .dct h => .dct h
  | _, _, .rg h => .rg h
  | _, _, .obj h q l r => .obj h q l (RepAll.less hM r)
theorem RepAll.less {M M' : Addr → Prop} {H : Hp} (hM : ∀ a, M a → M' a) : ∀ {vs : List V} {ds : List D}, RepAll M' H vs ds → RepAll M H vs ds
  | _, _, .nil => .nil
  | _, _, .cons r t => .cons (Rep.less hM r) (RepAll.less hM t)
end
theorem RepAll.length {M : Addr → Prop} {H : Hp} : ∀ {vs : List V} {ds : List D}, RepAll M H vs ds → vs.length = ds.length
  | _, _, .nil => rfl
  | _, _, .cons _ t => by rw [List.length_cons, List.length_cons, RepAll.length t]
theorem RepAll.get {M : Addr → Prop} {H : Hp} : ∀ {vs : List V} {ds : List D} {i : Nat} {d : D}, RepAll M H vs ds → ds[i]? = some d → ∃ v, vs[i]? = some v ∧ Rep M H v d
  | _, _, _, _, .nil, e => by simp at e
  | _, _, 0, _, .cons r _, e => by simp at e; subst e; exact ⟨_, rfl, r⟩
  | _, _, i + 1, d, .cons _ t, e => by
    obtain ⟨v, h, r⟩ := RepAll.get (i := i) (d := d) t (by simpa using e)
    exact ⟨v, by simpa using h, r⟩
theorem RepAll.getV {M : Addr → Prop} {H : Hp} : ∀ {vs : List V} {ds : List D} {i : Nat} {v : V}, RepAll M H vs ds → vs[i]? = some v → ∃ d, ds[i]? = some d ∧ Rep M H v d
  | _, _, _, _, .nil, e => by simp at e
  | _, _, 0, _, .cons r _, e => by simp at e; subst e; exact ⟨_, rfl, r⟩
  | _, _, i + 1, v, .cons _ t, e => by
    obtain ⟨d, h, r⟩ := RepAll.getV (i := i) (v := v) t (by simpa using e)
    exact ⟨d, by simpa using h, r⟩
theorem RepAll.append {M : Addr → Prop} {H : Hp} : ∀ {vs us : List V} {ds es : List D}, RepAll M H vs ds → RepAll M H us es → RepAll M H (vs ++ us) (ds ++ es)
  | _, _, _, _, .nil, s => s
  | _, _, _, _, .cons r t, s => .cons r (RepAll.append t s)
theorem RepAll.take {M : Addr → Prop} {H : Hp} : ∀ {vs : List V} {ds : List D} (n : Nat), RepAll M H vs ds → RepAll M H (vs.take n) (ds.take n)
  | _, _, 0, _ => .nil
  | _, _, _ + 1, .nil => .nil
  | _, _, n + 1, .cons r t => .cons r (RepAll.take n t)
theorem RepAll.drop {M : Addr → Prop} {H : Hp} : ∀ {vs : List V} {ds : List D} (n : Nat), RepAll M H vs ds → RepAll M H (vs.drop n) (ds.drop n)
  | _, _, 0, r => r
  | _, _, _ + 1, .nil => .nil
  | _, _, n + 1, .cons _ t => RepAll.drop n t
theorem RepAll.set {M : Addr → Prop} {H : Hp} {v : V} {d : D} (r : Rep M H v d) : ∀ {vs : List V} {ds : List D} (i : Nat), RepAll M H vs ds → RepAll M H (vs.set i v) (ds.set i d)
  | _, _, _, .nil => .nil
  | _, _, 0, .cons _ t => .cons r t
  | _, _, i + 1, .cons q t => .cons q (RepAll.set r i t)
theorem RepAll.ints {M : Addr → Prop} {H : Hp} : ∀ {vs : List V} {ns : List Int}, RepAll M H vs (ns.map D.int) → vs = ns.map V.int
  | _, [], .nil => rfl
  | _, _ :: _, .cons r t => by cases r; rw [List.map_cons, RepAll.ints t]
theorem RepAll.of_ints {M : Addr → Prop} {H : Hp} : ∀ (ns : List Int), RepAll M H (ns.map V.int) (ns.map D.int)
  | [] => .nil
  | n :: ns => .cons (.int n) (RepAll.of_ints ns)
theorem RepAll.bls {M : Addr → Prop} {H : Hp} : ∀ {vs : List V} {ns : List Bool}, RepAll M H vs (ns.map D.bl) → vs = ns.map V.bl
  | _, [], .nil => rfl
  | _, _ :: _, .cons r t => by cases r; rw [List.map_cons, RepAll.bls t]

/-- what a slot holds: nothing told, data, a list of the def's own at l, a bare value -/
inductive Ent where
  | no | d (d : D) | own (l : Addr) (ds : List D) | raw (v : V)
def ownOf : Ent → Option Addr
  | .own l _ => some l
  | _ => none
def owned (G : List Ent) : List Addr := G.filterMap ownOf
/-- the world: the places whose lists may change by calls, what always holds of them -/
structure Wd where
  M : Addr → Prop
  inv : Hp → Prop
  lst : ∀ H a, inv H → M a → ∃ xs, H a = some (.lst xs)
  dep : ∀ H H', inv H → (∀ a o, M a → H a = some o → H' a = some o) → inv H'
/-- no place -/
def Wd.none : Wd := ⟨fun _ => False, fun _ => True, fun _ _ _ m => m.elim, fun _ _ _ _ => trivial⟩
def mo (W : Wd) (L : List Addr) : Addr → Prop := fun a => W.M a ∨ a ∈ L
def EntOk (M : Addr → Prop) (H : Hp) : Option V → Ent → Prop
  | _, .no => True
  | x, .d d => ∃ v, x = some v ∧ Rep M H v d
  | x, .own l ds => x = some (.ref l) ∧ ∃ vs, H l = some (.lst vs) ∧ RepAll M H vs ds
  | x, .raw v => x = some v
inductive EntsOk (M : Addr → Prop) (H : Hp) : L2.St → List Ent → Prop
  | nil : EntsOk M H [] []
  | cons {x : Option V} {σ : L2.St} {e : Ent} {G : List Ent} : EntOk M H x e → EntsOk M H σ G → EntsOk M H (x :: σ) (e :: G)
theorem EntOk.mono {M M' : Addr → Prop} {H H' : Hp} {x : Option V} {e : Ent} (ex : Ex M H H') (hM : ∀ a, M a → M' a) (ho : ∀ l, ownOf e = some l → ¬ M l) (h : EntOk M' H x e) : EntOk M' H' x e := by
  cases e with
  | no => trivial
  | d d => obtain ⟨v, q, r⟩ := h; exact ⟨v, q, r.mono ex hM⟩
  | own l ds => obtain ⟨q, vs, e1, r⟩ := h; exact ⟨q, vs, ex.kp _ _ e1 fun m => absurd m (ho l rfl), r.mono ex hM⟩
  | raw v => exact h
theorem owned_cons {e : Ent} {G : List Ent} {l : Addr} (h : ownOf e = some l ∨ l ∈ owned G) : l ∈ owned (e :: G) := by
  unfold owned; rw [List.filterMap_cons]
  rcases h with h | h
  · rw [h]; exact List.mem_cons_self ..
  · cases z : ownOf e with
    | none => exact h
    | some b => exact List.mem_cons_of_mem _ h
theorem EntsOk.mono {M M' : Addr → Prop} {H H' : Hp} (ex : Ex M H H') (hM : ∀ a, M a → M' a) {σ : L2.St} {G : List Ent} (ho : ∀ l ∈ owned G, ¬ M l) (k : EntsOk M' H σ G) : EntsOk M' H' σ G := by
  induction k with
  | nil => exact .nil
  | cons h t ih => exact .cons (h.mono ex hM fun l q => ho l (owned_cons (.inl q))) (ih fun l q => ho l (owned_cons (.inr q)))
theorem EntsOk.length {M : Addr → Prop} {H : Hp} : ∀ {σ : L2.St} {G : List Ent}, EntsOk M H σ G → σ.length = G.length
  | _, _, .nil => rfl
  | _, _, .cons _ t => by rw [List.length_cons, List.length_cons, t.length]
theorem EntsOk.get {M : Addr → Prop} {H : Hp} : ∀ {σ : L2.St} {G : List Ent} {i : Nat} {e : Ent}, EntsOk M H σ G → G[i]? = some e → ∃ x, σ[i]? = some x ∧ EntOk M H x e
  | _, _, _, _, .nil, e => by simp at e
  | _, _, 0, _, .cons r _, e => by simp at e; subst e; exact ⟨_, rfl, r⟩
  | _, _, i + 1, e, .cons _ t, q => by
    obtain ⟨v, h, r⟩ := EntsOk.get (i := i) (e := e) t (by simpa using q)
    exact ⟨v, by simpa using h, r⟩
theorem EntsOk.set {M : Addr → Prop} {H : Hp} {x : Option V} {e : Ent} (r : EntOk M H x e) : ∀ {σ : L2.St} {G : List Ent} (i : Nat), EntsOk M H σ G → EntsOk M H (σ.set i x) (G.set i e)
  | _, _, _, .nil => .nil
  | _, _, 0, .cons _ t => .cons r t
  | _, _, i + 1, .cons q t => .cons q (EntsOk.set r i t)
/-- the state of a def: σ, H are told by G -/
structure Env (W : Wd) (X : List Addr) (H : Hp) (σ : L2.St) (G : List Ent) : Prop where
  ok : EntsOk (mo W (X ++ owned G)) H σ G
  nd : (owned G).Nodup
  ap : ∀ l ∈ owned G, ¬ W.M l ∧ l ∉ X
  xs : ∀ l ∈ X, ¬ W.M l ∧ ∃ o, H l = some o
  inv : W.inv H
theorem Env.mono {W : Wd} {X : List Addr} {H H' : Hp} {σ : L2.St} {G : List Ent} (E : Env W X H σ G) (ex : Ex W.M H H') (inv : W.inv H') : Env W X H' σ G :=
  ⟨E.ok.mono ex (fun _ m => .inl m) fun l h => (E.ap l h).1, E.nd, E.ap, fun l h => ⟨(E.xs l h).1, by obtain ⟨o, q⟩ := (E.xs l h).2; exact ex.th l o q⟩, inv⟩

/-! ### readings of expressions -/
def Ev (W : Wd) (G : List Ent) (te : TE) (K : D → Prop) : Prop := ∀ X σ H, Env W X H σ G → ∀ Q : VK, (∀ d v H', K d → Ex W.M H H' → W.inv H' → Rep (mo W (X ++ owned G)) H' v d → Q v H') → te σ H Q
/-- what may be read as a list: data, or a list of the def's own -/
def RepB (Mw M : Addr → Prop) (H : Hp) (v : V) (d : D) : Prop := Rep M H v d ∨ ∃ a vs ds, v = .ref a ∧ d = .lst ds ∧ ¬ Mw a ∧ H a = some (.lst vs) ∧ RepAll M H vs ds
def EvB (W : Wd) (G : List Ent) (te : TE) (K : D → Prop) : Prop := ∀ X σ H, Env W X H σ G → ∀ Q : VK, (∀ d v H', K d → Ex W.M H H' → W.inv H' → RepB W.M (mo W (X ++ owned G)) H' v d → Q v H') → te σ H Q
def EvT (W : Wd) (G : List Ent) (tt : TT) (K : Bool → Prop) : Prop := ∀ X σ H, Env W X H σ G → ∀ Q : Bool → Hp → Prop, (∀ b H', K b → Ex W.M H H' → W.inv H' → Q b H') → tt σ H Q
def EntV (M : Addr → Prop) (H : Hp) : V → Ent → Prop
  | v, .d d => Rep M H v d
  | v, .raw u => v = u
  | v, .own a ds => v = .ref a ∧ ∃ vs, H a = some (.lst vs) ∧ RepAll M H vs ds
  | _, .no => True
inductive EntVs (M : Addr → Prop) (H : Hp) : List V → List Ent → Prop
  | nil : EntVs M H [] []
  | cons {v : V} {vs : List V} {e : Ent} {es : List Ent} : EntV M H v e → EntVs M H vs es → EntVs M H (v :: vs) (e :: es)
/-- an argument: data or a bare value -/
def EvE (W : Wd) (G : List Ent) (te : TE) (K : Ent → Prop) : Prop := ∀ X σ H, Env W X H σ G → ∀ Q : VK, (∀ e v H', K e → (∀ a ds, e = .own a ds → a ∈ owned G) → Ex W.M H H' → W.inv H' → EntV (mo W (X ++ owned G)) H' v e → Q v H') → te σ H Q
def EvA (W : Wd) (G : List Ent) (ta : TA) (K : List Ent → Prop) : Prop := ∀ X σ H, Env W X H σ G → ∀ Q : List V → Hp → Prop, (∀ es vs H', K es → (∀ a ds, Ent.own a ds ∈ es → a ∈ owned G) → Ex W.M H H' → W.inv H' → EntVs (mo W (X ++ owned G)) H' vs es → Q vs H') → ta σ H Q

section
variable {W : Wd} {G : List Ent} {ta tb te : TE} {t u : TT} {K : D → Prop}
theorem Ev.mono {K' : D → Prop} (h : Ev W G te K) (k : ∀ d, K d → K' d) : Ev W G te K' := fun X σ H E Q q => h X σ H E Q fun d v H' x => q d v H' (k d x)
theorem EvT.mono {K K' : Bool → Prop} (h : EvT W G t K) (k : ∀ d, K d → K' d) : EvT W G t K' := fun X σ H E Q q => h X σ H E Q fun d H' x => q d H' (k d x)
theorem Ev.b (h : Ev W G te K) : EvB W G te K := fun X σ H E Q q => h X σ H E Q fun d v H' k e i r => q d v H' k e i (.inl r)
theorem Ev.e {K : Ent → Prop} (h : Ev W G te fun d => K (.d d)) : EvE W G te K := fun X σ H E Q q => h X σ H E Q fun d v H' k e i r => q (.d d) v H' k (fun _ _ z => nomatch z) e i r
theorem ev_var {i : Nat} {d : D} (h : G[i]? = some (.d d)) (k : K d) : Ev W G (tVar i) K := fun X σ H E Q q => by
  obtain ⟨x, e, r⟩ := E.ok.get h
  obtain ⟨v, rfl, r⟩ := r
  exact ⟨v, e, q d v H k (Ex.refl _ _) E.inv r⟩
theorem mem_owned {i : Nat} {l : Addr} {ds : List D} (h : G[i]? = some (.own l ds)) : l ∈ owned G := by
  unfold owned
  exact List.mem_filterMap.mpr ⟨_, List.mem_of_getElem? h, rfl⟩
theorem evb_own {i : Nat} {l : Addr} {ds : List D} (h : G[i]? = some (.own l ds)) (k : K (.lst ds)) : EvB W G (tVar i) K := fun X σ H E Q q => by
  obtain ⟨x, e, r⟩ := E.ok.get h
  obtain ⟨rfl, vs, e1, r⟩ := r
  exact ⟨_, e, q _ _ H k (Ex.refl _ _) E.inv (.inr ⟨l, vs, ds, rfl, rfl, (E.ap l (mem_owned h)).1, e1, r⟩)⟩
theorem eve_raw {i : Nat} {v : V} {K : Ent → Prop} (h : G[i]? = some (.raw v)) (k : K (.raw v)) : EvE W G (tVar i) K := fun X σ H E Q q => by
  obtain ⟨x, e, r⟩ := E.ok.get h
  cases r
  exact ⟨_, e, q (.raw v) v H k (fun _ _ z => nomatch z) (Ex.refl _ _) E.inv rfl⟩
theorem eve_own {i : Nat} {l : Addr} {ds : List D} {K : Ent → Prop} (h : G[i]? = some (.own l ds)) (k : K (.own l ds)) : EvE W G (tVar i) K := fun X σ H E Q q => by
  obtain ⟨x, e, r⟩ := E.ok.get h
  obtain ⟨rfl, vs, e1, r⟩ := r
  exact ⟨_, e, q (.own l ds) _ H k (fun a ds' z => by cases z; exact mem_owned h) (Ex.refl _ _) E.inv ⟨rfl, vs, e1, r⟩⟩
theorem ev_int {i : Int} (k : K (.int i)) : Ev W G (tC (.int i)) K := fun X σ H E Q q => q _ _ H k (Ex.refl _ _) E.inv (.int i)
theorem ev_bl {b : Bool} (k : K (.bl b)) : Ev W G (tC (.bl b)) K := fun X σ H E Q q => q _ _ H k (Ex.refl _ _) E.inv (.bl b)
theorem ev_str {x : Str} (k : K (.str x)) : Ev W G (tC (.str x)) K := fun X σ H E Q q => q _ _ H k (Ex.refl _ _) E.inv (.str x)
theorem ev_non (k : K .non) : Ev W G (tC .non) K := fun X σ H E Q q => q _ _ H k (Ex.refl _ _) E.inv .non
theorem eve_c {v : V} {K : Ent → Prop} (k : K (.raw v)) : EvE W G (tC v) K := fun X σ H E Q q => q (.raw v) v H k (fun _ _ z => nomatch z) (Ex.refl _ _) E.inv rfl

/-! arguments -/
theorem eva_nil {K : List Ent → Prop} (k : K []) : EvA W G tNil K := fun X σ H E Q q => q [] [] H k (fun _ _ z => nomatch z) (Ex.refl _ _) E.inv .nil
theorem EntV.mono {M M' : Addr → Prop} {H H' : Hp} {v : V} {e : Ent} (ex : Ex M H H') (hM : ∀ a, M a → M' a) (ho : ∀ l ds, e = .own l ds → ¬ M l) (h : EntV M' H v e) : EntV M' H' v e := by
  cases e with
  | no => trivial
  | d d => exact Rep.mono ex hM h
  | own l ds => obtain ⟨q, vs, e1, r⟩ := h; exact ⟨q, vs, ex.kp _ _ e1 fun m => absurd m (ho l ds rfl), r.mono ex hM⟩
  | raw v => exact h
theorem EntVs.mono {M M' : Addr → Prop} {H H' : Hp} (ex : Ex M H H') (hM : ∀ a, M a → M' a) : ∀ {vs : List V} {es : List Ent}, (∀ l ds, Ent.own l ds ∈ es → ¬ M l) → EntVs M' H vs es → EntVs M' H' vs es
  | _, _, _, .nil => .nil
  | _, _, ho, .cons h t => .cons (h.mono ex hM fun l ds q => ho l ds (by rw [q]; exact List.mem_cons_self ..)) (t.mono ex hM fun l ds q => ho l ds (List.mem_cons_of_mem _ q))
theorem eva_cons {tr : TA} {K : List Ent → Prop} (h : EvE W G ta fun e => EvA W G tr fun es => K (e :: es)) : EvA W G (tCons ta tr) K := fun X σ H E Q q =>
  h X σ H E _ fun e v H1 k ho ex i r => k X σ H1 (E.mono ex i) _ fun es vs H2 k2 ho2 ex2 i2 r2 => q (e :: es) (v :: vs) H2 k2 (fun a ds z => by
    rcases List.mem_cons.mp z with z | z
    · exact ho a ds z.symm
    · exact ho2 a ds z) (ex.trans ex2) i2 (.cons (EntV.mono ex2 (fun _ m => .inl m) (fun l ds z => (E.ap l (ho l ds z)).1) r) r2)
/-! operators -/
/-- a two-place operation of data (lists may be the def's own) -/
def OpD (r : R2) (x y : D) (K : D → Prop) : Prop := ∀ (Mw M : Addr → Prop) (v u : V) (H : Hp), RepB Mw M H v x → RepB Mw M H u y → (∀ a, M a → ∃ o, H a = some o) → ∀ Q : VK, (∀ d z H', K d → (∀ M' : Addr → Prop, Ex M' H H') → Rep M H' z d → Q z H') → r v u H Q
/-- a call upon data -/
def CallD (r : List V → Hp → VK → Prop) (es : List Ent) (K : D → Prop) : Prop := ∀ (M : Addr → Prop) (vs : List V) (H : Hp), EntVs M H vs es → (∀ a, M a → ∃ o, H a = some o) → ∀ Q : VK, (∀ d z H', K d → (∀ M' : Addr → Prop, Ex M' H H') → Rep M H' z d → Q z H') → r vs H Q
theorem inv_same {W : Wd} {H H' : Hp} (i : W.inv H) (e : ∀ M : Addr → Prop, Ex M H H') : W.inv H' := W.dep H H' i fun a o _ q => (e fun _ => False).kp a o q fun m => m.elim
theorem mo_there {W : Wd} {H : Hp} {X : List Addr} {σ : L2.St} {G : List Ent} (E : Env W X H σ G) : ∀ a, mo W (X ++ owned G) a → ∃ o, H a = some o := fun a m => by
  rcases m with m | m
  · obtain ⟨xs, e⟩ := W.lst H a E.inv m; exact ⟨_, e⟩
  rcases List.mem_append.mp m with m | m
  · exact (E.xs a m).2
  · unfold owned at m
    obtain ⟨e, he, z⟩ := List.mem_filterMap.mp m
    cases e with
    | own l ds =>
      cases z
      obtain ⟨i, hi⟩ := List.getElem?_of_mem he
      obtain ⟨x, _, r⟩ := E.ok.get hi
      obtain ⟨_, vs, e1, _⟩ := r
      exact ⟨_, e1⟩
    | no => cases z
    | d d => cases z
    | raw v => cases z
theorem RepB.mono {W : Wd} {X : List Addr} {H H' : Hp} {G : List Ent} {v : V} {d : D} (ex : Ex W.M H H') (h : RepB W.M (mo W (X ++ owned G)) H v d) : RepB W.M (mo W (X ++ owned G)) H' v d := by
  rcases h with h | ⟨a, vs, ds, e1, e2, n, e3, r⟩
  · exact .inl (h.mono ex fun _ m => .inl m)
  · exact .inr ⟨a, vs, ds, e1, e2, n, ex.kp a _ e3 fun m => absurd m n, r.mono ex fun _ m => .inl m⟩
theorem ev_opB {r : R2} (h : EvB W G ta fun x => EvB W G tb fun y => OpD r x y K) : Ev W G (tOp r ta tb) K := fun X σ H E Q q =>
  h X σ H E _ fun x v H1 k e1 i1 r1 => k X σ H1 (E.mono e1 i1) _ fun y u H2 k2 e2 i2 r2 => by
    have E2 := (E.mono e1 i1).mono e2 i2
    exact k2 W.M (mo W (X ++ owned G)) v u H2 (r1.mono e2) r2 (mo_there E2) Q fun d z H' k3 ex r3 => q d z H' k3 ((e1.trans e2).trans (ex _)) (inv_same i2 ex) r3
theorem ev_op {r : R2} (h : Ev W G ta fun x => Ev W G tb fun y => OpD r x y K) : Ev W G (tOp r ta tb) K :=
  ev_opB fun X σ H E Q q => h X σ H E _ fun d v H' k => q d v H' (fun X σ H E Q q => k X σ H E _ fun d v H' k e i r => q d v H' k e i (.inl r)) |> fun f e i r => f e i (.inl r)
theorem ev_cb {r : List V → Hp → VK → Prop} {t : TA} (h : EvA W G t fun es => CallD r es K) : Ev W G (tCB r t) K := fun X σ H E Q q =>
  h X σ H E _ fun es vs H1 k ho e1 i1 r1 => k (mo W (X ++ owned G)) vs H1 r1 (mo_there (E.mono e1 i1)) Q fun d z H' k3 ex r3 => q d z H' k3 (e1.trans (ex _)) (inv_same i1 ex) r3
theorem RepB.int {Mw M : Addr → Prop} {H : Hp} {v : V} {i : Int} (h : RepB Mw M H v (.int i)) : v = .int i := by
  rcases h with h | ⟨_, _, _, _, e, _⟩
  · cases h; rfl
  · cases e
theorem RepB.bl {Mw M : Addr → Prop} {H : Hp} {v : V} {i : Bool} (h : RepB Mw M H v (.bl i)) : v = .bl i := by
  rcases h with h | ⟨_, _, _, _, e, _⟩
  · cases h; rfl
  · cases e
theorem RepB.str {Mw M : Addr → Prop} {H : Hp} {v : V} {i : Str} (h : RepB Mw M H v (.str i)) : v = .str i := by
  rcases h with h | ⟨_, _, _, _, e, _⟩
  · cases h; rfl
  · cases e
theorem RepB.non {Mw M : Addr → Prop} {H : Hp} {v : V} (h : RepB Mw M H v .non) : v = .non := by
  rcases h with h | ⟨_, _, _, _, e, _⟩
  · cases h; rfl
  · cases e
theorem RepB.tup {Mw M : Addr → Prop} {H : Hp} {v : V} {ds : List D} (h : RepB Mw M H v (.tup ds)) : ∃ a vs, v = .ref a ∧ H a = some (.tup vs) ∧ RepAll M H vs ds := by
  rcases h with h | ⟨_, _, _, _, e, _⟩
  · cases h with | tup h r => exact ⟨_, _, rfl, h, r⟩
  · cases e
theorem RepB.lst {Mw M : Addr → Prop} {H : Hp} {v : V} {ds : List D} (h : RepB Mw M H v (.lst ds)) : ∃ a vs, v = .ref a ∧ H a = some (.lst vs) ∧ RepAll M H vs ds := by
  rcases h with h | ⟨a, vs, _, rfl, e, _, h, r⟩
  · cases h with | lst n h r => exact ⟨_, _, rfl, h, r⟩
  · cases e; exact ⟨a, vs, rfl, h, r⟩
theorem OpD.int {g : Int → Int → V} {i j : Int} {d : D} (hd : ∀ M H, Rep M H (g i j) d) (k : K d) : OpD (rI0 g) (.int i) (.int j) K := fun Mw M v u H r1 r2 th Q q => by
  rw [r1.int, r2.int]
  exact ⟨i, j, rfl, rfl, q d _ H k (fun _ => Ex.refl _ _) (hd M H)⟩
theorem OpD.intC {C : Int → Int → Prop} {g : Int → Int → V} {i j : Int} {d : D} (hc : C i j) (hd : ∀ M H, Rep M H (g i j) d) (k : K d) : OpD (rI C g) (.int i) (.int j) K := fun Mw M v u H r1 r2 th Q q => by
  rw [r1.int, r2.int]
  exact ⟨i, j, rfl, rfl, hc, q d _ H k (fun _ => Ex.refl _ _) (hd M H)⟩
end
end Pd

namespace Pd
open PySem L2

/-! ### statements -/
structure Ok (W : Wd) (X N : List Addr) (H0 H : Hp) (σ : L2.St) (G : List Ent) : Prop where
  env : Env W X H σ G
  ex : Ex (mo W N) H0 H
  nw : ∀ l ∈ owned G, H0 l = none ∨ l ∈ N
theorem Ex.up {W : Wd} {N : List Addr} {H H' : Hp} (e : Ex W.M H H') : Ex (mo W N) H H' := e.weak fun _ m => .inl m
theorem Ok.mono {W : Wd} {X N : List Addr} {H0 H H' : Hp} {σ : L2.St} {G : List Ent} (o : Ok W X N H0 H σ G) (ex : Ex W.M H H') (inv : W.inv H') : Ok W X N H0 H' σ G :=
  ⟨o.env.mono ex inv, o.ex.trans ex.up, o.nw⟩
theorem Ok.base {W : Wd} {X : List Addr} {H : Hp} {σ : L2.St} {G : List Ent} (e : Env W X H σ G) : Ok W X (owned G) H H σ G := ⟨e, Ex.refl _ _, fun _ h => .inr h⟩
theorem Ok.exb {W : Wd} {X N : List Addr} {H0 H H' : Hp} {σ : L2.St} {G : List Ent} (o : Ok W X N H0 H σ G) (ex : Ex (mo W (owned G)) H H') : Ex (mo W N) H0 H' := ⟨fun a u q k =>
  ex.kp a u (o.ex.kp a u q k) fun m => by
    rcases m with m | m
    · exact k (.inl m)
    · rcases o.nw a m with z | z
      · rw [z] at q; cases q
      · exact k (.inr z), fun a u q => by
  obtain ⟨u1, q1⟩ := o.ex.th a u q
  exact ex.th a u1 q1⟩
theorem Ok.back {W : Wd} {X N : List Addr} {H0 H H' : Hp} {σ σ' : L2.St} {G G' : List Ent} (o : Ok W X N H0 H σ G) (i : Ok W X (owned G) H H' σ' G') : Ok W X N H0 H' σ' G' := by
  refine ⟨i.env, o.exb i.ex, fun l hl => ?_⟩
  rcases i.nw l hl with z | z
  · exact .inl (o.ex.none z)
  · exact o.nw l z
structure Post where
  nx : List Ent → Prop
  rt : D → Prop
  bk : List Ent → Prop := fun _ => False
  ct : List Ent → Prop := fun _ => False
structure Meets (W : Wd) (X N : List Addr) (H0 : Hp) (E : Post) (D : Ends) : Prop where
  nx : ∀ G σ H, E.nx G → Ok W X N H0 H σ G → D.nx σ H
  bk : ∀ G σ H, E.bk G → Ok W X N H0 H σ G → D.bk σ H
  ct : ∀ G σ H, E.ct G → Ok W X N H0 H σ G → D.ct σ H
  rt : ∀ d v H, E.rt d → Ex (mo W N) H0 H → W.inv H → Rep (mo W X) H v d → D.rt v H
def St (W : Wd) (G : List Ent) (ts : TS) (E : Post) : Prop := ∀ X N H0 σ H, Ok W X N H0 H σ G → ∀ D : Ends, Meets W X N H0 E D → ts D σ H

theorem owned_set {G : List Ent} {i : Nat} {e : Ent} (he : ownOf e = none) : (owned (G.set i e)).Sublist (owned G) := by
  induction G generalizing i with
  | nil => simp
  | cons x G ih =>
    cases i with
    | zero =>
      show (List.filterMap ownOf (e :: G)).Sublist (List.filterMap ownOf (x :: G))
      rw [List.filterMap_cons, he, List.filterMap_cons]
      cases ownOf x with
      | none => exact List.Sublist.refl _
      | some b => exact List.sublist_cons_self _ _
    | succ i =>
      show (List.filterMap ownOf (x :: G.set i e)).Sublist (List.filterMap ownOf (x :: G))
      rw [List.filterMap_cons, List.filterMap_cons]
      cases ownOf x with
      | none => exact ih
      | some b => exact List.Sublist.cons₂ b ih
theorem EntOk.less {M M' : Addr → Prop} {H : Hp} {x : Option V} {e : Ent} (hM : ∀ a, M a → M' a) (h : EntOk M' H x e) : EntOk M H x e := by
  cases e with
  | no => trivial
  | d d => obtain ⟨v, q, r⟩ := h; exact ⟨v, q, r.less hM⟩
  | own l ds => obtain ⟨q, vs, e1, r⟩ := h; exact ⟨q, vs, e1, r.less hM⟩
  | raw v => exact h
theorem EntsOk.less {M M' : Addr → Prop} {H : Hp} (hM : ∀ a, M a → M' a) {σ : L2.St} {G : List Ent} (h : EntsOk M' H σ G) : EntsOk M H σ G := by
  induction h with
  | nil => exact .nil
  | cons h t ih => exact .cons (h.less hM) ih
theorem mo_sub {W : Wd} {L L' : List Addr} (h : ∀ a ∈ L, a ∈ L') : ∀ a, mo W L a → mo W L' a := fun a m => m.imp id (h a)
/-- a slot gets data -/
theorem Ok.put {W : Wd} {X N : List Addr} {H0 H : Hp} {σ : L2.St} {G : List Ent} {i : Nat} {d : D} {v : V} (o : Ok W X N H0 H σ G) (r : Rep (mo W (X ++ owned G)) H v d) : Ok W X N H0 H (σ.set i (some v)) (G.set i (.d d)) := by
  have s := owned_set (G := G) (i := i) (e := .d d) rfl
  have sub : ∀ a, mo W (X ++ owned (G.set i (.d d))) a → mo W (X ++ owned G) a := mo_sub (List.append_subset.mpr ⟨List.subset_append_left _ _, fun a h => List.mem_append_right _ (s.subset h)⟩)
  refine ⟨⟨(EntsOk.set (x := some v) (e := .d d) ⟨v, rfl, r⟩ i o.env.ok).less sub, s.nodup o.env.nd, fun l h => o.env.ap l (s.subset h), o.env.xs, o.env.inv⟩, o.ex, fun l h => o.nw l (s.subset h)⟩
theorem Ok.putNo {W : Wd} {X N : List Addr} {H0 H : Hp} {σ : L2.St} {G : List Ent} {i : Nat} {x : Option V} (o : Ok W X N H0 H σ G) : Ok W X N H0 H (σ.set i x) (G.set i .no) := by
  have s := owned_set (G := G) (i := i) (e := .no) rfl
  have sub : ∀ a, mo W (X ++ owned (G.set i .no)) a → mo W (X ++ owned G) a := mo_sub (List.append_subset.mpr ⟨List.subset_append_left _ _, fun a h => List.mem_append_right _ (s.subset h)⟩)
  exact ⟨⟨(EntsOk.set (x := x) (e := .no) trivial i o.env.ok).less sub, s.nodup o.env.nd, fun l h => o.env.ap l (s.subset h), o.env.xs, o.env.inv⟩, o.ex, fun l h => o.nw l (s.subset h)⟩
theorem Ok.putRaw {W : Wd} {X N : List Addr} {H0 H : Hp} {σ : L2.St} {G : List Ent} {i : Nat} {v : V} (o : Ok W X N H0 H σ G) : Ok W X N H0 H (σ.set i (some v)) (G.set i (.raw v)) := by
  have s := owned_set (G := G) (i := i) (e := .raw v) rfl
  have sub : ∀ a, mo W (X ++ owned (G.set i (.raw v))) a → mo W (X ++ owned G) a := mo_sub (List.append_subset.mpr ⟨List.subset_append_left _ _, fun a h => List.mem_append_right _ (s.subset h)⟩)
  exact ⟨⟨(EntsOk.set (x := some v) (e := .raw v) rfl i o.env.ok).less sub, s.nodup o.env.nd, fun l h => o.env.ap l (s.subset h), o.env.xs, o.env.inv⟩, o.ex, fun l h => o.nw l (s.subset h)⟩

section
variable {W : Wd} {G : List Ent} {te ta tb : TE} {tt : TT} {t u : TS} {E : Post}
theorem st_seq (h : St W G t { E with nx := fun G' => St W G' u E }) : St W G (tSeq t u) E := fun X N H0 σ H o D m =>
  h X N H0 σ H o _ ⟨fun G' σ' H' q o' => q X N H0 σ' H' o' D m, m.bk, m.ct, m.rt⟩
theorem st_cut (M : List Ent → Prop) (h : St W G t { E with nx := M }) (k : ∀ G', M G' → St W G' u E) : St W G (tSeq t u) E :=
  st_seq (E := E) fun X N H0 σ H o D m => h X N H0 σ H o D ⟨fun G' σ' H' q o' => m.nx G' σ' H' (k G' q) o', m.bk, m.ct, m.rt⟩
theorem st_next (h : E.nx G) : St W G tNext E := fun X N H0 σ H o D m => m.nx G σ H h o
theorem st_brk (h : E.bk G) : St W G tBreak E := fun X N H0 σ H o D m => m.bk G σ H h o
theorem st_cont (h : E.ct G) : St W G tCont E := fun X N H0 σ H o D m => m.ct G σ H h o
theorem st_asg {i : Nat} (h : Ev W G te fun d => E.nx (G.set i (.d d))) : St W G (tAsg te (gName i)) E := fun X N H0 σ H o D m =>
  h X σ H o.env _ fun d v H' k ex inv r => m.nx _ _ H' k ((o.mono ex inv).put r)
theorem st_asgE {i : Nat} (h : EvE W G te fun e => ∃ v, e = .raw v ∧ E.nx (G.set i (.raw v))) : St W G (tAsg te (gName i)) E := fun X N H0 σ H o D m =>
  h X σ H o.env _ fun e v H' k _ ex inv r => by
    obtain ⟨u, rfl, k⟩ := k
    cases r
    exact m.nx _ _ H' k (o.mono ex inv).putRaw
theorem st_ret (h : Ev W G te E.rt) : St W G (tRet te) E := fun X N H0 σ H o D m =>
  h X σ H o.env _ fun d v H' k ex inv r => m.rt d v H' k (o.ex.trans ex.up) inv (r.less fun _ q => q.imp id fun z => List.mem_append_left _ z)
theorem st_retOwn {i : Nat} {l : Addr} {ds : List D} (h : G[i]? = some (.own l ds)) (k : E.rt (.lst ds)) : St W G (tRet (tVar i)) E := fun X N H0 σ H o D m => by
  obtain ⟨x, e, r⟩ := o.env.ok.get h
  obtain ⟨rfl, vs, e1, r⟩ := r
  exact ⟨_, e, m.rt _ _ H k o.ex o.env.inv (.lst (fun z => z.elim (o.env.ap l (mem_owned h)).1 (o.env.ap l (mem_owned h)).2) e1 (r.less fun _ q => q.imp id fun z => List.mem_append_left _ z))⟩
theorem st_retN (h : E.rt .non) : St W G tRetN E := fun X N H0 σ H o D m => m.rt .non .non H h o.ex o.env.inv .non
theorem st_if (h : EvT W G tt fun b => (b = true → St W G t E) ∧ (b = false → St W G u E)) : St W G (tIfS tt t u) E := fun X N H0 σ H o D m =>
  h X σ H o.env _ fun b H' k ex inv => by
    cases b with
    | true => exact k.1 rfl X N H0 σ H' (o.mono ex inv) D m
    | false => exact k.2 rfl X N H0 σ H' (o.mono ex inv) D m
theorem st_drop (h : Ev W G te fun _ => E.nx G) : St W G (tDrop te) E := fun X N H0 σ H o D m =>
  h X σ H o.env _ fun d v H' k ex inv r => m.nx _ _ H' k (o.mono ex inv)
theorem St.mono {E' : Post} (h : St W G t E) (nx : ∀ G, E.nx G → E'.nx G) (rt : ∀ d, E.rt d → E'.rt d) (bk : ∀ G, E.bk G → E'.bk G) (ct : ∀ G, E.ct G → E'.ct G) : St W G t E' := fun X N H0 σ H o D m =>
  h X N H0 σ H o D ⟨fun G σ H k => m.nx G σ H (nx G k), fun G σ H k => m.bk G σ H (bk G k), fun G σ H k => m.ct G σ H (ct G k), fun d v H k => m.rt d v H (rt d k)⟩
/-- what is told of a slot may be forgotten, an own list frozen -/
theorem Ok.freeze {X N : List Addr} {H0 H : Hp} {σ : L2.St} {i : Nat} {l : Addr} {ds : List D} (o : Ok W X N H0 H σ G) (h : G[i]? = some (.own l ds)) : Ok W X N H0 H σ (G.set i (.d (.lst ds))) := by
  obtain ⟨x, e, r⟩ := o.env.ok.get h
  obtain ⟨rfl, vs, e1, r⟩ := r
  have s := owned_set (G := G) (i := i) (e := .d (.lst ds)) rfl
  have sub : ∀ a, mo W (X ++ owned (G.set i (.d (.lst ds)))) a → mo W (X ++ owned G) a := mo_sub (List.append_subset.mpr ⟨List.subset_append_left _ _, fun a h => List.mem_append_right _ (s.subset h)⟩)
  have nl : l ∉ owned (G.set i (.d (.lst ds))) := by
    have nd := o.env.nd
    clear s sub e o r e1
    induction G generalizing i with
    | nil => simp at h
    | cons x G ih =>
      cases i with
      | zero =>
        have hx : x = .own l ds := by simpa using h
        subst hx
        unfold owned at nd
        rw [List.filterMap_cons] at nd
        have nd2 : (l :: G.filterMap ownOf).Nodup := nd
        have q := (List.nodup_cons.mp nd2).1
        show l ∉ List.filterMap ownOf (Ent.d (.lst ds) :: G)
        rw [List.filterMap_cons]
        exact q
      | succ i =>
        have h' : G[i]? = some (.own l ds) := by simpa using h
        have hm : l ∈ owned G := mem_owned h'
        show l ∉ List.filterMap ownOf (x :: G.set i (.d (.lst ds)))
        unfold owned at nd
        rw [List.filterMap_cons] at nd
        rw [List.filterMap_cons]
        cases hx : ownOf x with
        | none => rw [hx] at nd; exact ih h' nd
        | some b =>
          rw [hx] at nd
          have nd2 : (b :: G.filterMap ownOf).Nodup := nd
          obtain ⟨n1, n2⟩ := List.nodup_cons.mp nd2
          intro z
          rcases List.mem_cons.mp z with z | z
          · subst z; exact n1 hm
          · exact ih h' n2 z
  have en := EntsOk.set (x := some (.ref l)) (e := .d (.lst ds)) (M := mo W (X ++ owned (G.set i (.d (.lst ds))))) (H := H) ⟨_, rfl, .lst (fun m => m.elim (o.env.ap l (mem_owned h)).1 fun z => (List.mem_append.mp z).elim (o.env.ap l (mem_owned h)).2 nl) e1 (r.less sub)⟩ i (o.env.ok.less sub)
  have es : σ.set i (some (.ref l)) = σ := by
    refine List.ext_getElem? fun j => ?_
    by_cases hj : i = j
    · subst hj
      have hl : i < σ.length := (List.getElem?_eq_some_iff.mp e).1
      rw [List.getElem?_set_self hl, e]
    · rw [List.getElem?_set_ne hj]
  rw [es] at en
  exact ⟨⟨en, s.nodup o.env.nd, fun b q => o.env.ap b (s.subset q), o.env.xs, o.env.inv⟩, o.ex, fun b q => o.nw b (s.subset q)⟩
theorem st_freeze (i : Nat) {l : Addr} {ds : List D} (h : G[i]? = some (.own l ds)) (k : St W (G.set i (.d (.lst ds))) t E) : St W G t E := fun X N H0 σ H o D m => k X N H0 σ H (o.freeze h) D m
end

/-! ### new lists -/
/-- a reading that makes a new list -/
def EvL (W : Wd) (G : List Ent) (te : TE) (K : List D → Prop) : Prop := ∀ X σ H, Env W X H σ G → ∀ Q : VK, (∀ ds p vs H', K ds → H p = none → Ex W.M H H' → W.inv H' → H' p = some (.lst vs) → ¬ W.M p → RepAll (fun a => a = p ∨ mo W (X ++ owned G) a) H' vs ds → Q (.ref p) H') → te σ H Q
theorem owned_setOwn {G : List Ent} {i : Nat} {l : Addr} {ds : List D} : ∀ b ∈ owned (G.set i (.own l ds)), b = l ∨ b ∈ owned G := by
  intro b hb
  unfold owned at hb ⊢
  obtain ⟨e, he, z⟩ := List.mem_filterMap.mp hb
  rcases List.mem_or_eq_of_mem_set he with q | q
  · exact .inr (List.mem_filterMap.mpr ⟨e, q, z⟩)
  · subst q; cases z; exact .inl rfl
theorem nodup_setOwn {G : List Ent} {i : Nat} {l : Addr} {ds : List D} (nd : (owned G).Nodup) (nl : l ∉ owned G) : (owned (G.set i (.own l ds))).Nodup := by
  induction G generalizing i with
  | nil => simp [owned]
  | cons x G ih =>
    unfold owned at nd nl
    rw [List.filterMap_cons] at nd nl
    cases i with
    | zero =>
      show (List.filterMap ownOf (Ent.own l ds :: G)).Nodup
      rw [List.filterMap_cons]
      cases hx : ownOf x with
      | none =>
        rw [hx] at nd nl
        exact List.nodup_cons.mpr ⟨nl, nd⟩
      | some b =>
        rw [hx] at nd nl
        have nd2 : (b :: G.filterMap ownOf).Nodup := nd
        exact List.nodup_cons.mpr ⟨fun z => nl (List.mem_cons_of_mem _ z), (List.nodup_cons.mp nd2).2⟩
    | succ i =>
      show (List.filterMap ownOf (x :: G.set i (.own l ds))).Nodup
      rw [List.filterMap_cons]
      cases hx : ownOf x with
      | none => rw [hx] at nd nl; exact ih nd nl
      | some b =>
        rw [hx] at nd nl
        have nd2 : (b :: G.filterMap ownOf).Nodup := nd
        obtain ⟨n1, n2⟩ := List.nodup_cons.mp nd2
        refine List.nodup_cons.mpr ⟨fun z => ?_, ih n2 fun z => nl (List.mem_cons_of_mem _ z)⟩
        rcases owned_setOwn b z with q | q
        · subst q; exact nl (List.mem_cons_self ..)
        · exact n1 q
theorem mutSub {W : Wd} {X : List Addr} {G : List Ent} {i : Nat} {l : Addr} {ds : List D} (a : Addr) (m : mo W (X ++ owned (G.set i (.own l ds))) a) : a = l ∨ mo W (X ++ owned G) a := by
  rcases m with m | m
  · exact .inr (.inl m)
  · rcases List.mem_append.mp m with m | m
    · exact .inr (.inr (List.mem_append_left _ m))
    · rcases owned_setOwn a m with z | z
      · exact .inl z
      · exact .inr (.inr (List.mem_append_right _ z))
mutual
theorem Rep.avoid {M M' : Addr → Prop} {H : Hp} {p : Addr} (hp : ∀ xs, H p ≠ some (.lst xs)) (hM : ∀ a, M' a → a = p ∨ M a) : ∀ {v : V} {d : D}, Rep M H v d → Rep M' H v d
  | _, _, .non => .non
  | _, _, .bl b => .bl b
  | _, _, .int i => .int i
  | _, _, .str x => .str x
  | _, _, .tup h r => .tup h (RepAll.avoid hp hM r)
  | _, _, .lst n h r => .lst (fun m => by
      rcases hM _ m with z | z
      · rw [z] at h; exact hp _ h
      · exact n z) h (RepAll.avoid hp hM r)
  | _, _, .dct h => .dct h
  | _, _, .rg h => .rg h
  | _, _, .obj h q l r => .obj h q l (RepAll.avoid hp hM r)
theorem RepAll.avoid {M M' : Addr → Prop} {H : Hp} {p : Addr} (hp : ∀ xs, H p ≠ some (.lst xs)) (hM : ∀ a, M' a → a = p ∨ M a) : ∀ {vs : List V} {ds : List D}, RepAll M H vs ds → RepAll M' H vs ds
  | _, _, .nil => .nil
  | _, _, .cons r t => .cons (Rep.avoid hp hM r) (RepAll.avoid hp hM t)
end
mutual
/-- behind a change at a place that is avoided -/
theorem Rep.upd' {M M' : Addr → Prop} {H H' : Hp} {p : Addr} (hk : ∀ a o, a ≠ p → H a = some o → H' a = some o) (hp : ∀ o, H p = some o → ∃ xs, o = .lst xs) (hM : ∀ a, M' a → a = p ∨ M a) (ha : M p) : ∀ {v : V} {d : D}, Rep M H v d → Rep M' H' v d
  | _, _, .non => .non
  | _, _, .bl b => .bl b
  | _, _, .int i => .int i
  | _, _, .str x => .str x
  | _, _, .tup h r => .tup (hk _ _ (fun z => by rw [z] at h; obtain ⟨xs, e⟩ := hp _ h; cases e) h) (RepAll.upd' hk hp hM ha r)
  | _, _, .lst n h r => .lst (fun m => by
      rcases hM _ m with z | z
      · rw [z] at n; exact n ha
      · exact n z) (hk _ _ (fun z => by rw [z] at n; exact n ha) h) (RepAll.upd' hk hp hM ha r)
  | _, _, .dct h => .dct (hk _ _ (fun z => by rw [z] at h; obtain ⟨xs, e⟩ := hp _ h; cases e) h)
  | _, _, .rg h => .rg (hk _ _ (fun z => by rw [z] at h; obtain ⟨xs, e⟩ := hp _ h; cases e) h)
  | _, _, .obj h q l r => .obj (hk _ _ (fun z => by rw [z] at h; obtain ⟨xs, e⟩ := hp _ h; cases e) h) q l (RepAll.upd' hk hp hM ha r)
theorem RepAll.upd' {M M' : Addr → Prop} {H H' : Hp} {p : Addr} (hk : ∀ a o, a ≠ p → H a = some o → H' a = some o) (hp : ∀ o, H p = some o → ∃ xs, o = .lst xs) (hM : ∀ a, M' a → a = p ∨ M a) (ha : M p) : ∀ {vs : List V} {ds : List D}, RepAll M H vs ds → RepAll M' H' vs ds
  | _, _, .nil => .nil
  | _, _, .cons r t => .cons (Rep.upd' hk hp hM ha r) (RepAll.upd' hk hp hM ha t)
end
section
variable {W : Wd} {G : List Ent} {te ta tb : TE} {E : Post}
theorem new_ne {H : Hp} {W : Wd} {p : Addr} (i : W.inv H) (h : H p = none) : ¬ W.M p := fun m => by
  obtain ⟨xs, e⟩ := W.lst H p i m
  rw [h] at e; cases e
theorem own_neX {X : List Addr} {H : Hp} {σ : L2.St} {p : Addr} (e : Env W X H σ G) (h : H p = none) : p ∉ X ++ owned G := fun m => by
  obtain ⟨o, q⟩ := mo_there e p (.inr m)
  rw [h] at q; cases q
theorem own_ne {X : List Addr} {H : Hp} {σ : L2.St} {p : Addr} (e : Env W X H σ G) (h : H p = none) : p ∉ owned G := fun m => own_neX e h (List.mem_append_right _ m)
theorem EvL.ev {K : D → Prop} (h : EvL W G te fun ds => K (.lst ds)) : Ev W G te K := fun X σ H E Q q =>
  h X σ H E Q fun ds p vs H' k n ex inv e nm r => q _ _ H' k ex inv (.lst (fun m => m.elim nm (own_neX E n)) e (r.less fun _ m => .inr m))
/-- what is told when all but p is as it was, and p, of the def's own or new, holds other items -/
theorem Ok.putOwn {X N : List Addr} {H0 H : Hp} {σ : L2.St} {i : Nat} {l : Addr} {ds : List D} {vs : List V} (o : Ok W X N H0 H σ G) (hl : H l = some (.lst vs)) (h0 : H0 l = none) (nm : ¬ W.M l) (no : l ∉ X ++ owned G) (nv : EntsOk (fun a => a = l ∨ mo W (X ++ owned G) a) H σ G) (rv : RepAll (fun a => a = l ∨ mo W (X ++ owned G) a) H vs ds) :
    Ok W X N H0 H (σ.set i (some (.ref l))) (G.set i (.own l ds)) := by
  refine ⟨⟨(EntsOk.set (x := some (.ref l)) (e := .own l ds) ⟨rfl, vs, hl, rv⟩ i nv).less fun a m => mutSub a m, nodup_setOwn o.env.nd fun z => no (List.mem_append_right _ z), fun b q => ?_, o.env.xs, o.env.inv⟩, o.ex, fun b q => ?_⟩
  · rcases owned_setOwn b q with z | z
    · subst z; exact ⟨nm, fun z => no (List.mem_append_left _ z)⟩
    · exact o.env.ap b z
  · rcases owned_setOwn b q with z | z
    · subst z; exact .inl h0
    · exact o.nw b z
theorem EntOk.widen {M M' : Addr → Prop} {H H' : Hp} {p : Addr} {x : Option V} {e : Ent} (hp : H p = none) (ex : Ex M H H') (hM : ∀ a, M' a → a = p ∨ M a) (no : ownOf e ≠ some p) (hw : ∀ l, ownOf e = some l → ∀ o, H l = some o → H' l = some o) (h : EntOk M H x e) : EntOk M' H' x e := by
  have nl : ∀ xs, H p ≠ some (.lst xs) := fun xs z => by rw [hp] at z; cases z
  have go : ∀ {v : V} {d : D}, Rep M H v d → Rep M' H' v d := fun r => by
    have r1 : Rep (fun a => a = p ∨ M a) H _ _ := Rep.avoid (p := p) nl (fun a m => m) r
    have ex1 : Ex (fun a => a = p ∨ M a) H H' := ex.weak fun _ m => .inr m
    exact (Rep.mono ex1 (fun _ m => m) r1).less hM
  have goA : ∀ {v : List V} {d : List D}, RepAll M H v d → RepAll M' H' v d := fun r => by
    have r1 : RepAll (fun a => a = p ∨ M a) H _ _ := RepAll.avoid (p := p) nl (fun a m => m) r
    have ex1 : Ex (fun a => a = p ∨ M a) H H' := ex.weak fun _ m => .inr m
    exact (RepAll.mono ex1 (fun _ m => m) r1).less hM
  cases e with
  | no => trivial
  | d d => obtain ⟨v, q, r⟩ := h; exact ⟨v, q, go r⟩
  | own l ds => obtain ⟨q, vs, e1, r⟩ := h; exact ⟨q, vs, hw l rfl _ e1, goA r⟩
  | raw v => exact h
theorem EntsOk.widen {M M' : Addr → Prop} {H H' : Hp} {p : Addr} (hp : H p = none) (ex : Ex M H H') (hM : ∀ a, M' a → a = p ∨ M a) {σ : L2.St} {G : List Ent} (h : EntsOk M H σ G) (no : p ∉ owned G) (hw : ∀ l ∈ owned G, ∀ o, H l = some o → H' l = some o) : EntsOk M' H' σ G := by
  induction h with
  | nil => exact .nil
  | cons h t ih => exact .cons (h.widen hp ex hM (fun q => no (owned_cons (.inl q))) fun l q => hw l (owned_cons (.inl q))) (ih (fun q => no (owned_cons (.inr q))) fun l q => hw l (owned_cons (.inr q)))
theorem Env.keepOwn {X : List Addr} {H H' : Hp} {σ : L2.St} (e : Env W X H σ G) (ex : Ex W.M H H') : ∀ l ∈ owned G, ∀ o, H l = some o → H' l = some o := fun l hl o q => ex.kp l o q fun m => absurd m (e.ap l hl).1
theorem st_own {i : Nat} (h : EvL W G te fun ds => ∀ l, E.nx (G.set i (.own l ds))) : St W G (tAsg te (gName i)) E := fun X N H0 σ H o D m =>
  h X σ H o.env _ fun ds p vs H' k n ex inv e nm r => by
    have o1 := o.mono ex inv
    have h0 : H0 p = none := o.ex.none n
    exact m.nx _ _ H' (k p) (o1.putOwn e h0 nm (own_neX o.env n) (o.env.ok.widen n ex.up (fun a m => m) (own_ne o.env n) (o.env.keepOwn ex)) r)
/-- an own list at l holds other items -/
theorem Ok.change {X N : List Addr} {H0 H : Hp} {σ : L2.St} {i : Nat} {l : Addr} {ds es : List D} {vs us : List V} (o : Ok W X N H0 H σ G) (h : G[i]? = some (.own l ds)) (hl : H l = some (.lst vs)) (r : RepAll (mo W (X ++ owned G)) H us es) :
    Ok W X N H0 (upd H l (.lst us)) σ (G.set i (.own l es)) := by
  have ml := mem_owned h
  have nW := (o.env.ap l ml).1
  have hk : ∀ a u, a ≠ l → H a = some u → (upd H l (.lst us)) a = some u := fun a u z q => by rw [upd_ne z]; exact q
  have hp : ∀ u, H l = some u → ∃ xs, u = .lst xs := fun u q => by rw [hl] at q; cases q; exact ⟨_, rfl⟩
  have hM : ∀ a, mo W (X ++ owned (G.set i (.own l es))) a → a = l ∨ mo W (X ++ owned G) a := fun a m => mutSub a m
  have ow : owned (G.set i (.own l es)) = owned G := by
    have : ∀ (G : List Ent) (i : Nat), G[i]? = some (.own l ds) → owned (G.set i (.own l es)) = owned G := by
      intro G
      induction G with
      | nil => intro i h; simp at h
      | cons x G ih =>
        intro i h
        cases i with
        | zero =>
          have hx : x = .own l ds := by simpa using h
          subst hx; rfl
        | succ i =>
          show List.filterMap ownOf (x :: G.set i (.own l es)) = List.filterMap ownOf (x :: G)
          rw [List.filterMap_cons, List.filterMap_cons]
          have q : List.filterMap ownOf (G.set i (.own l es)) = List.filterMap ownOf G := ih i (by simpa using h)
          rw [q]
    exact this G i h
  have r' : RepAll (mo W (X ++ owned (G.set i (.own l es)))) (upd H l (.lst us)) us es := RepAll.upd' hk hp hM (.inr (List.mem_append_right _ ml)) r
  refine ⟨⟨?_, by rw [ow]; exact o.env.nd, fun b q => o.env.ap b (by rw [ow] at q; exact q), fun b q => ⟨(o.env.xs b q).1, by rw [upd_ne fun z => (o.env.ap l ml).2 (by rw [← z]; exact q)]; exact (o.env.xs b q).2⟩, W.dep H _ o.env.inv fun a u ma q => by
    rw [upd_ne fun z => nW (by rw [← z]; exact ma)]; exact q⟩, ?_, fun b q => o.nw b (by rw [ow] at q; exact q)⟩
  · -- entries
    rw [ow] at r' ⊢
    have step : ∀ {x : Option V} {e : Ent}, ownOf e ≠ some l → EntOk (mo W (X ++ owned G)) H x e → EntOk (mo W (X ++ owned G)) (upd H l (.lst us)) x e := fun {x e} ne h => by
      have hM2 : ∀ a, mo W (X ++ owned G) a → a = l ∨ mo W (X ++ owned G) a := fun a m => .inr m
      cases e with
      | no => trivial
      | d d => obtain ⟨v, q, r⟩ := h; exact ⟨v, q, Rep.upd' hk hp hM2 (.inr (List.mem_append_right _ ml)) r⟩
      | own b ds => obtain ⟨q, vs, e1, r⟩ := h; exact ⟨q, vs, hk b _ (fun z => ne (by rw [z]; rfl)) e1, RepAll.upd' hk hp hM2 (.inr (List.mem_append_right _ ml)) r⟩
      | raw v => exact h
    have stepA : ∀ {σ : L2.St} {G' : List Ent}, l ∉ owned G' → EntsOk (mo W (X ++ owned G)) H σ G' → EntsOk (mo W (X ++ owned G)) (upd H l (.lst us)) σ G' := fun {σ G'} ne h => by
      induction h with
      | nil => exact .nil
      | cons h t ih => exact .cons (step (fun q => ne (owned_cons (.inl q))) h) (ih fun q => ne (owned_cons (.inr q)))
    have main : ∀ {σ : L2.St} {G' : List Ent} {i : Nat}, G'[i]? = some (.own l ds) → (owned G').Nodup → EntsOk (mo W (X ++ owned G)) H σ G' → EntsOk (mo W (X ++ owned G)) (upd H l (.lst us)) σ (G'.set i (.own l es)) := fun {σ G' i} hi nd h => by
      induction h generalizing i with
      | nil => simp at hi
      | @cons x σ e G' h t ih =>
        unfold owned at nd
        rw [List.filterMap_cons] at nd
        cases i with
        | zero =>
          have hx : e = .own l ds := by simpa using hi
          subst hx
          obtain ⟨q, vs', e1, r1⟩ := h
          have nd2 : (l :: G'.filterMap ownOf).Nodup := nd
          exact .cons ⟨q, us, upd_same, r'⟩ (stepA (List.nodup_cons.mp nd2).1 t)
        | succ i =>
          have hi' : G'[i]? = some (.own l ds) := by simpa using hi
          have hm : l ∈ owned G' := mem_owned hi'
          cases hx : ownOf e with
          | none =>
            rw [hx] at nd
            exact .cons (step (by rw [hx]; intro z; cases z) h) (ih hi' nd)
          | some b =>
            rw [hx] at nd
            have nd2 : (b :: G'.filterMap ownOf).Nodup := nd
            obtain ⟨n1, n2⟩ := List.nodup_cons.mp nd2
            exact .cons (step (by rw [hx]; intro z; cases z; exact n1 hm) h) (ih hi' n2)
    exact main h o.env.nd o.env.ok
  · rcases o.nw l ml with z | z
    · exact o.ex.mutN z
    · exact o.ex.trans (Ex.mut (.inr z) hl)
theorem small_len {n : Nat} (h : n < 100000) : n < sizeLine := Nat.lt_of_lt_of_le h (by decide)
theorem small_le {n : Nat} (h : n ≤ 100000) : n ≤ sizeLine := Nat.le_trans h (by decide)
theorem Ok.at {X N : List Addr} {H0 H : Hp} {σ : L2.St} {i : Nat} {l : Addr} {ds : List D} (o : Ok W X N H0 H σ G) (h : G[i]? = some (.own l ds)) : σ[i]? = some (some (.ref l)) ∧ ∃ vs, H l = some (.lst vs) ∧ RepAll (mo W (X ++ owned G)) H vs ds := by
  obtain ⟨x, e, r⟩ := o.env.ok.get h
  obtain ⟨rfl, q⟩ := r
  exact ⟨e, q⟩
theorem st_app {K : PySem.W.Frag} {i : Nat} {l : Addr} {ds : List D} (h : G[i]? = some (.own l ds)) (hl : ds.length < 100000) (k : Ev W G te fun d => E.nx (G.set i (.own l (ds ++ [d])))) :
    St W G (tDrop (tBM K "list" rAppend (tVar i) (tCons te tNil))) E := fun X N H0 σ H o D m => by
  obtain ⟨e, vs, e1, r⟩ := o.at h
  refine ⟨_, e, .inl ⟨rfl, _, SqL.of e1⟩, k X σ H o.env _ fun d v H' k' ex inv rd => ?_⟩
  have o1 := o.mono ex inv
  obtain ⟨_, vs', e1', r'⟩ := o1.at h
  refine ⟨l, vs', v, rfl, rfl, e1', small_len (by rw [r'.length]; exact hl), ?_⟩
  exact m.nx _ _ _ k' (o1.change h e1' (r'.append (.cons rd .nil)))
theorem st_setItem {i : Nat} {l : Addr} {ds : List D} {ti : TE} (h : G[i]? = some (.own l ds)) (k : Ev W G te fun d => Ev W G ti fun x => ∃ j : Nat, x = .int (j : Int) ∧ j < ds.length ∧ E.nx (G.set i (.own l (ds.set j d)))) :
    St W G (tAsg te (gSub (tVar i) ti rSetL)) E := fun X N H0 σ H o D m => by
  refine k X σ H o.env _ fun d v H' k' ex inv rd => ?_
  have o1 := o.mono ex inv
  obtain ⟨e, vs, e1, r⟩ := o1.at h
  refine ⟨_, e, k' X σ H' o1.env _ fun x u H2 k2 ex2 inv2 ru => ?_⟩
  obtain ⟨j, rfl, hj, k2⟩ := k2
  cases ru
  have o2 := o1.mono ex2 inv2
  obtain ⟨_, vs', e1', r'⟩ := o2.at h
  refine ⟨l, vs', (j : Int), j, rfl, rfl, e1', ?_, m.nx _ _ _ k2 (o2.change h e1' (RepAll.set (rd.mono ex2 fun _ m => .inl m) j r'))⟩
  unfold ixN
  rw [if_pos (by omega), if_pos (by rw [r'.length]; omega)]
  simp

/-! ### loops -/
mutual
theorem Rep.carry {M M' : Addr → Prop} {H H' : Hp} (e : Ex M H H') (hM : ∀ a, M' a → M a ∨ H a = none) : ∀ {v : V} {d : D}, Rep M H v d → Rep M' H' v d
  | _, _, .non => .non
  | _, _, .bl b => .bl b
  | _, _, .int i => .int i
  | _, _, .str x => .str x
  | _, _, .tup h r => .tup (e.kp _ _ h fun _ xs z => by cases z) (RepAll.carry e hM r)
  | _, _, .lst n h r => .lst (fun m => (hM _ m).elim n fun z => by rw [z] at h; cases h) (e.kp _ _ h fun m => absurd m n) (RepAll.carry e hM r)
  | _, _, .dct h => .dct (e.kp _ _ h fun _ xs z => by cases z)
  | _, _, .rg h => .rg (e.kp _ _ h fun _ xs z => by cases z)
  | _, _, .obj h q l r => .obj (e.kp _ _ h fun _ xs z => by cases z) q l (RepAll.carry e hM r)
theorem RepAll.carry {M M' : Addr → Prop} {H H' : Hp} (e : Ex M H H') (hM : ∀ a, M' a → M a ∨ H a = none) : ∀ {vs : List V} {ds : List D}, RepAll M H vs ds → RepAll M' H' vs ds
  | _, _, .nil => .nil
  | _, _, .cons r t => .cons (Rep.carry e hM r) (RepAll.carry e hM t)
end
theorem Ok.sub {X N : List Addr} {H0 H : Hp} {σ : L2.St} (o : Ok W X N H0 H σ G) : ∀ a, mo W (X ++ owned G) a → mo W (X ++ N) a ∨ H0 a = none := fun a m => by
  rcases m with m | m
  · exact .inl (.inl m)
  · rcases List.mem_append.mp m with m | m
    · exact .inl (.inr (List.mem_append_left _ m))
    · exact (o.nw a m).elim .inr fun z => .inl (.inr (List.mem_append_right _ z))
theorem Meets.re {X N : List Addr} {H0 H : Hp} {σ : L2.St} {D : Ends} {nx' : L2.St → Hp → Prop} {I : List Ent → Prop} (m : Meets W X N H0 E D) (o : Ok W X N H0 H σ G)
    (hn : ∀ G' σ' H', I G' → Ok W X (owned G) H H' σ' G' → nx' σ' H') : Meets W X (owned G) H { E with nx := I, ct := I, bk := E.nx } { D with nx := nx', ct := nx', bk := D.nx } where
  nx := fun G' σ' H' k o' => hn G' σ' H' k o'
  bk := fun G' σ' H' k o' => m.nx G' σ' H' k (o.back o')
  ct := fun G' σ' H' k o' => hn G' σ' H' k o'
  rt := fun d v H' k ex inv r => m.rt d v H' k (o.exb ex) inv r
/-- a target -/
def Tg (W : Wd) (G : List Ent) (g : TG) (d : D) (K : List Ent → Prop) : Prop := ∀ X N H0 σ H v, Ok W X N H0 H σ G → Rep (mo W (X ++ owned G)) H v d → ∀ Q : L2.St → Hp → Prop, (∀ G' σ', K G' → Ok W X N H0 H σ' G' → Q σ' H) → g v σ H Q
theorem tg_name {i : Nat} {d : D} {K : List Ent → Prop} (k : K (G.set i (.d d))) : Tg W G (gName i) d K := fun X N H0 σ H v o r Q q => q _ _ k (o.put r)
theorem tg_tup2 {K : PySem.W.Frag} {i j : Nat} {x y : D} {KK : List Ent → Prop} (k : KK ((G.set i (.d x)).set j (.d y))) : Tg W G (gTup K 2 (gCons (gName i) (gCons (gName j) gNil))) (.tup [x, y]) KK := fun X N H0 σ H v o r Q q => by
  cases r with
  | tup h r =>
    cases r with
    | cons rx r =>
      cases r with
      | cons ry r =>
        cases r
        have o1 := o.put (i := i) rx
        have s := owned_set (G := G) (i := i) (e := .d x) rfl
        have ry' : Rep (mo W (X ++ owned (G.set i (.d x)))) H _ y := ry.less (mo_sub (List.append_subset.mpr ⟨List.subset_append_left _ _, fun a h => List.mem_append_right _ (s.subset h)⟩))
        exact ⟨_, _, rfl, .inl (.inl h), rfl, _, _, rfl, _, _, rfl, rfl, q _ _ k (o1.put ry')⟩
end
end Pd

namespace Pd
open PySem L2 RZ
/-! ### what is walked -/
def EvI (W : Wd) (G : List Ent) (wi : TI) (K : List D → Prop) : Prop := ∀ X σ H, Env W X H σ G → ∀ R : It → Hp → Prop,
  (∀ ds J H' Gd Y, K ds → Ex W.M H H' → W.inv H' → Walk J ds.length Gd Y → (∀ H2, Ex (mo W (owned G)) H' H2 → Gd H2) →
    (∀ i H2 x H3, Ex (mo W (owned G)) H' H2 → i < ds.length → Y i H2 x H3 → (∀ M : Addr → Prop, Ex M H2 H3) ∧ ∃ d, ds[i]? = some d ∧ ∀ M' : Addr → Prop, (∀ a, M' a → mo W (X ++ owned G) a ∨ H' a = none) → Rep M' H3 x d) → R J H') → wi σ H R
section
variable {W : Wd} {G : List Ent} {te ta tb tl : TE} {E : Post} {K : PySem.W.Frag} {KK : List D → Prop}
theorem evi_tup (h : Ev W G tl fun x => ∃ ds, x = .tup ds ∧ KK ds) : EvI W G (iTup K tl) KK := fun X σ H E R q =>
  h X σ H E _ fun x v H' k ex inv r => by
    obtain ⟨ds, rfl, k⟩ := k
    cases r with
    | @tup a vs _ ha r =>
      refine ⟨a, rfl, ⟨vs, .inl (.inl ha)⟩, q ds (Itt K a) H' (fun H2 => SqT K H2 a vs) (YAt vs) k ex inv (by rw [← r.length]; exact walk_tup) (fun H2 e2 => .inl (.inl (e2.kp _ _ ha fun _ xs z => by cases z))) fun i H2 x H3 e2 _ y => ?_⟩
      obtain ⟨rfl, y⟩ := y
      obtain ⟨d, hd, rd⟩ := r.getV y
      exact ⟨fun _ => Ex.refl _ _, d, hd, fun M' hM => rd.carry (e2.weak (mo_sub (List.subset_append_right X _))) hM⟩
theorem evi_lst (h : Ev W G tl fun x => ∃ ds, x = .lst ds ∧ KK ds) : EvI W G (iList K tl) KK := fun X σ H E R q =>
  h X σ H E _ fun x v H' k ex inv r => by
    obtain ⟨ds, rfl, k⟩ := k
    cases r with
    | @lst a vs _ nm ha r =>
      refine ⟨a, rfl, ⟨vs, .inl (.inl ha)⟩, q ds (Itl K a) H' (fun H2 => SqL K H2 a vs) (YAt vs) k ex inv (by rw [← r.length]; exact walk_list) (fun H2 e2 => .inl (.inl (e2.kp _ _ ha fun m => absurd (mo_sub (List.subset_append_right X _) _ m) nm))) fun i H2 x H3 e2 _ y => ?_⟩
      obtain ⟨rfl, y⟩ := y
      obtain ⟨d, hd, rd⟩ := r.getV y
      exact ⟨fun _ => Ex.refl _ _, d, hd, fun M' hM => rd.carry (e2.weak (mo_sub (List.subset_append_right X _))) hM⟩
def intsUp (lo : Int) (n : Nat) : List D := (List.range n).map fun i => D.int (lo + (i : Nat))
theorem intsUp_len (lo : Int) (n : Nat) : (intsUp lo n).length = n := by unfold intsUp; rw [List.length_map, List.length_range]
theorem intsUp_get {lo : Int} {n i : Nat} (h : i < n) : (intsUp lo n)[i]? = some (.int (lo + (i : Nat))) := by
  unfold intsUp; rw [List.getElem?_map, List.getElem?_range h]; rfl
theorem intsUp_of {lo : Int} {n i : Nat} {d : D} (h : (intsUp lo n)[i]? = some d) : i < n ∧ d = .int (lo + (i : Nat)) := by
  have hi : i < (intsUp lo n).length := (List.getElem?_eq_some_iff.mp h).1
  rw [intsUp_len] at hi
  rw [intsUp_get hi] at h
  exact ⟨hi, (Option.some.inj h).symm⟩
theorem evi_rng1 (h : Ev W G tl fun x => ∃ n : Int, x = .int n ∧ n < 2 ^ 62 ∧ -(2 ^ 62) ≤ n ∧ KK (intsUp 0 n.toNat)) : EvI W G (iRng1 (tCons tl tNil)) KK := fun X σ H E R q =>
  h X σ H E _ fun x v H' k ex inv r => by
    obtain ⟨n, rfl, h1, h2, k⟩ := k
    cases r
    refine ⟨n, rfl, h2, h1, q _ (Itr 0 n.toNat) H' (fun _ => True) (YFn fun i => .int (0 + (i : Nat))) k ex inv (by rw [intsUp_len]; exact walk_range) (fun _ _ => trivial) fun i H2 x H3 e2 hi y => ?_⟩
    obtain ⟨rfl, rfl⟩ := y
    rw [intsUp_len] at hi
    exact ⟨fun _ => Ex.refl _ _, _, intsUp_get hi, fun _ _ => .int _⟩
theorem evi_rng2 (h : Ev W G ta fun x => Ev W G tb fun y => ∃ a b : Int, x = .int a ∧ y = .int b ∧ -(2 ^ 62) ≤ a ∧ a < 2 ^ 62 ∧ -(2 ^ 62) ≤ b ∧ b < 2 ^ 62 ∧ KK (intsUp a (b - a).toNat)) : EvI W G (iRng2 (tCons ta (tCons tb tNil))) KK := fun X σ H E R q =>
  h X σ H E _ fun x v H1 k ex inv r => k X σ H1 (E.mono ex inv) _ fun y u H' k ex2 inv2 r2 => by
    obtain ⟨a, b, rfl, rfl, h1, h2, h3, h4, k⟩ := k
    cases r; cases r2
    refine ⟨a, b, rfl, ⟨h1, h2, h3, h4⟩, q _ (Itr a (b - a).toNat) H' (fun _ => True) (YFn fun i => .int (a + (i : Nat))) k (ex.trans ex2) inv2 (by rw [intsUp_len]; exact walk_range) (fun _ _ => trivial) fun i H2 x H3 e2 hi y => ?_⟩
    obtain ⟨rfl, rfl⟩ := y
    rw [intsUp_len] at hi
    exact ⟨fun _ => Ex.refl _ _, _, intsUp_get hi, fun _ _ => .int _⟩
def pairsOf : List D → List D → List D
  | x :: xs, y :: ys => .tup [x, y] :: pairsOf xs ys
  | _, _ => []
theorem pairsOf_len : ∀ xs ys : List D, (pairsOf xs ys).length = min xs.length ys.length
  | [], ys => by simp [pairsOf]
  | _ :: _, [] => by simp [pairsOf]
  | x :: xs, y :: ys => by
    have := pairsOf_len xs ys
    simp only [pairsOf, List.length_cons, this]; omega
theorem pairsOf_get : ∀ {xs ys : List D} {i : Nat} {x y : D}, xs[i]? = some x → ys[i]? = some y → (pairsOf xs ys)[i]? = some (.tup [x, y])
  | [], _, _, _, _, h, _ => by simp at h
  | _ :: _, [], _, _, _, _, h => by simp at h
  | a :: xs, b :: ys, 0, x, y, h, h2 => by
    simp at h h2; subst h h2; rfl
  | a :: xs, b :: ys, i + 1, x, y, h, h2 => by
    show (pairsOf xs ys)[i]? = _
    exact pairsOf_get (by simpa using h) (by simpa using h2)
theorem pairsOf_of : ∀ {xs ys : List D} {i : Nat} {d : D}, (pairsOf xs ys)[i]? = some d → ∃ x y, xs[i]? = some x ∧ ys[i]? = some y ∧ d = .tup [x, y]
  | [], _, _, _, h => by simp [pairsOf] at h
  | _ :: _, [], _, _, h => by simp [pairsOf] at h
  | a :: xs, b :: ys, 0, d, h => by
    have e : D.tup [a, b] = d := by simpa [pairsOf] using h
    exact ⟨a, b, rfl, rfl, e.symm⟩
  | a :: xs, b :: ys, i + 1, d, h => by
    have h' : (pairsOf xs ys)[i]? = some d := by simpa [pairsOf] using h
    obtain ⟨x, y, h1, h2, h3⟩ := pairsOf_of h'
    exact ⟨x, y, by simpa using h1, by simpa using h2, h3⟩
theorem pair_rep {M M' : Addr → Prop} {H H2 H3 : Hp} {T : Addr} {x y : V} {dx dy : D} (e2 : Ex M H H2) (nT : H2 T = none) (eH : H3 = upd H2 T (.tup [x, y])) (hM : ∀ a, M' a → M a ∨ H a = none) (rx : Rep M H x dx) (ry : Rep M H y dy) : Rep M' H3 (.ref T) (.tup [dx, dy]) := by
  subst eH
  have e3 : Ex M H (upd H2 T (.tup [x, y])) := e2.trans (Ex.new nT)
  exact .tup upd_same (.cons (rx.carry e3 hM) (.cons (ry.carry e3 hM) .nil))
theorem evi_zipL (h : Ev W G ta fun x => Ev W G tb fun y => ∃ xs ys, x = .lst xs ∧ y = .lst ys ∧ KK (pairsOf xs ys)) : EvI W G (iZipA K (tCons ta (tCons tb tNil))) KK := fun X σ H E R q =>
  h X σ H E _ fun x v H1 k ex inv r => k X σ H1 (E.mono ex inv) _ fun y u H' k ex2 inv2 r2 => by
    obtain ⟨xs, ys, rfl, rfl, k⟩ := k
    have r := r.mono ex2 fun _ m => .inl m
    cases r with
    | @lst a vs _ na ha r =>
      cases r2 with
      | @lst b us _ nb hb r2 =>
        refine ⟨a, b, vs, us, rfl, .inl ⟨.inl (.inl ha), .inl (.inl hb), q _ (Itz K a b) H' (fun H2 => SqL K H2 a vs ∧ SqL K H2 b us) (YPair (fun i => vs[i]?) (fun i => us[i]?)) k (ex.trans ex2) inv2 (walk_zip (by rw [pairsOf_len, r.length, r2.length])) (fun H2 e2 => ⟨.inl (.inl (e2.kp _ _ ha fun m => absurd (mo_sub (List.subset_append_right X _) _ m) na)), .inl (.inl (e2.kp _ _ hb fun m => absurd (mo_sub (List.subset_append_right X _) _ m) nb))⟩) fun i H2 z H3 e2 hi y => ?_⟩⟩
        obtain ⟨T, x, y, rfl, nT, eH, hx, hy⟩ := y
        obtain ⟨dx, hdx, rx⟩ := r.getV hx
        obtain ⟨dy, hdy, ry⟩ := r2.getV hy
        exact ⟨fun _ => by rw [eH]; exact Ex.new nT, _, pairsOf_get hdx hdy, fun M' hM => pair_rep (e2.weak (mo_sub (List.subset_append_right X _))) nT eH hM rx ry⟩
theorem walk_zipT {a b : Addr} {xs ys : List V} {n : Nat} (hn : n = min xs.length ys.length) : Walk (ItzT K a b) n (fun H => SqT K H a xs ∧ SqT K H b ys) (YPair (fun i => xs[i]?) (fun i => ys[i]?)) := by
  subst hn
  refine ⟨fun i _ hi q => ?_, fun _ q => ⟨xs, ys, q.1, q.2, by omega⟩, fun i H v H' _ q y => ?_⟩
  · have h1 : i < xs.length := by omega
    have h2 : i < ys.length := by omega
    exact ⟨xs, ys, xs[i], ys[i], q.1, q.2, by simp [h1], by simp [h2]⟩
  · obtain ⟨T, x, z, h1, h2, h3, h4, h5⟩ := y
    exact ⟨T, x, z, h1, h2, h3, h4 xs q.1, h5 ys q.2⟩
theorem evi_zipT (h : Ev W G ta fun x => Ev W G tb fun y => ∃ xs ys, x = .tup xs ∧ y = .tup ys ∧ KK (pairsOf xs ys)) : EvI W G (iZipA K (tCons ta (tCons tb tNil))) KK := fun X σ H E R q =>
  h X σ H E _ fun x v H1 k ex inv r => k X σ H1 (E.mono ex inv) _ fun y u H' k ex2 inv2 r2 => by
    obtain ⟨xs, ys, rfl, rfl, k⟩ := k
    have r := r.mono ex2 fun _ m => .inl m
    cases r with
    | @tup a vs _ ha r =>
      cases r2 with
      | @tup b us _ hb r2 =>
        refine ⟨a, b, vs, us, rfl, .inr ⟨.inl (.inl ha), .inl (.inl hb), q _ (ItzT K a b) H' (fun H2 => SqT K H2 a vs ∧ SqT K H2 b us) (YPair (fun i => vs[i]?) (fun i => us[i]?)) k (ex.trans ex2) inv2 (walk_zipT (by rw [pairsOf_len, r.length, r2.length])) (fun H2 e2 => ⟨.inl (.inl (e2.kp _ _ ha fun _ xs z => by cases z)), .inl (.inl (e2.kp _ _ hb fun _ xs z => by cases z))⟩) fun i H2 z H3 e2 hi y => ?_⟩⟩
        obtain ⟨T, x, y, rfl, nT, eH, hx, hy⟩ := y
        obtain ⟨dx, hdx, rx⟩ := r.getV hx
        obtain ⟨dy, hdy, ry⟩ := r2.getV hy
        exact ⟨fun _ => by rw [eH]; exact Ex.new nT, _, pairsOf_get hdx hdy, fun M' hM => pair_rep (e2.weak (mo_sub (List.subset_append_right X _))) nT eH hM rx ry⟩
theorem evi_enumL (h : Ev W G ta fun x => ∃ xs, x = .lst xs ∧ KK (pairsOf (intsUp 0 xs.length) xs)) : EvI W G (iEnum K (tCons ta tNil)) KK := fun X σ H E R q =>
  h X σ H E _ fun x v H' k ex inv r => by
    obtain ⟨xs, rfl, k⟩ := k
    cases r with
    | @lst a vs _ na ha r =>
      have hl : (pairsOf (intsUp 0 xs.length) xs).length = vs.length := by rw [pairsOf_len, intsUp_len, Nat.min_self, r.length]
      refine ⟨a, vs, rfl, .inl (.inl ha), q _ (Ite K a) H' (fun H2 => SqL K H2 a vs) (YPair (fun i => some (.int (i : Nat))) (fun i => vs[i]?)) k ex inv (by rw [hl]; exact walk_enum) (fun H2 e2 => .inl (.inl (e2.kp _ _ ha fun m => absurd (mo_sub (List.subset_append_right X _) _ m) na))) fun i H2 z H3 e2 hi y => ?_⟩
      obtain ⟨T, x, y, rfl, nT, eH, hx, hy⟩ := y
      obtain ⟨dy, hdy, ry⟩ := r.getV hy
      cases hx
      rw [hl, r.length] at hi
      have e0 : (0 : Int) + (i : Nat) = ((i : Nat) : Int) := Int.zero_add _
      exact ⟨fun _ => by rw [eH]; exact Ex.new nT, _, pairsOf_get (intsUp_get hi) hdy, fun M' hM => pair_rep (e2.weak (mo_sub (List.subset_append_right X _))) nT eH hM (by rw [e0]; exact .int _) ry⟩

/-! ### for, comprehensions -/
theorem st_for {wi : TI} {g : TG} {tb : TS} (h : EvI W G wi fun ds => ∃ I : Nat → List Ent → Prop, I 0 G ∧ (∀ i d G', ds[i]? = some d → I i G' → Tg W G' g d fun G2 => St W G2 tb { E with nx := I (i + 1), ct := I (i + 1), bk := E.nx }) ∧ ∀ G', I ds.length G' → E.nx G') :
    St W G (tFor wi g tb) E := fun X N H0 σ H o D m =>
  h X σ H o.env _ fun ds J H' Gd Y k ex inv wk st it => by
    obtain ⟨I, i0, hs, hd⟩ := k
    have o1 := o.mono ex inv
    refine for_it wk (fun i σ' H2 => ∃ G', I i G' ∧ Ok W X (owned G) H' H2 σ' G') ⟨G, i0, Ok.base o1.env⟩ (fun i σ' H2 _ ⟨G', _, o2⟩ => st H2 o2.ex) ?_ ?_
    · rintro i x σ' H2 H3 hi ⟨G', iG, o2⟩ y
      obtain ⟨ex3, d, hd', rd⟩ := it i H2 x H3 o2.ex hi y
      have o3 : Ok W X (owned G) H' H3 σ' G' := o2.mono (ex3 _) (inv_same o2.env.inv ex3)
      refine hs i d G' hd' iG X (owned G) H' σ' H3 x o3 (rd _ o2.sub) _ fun G3 σ3 k3 o3 => ?_
      exact k3 X (owned G) H' σ3 H3 o3 _ (m.re o1 fun G4 σ4 H4 i4 o4 => ⟨G4, i4, o4⟩)
    · rintro σ' H2 ⟨G', iG, o2⟩
      exact m.nx _ _ _ (hd G' iG) (o1.back o2)
/-- entries whose slots are wiped -/
def wipeG (G : List Ent) : List Nat → List Ent
  | [] => G
  | v :: vs => (wipeG G vs).set v .no
theorem Ok.wipe {X N : List Addr} {H0 H : Hp} {σ : L2.St} (o : Ok W X N H0 H σ G) : ∀ vs : List Nat, Ok W X N H0 H (L2.wipe σ vs) (wipeG G vs)
  | [] => o
  | v :: vs => by
    show Ok W X N H0 H ((L2.wipe σ vs).set v none) ((wipeG G vs).set v .no)
    exact (Ok.wipe o vs).putNo
theorem wipe_get (vs : List Nat) : ∀ (σ : L2.St) (i : Nat), (L2.wipe σ vs)[i]? = if i ∈ vs ∧ i < σ.length then some none else σ[i]? := by
  induction vs with
  | nil => intro σ i; simp [L2.wipe]
  | cons v vs ih =>
    intro σ i
    show ((L2.wipe σ vs).set v none)[i]? = _
    by_cases hv : v = i
    · subst hv
      rw [List.getElem?_set, if_pos rfl, L2.wipe_length]
      by_cases hl : v < σ.length
      · rw [if_pos hl, if_pos ⟨List.mem_cons_self .., hl⟩]
      · rw [if_neg hl, if_neg fun z => hl z.2, List.getElem?_eq_none_iff.mpr (by omega)]
    · rw [List.getElem?_set_ne hv, ih σ i]
      have e : (i ∈ v :: vs) ↔ (i ∈ vs) := ⟨fun z => (List.mem_cons.mp z).resolve_left fun q => hv q.symm, fun z => List.mem_cons_of_mem _ z⟩
      simp only [e]
theorem wipe_eq {vs : List Nat} {σ τ : L2.St} (hl : σ.length = τ.length) (h : ∀ i, i ∉ vs → σ[i]? = τ[i]?) : L2.wipe σ vs = L2.wipe τ vs := by
  refine List.ext_getElem? fun i => ?_
  rw [wipe_get, wipe_get, hl]
  by_cases hi : i ∈ vs
  · by_cases hz : i < τ.length
    · rw [if_pos ⟨hi, hz⟩, if_pos ⟨hi, hz⟩]
    · rw [if_neg fun z => hz z.2, if_neg fun z => hz z.2, List.getElem?_eq_none_iff.mpr (by omega), List.getElem?_eq_none_iff.mpr (by omega)]
  · rw [if_neg fun z => hi z.1, if_neg fun z => hi z.1, h i hi]
theorem wipe_idem {vs : List Nat} {σ : L2.St} : L2.wipe (L2.wipe σ vs) vs = L2.wipe σ vs := wipe_eq (L2.wipe_length _ _) fun i hi => by
  rw [wipe_get, if_neg fun z => hi z.1]
theorem wipe_set {vs : List Nat} {σ : L2.St} {j : Nat} {x : Option V} (hj : j ∈ vs) : L2.wipe ((L2.wipe σ vs).set j x) vs = L2.wipe σ vs :=
  (wipe_eq (by simp) fun i hi => List.getElem?_set_ne fun z => hi (by rw [← z]; exact hj)).trans wipe_idem
/-- targets of a comprehension: they change nothing but their own slots -/
def TgC (W : Wd) (G : List Ent) (g : TG) (vs : List Nat) (d : D) (K : List Ent → Prop) : Prop := ∀ X N H0 σ H v, Ok W X N H0 H (L2.wipe σ vs) G → Rep (mo W (X ++ owned G)) H v d → ∀ Q : L2.St → Hp → Prop, (∀ G' σ', K G' → L2.wipe σ' vs = L2.wipe σ vs → Ok W X N H0 H σ' G' → Q σ' H) → g v (L2.wipe σ vs) H Q
theorem tgc_name {vs : List Nat} {i : Nat} {d : D} {K : List Ent → Prop} (hi : i ∈ vs) (k : K (G.set i (.d d))) : TgC W G (gName i) vs d K := fun X N H0 σ H v o r Q q => q _ _ k (wipe_set hi) (o.put r)
theorem wipe_set2 {vs : List Nat} {σ : L2.St} {i j : Nat} {x y : Option V} (hi : i ∈ vs) (hj : j ∈ vs) : L2.wipe (((L2.wipe σ vs).set i x).set j y) vs = L2.wipe σ vs :=
  (wipe_eq (by simp) fun k hk => by rw [List.getElem?_set_ne fun z => hk (by rw [← z]; exact hj), List.getElem?_set_ne fun z => hk (by rw [← z]; exact hi)]).trans wipe_idem
theorem tgc_tup2 {K : PySem.W.Frag} {vs : List Nat} {i j : Nat} {x y : D} {KK : List Ent → Prop} (hi : i ∈ vs) (hj : j ∈ vs) (k : KK ((G.set i (.d x)).set j (.d y))) : TgC W G (gTup K 2 (gCons (gName i) (gCons (gName j) gNil))) vs (.tup [x, y]) KK := fun X N H0 σ H v o r Q q => by
  cases r with
  | tup h r =>
    cases r with
    | cons rx r =>
      cases r with
      | cons ry r =>
        cases r
        have o1 := o.put (i := i) rx
        have s := owned_set (G := G) (i := i) (e := .d x) rfl
        have ry' : Rep (mo W (X ++ owned (G.set i (.d x)))) H _ y := ry.less (mo_sub (List.append_subset.mpr ⟨List.subset_append_left _ _, fun a h => List.mem_append_right _ (s.subset h)⟩))
        exact ⟨_, _, rfl, .inl (.inl h), rfl, _, _, rfl, _, _, rfl, rfl, q _ _ k (wipe_set2 hi hj) (o1.put ry')⟩
theorem owned_wipe : ∀ (vs : List Nat) (G : List Ent), (owned (wipeG G vs)).Sublist (owned G)
  | [], G => List.Sublist.refl _
  | v :: vs, G => (owned_set (G := wipeG G vs) (i := v) (e := .no) rfl).trans (owned_wipe vs G)
theorem EntsOk.wipe {M : Addr → Prop} {H : Hp} {σ : L2.St} {G : List Ent} (h : EntsOk M H σ G) : ∀ vs : List Nat, EntsOk M H (L2.wipe σ vs) (wipeG G vs)
  | [] => h
  | v :: vs => EntsOk.set (x := none) (e := .no) trivial v (EntsOk.wipe h vs)
/-- a comprehension: J tells the new list turn by turn -/
theorem evl_lc {wi : TI} {g : TG} {tt : TT} {vs : List Nat} (h : EvI W G wi fun ds => ds.length < 100000 ∧ ∃ J : Nat → List D → Prop, J 0 [] ∧ (∀ i d acc, ds[i]? = some d → J i acc → acc.length ≤ i → TgC W (wipeG G vs) g vs d fun G2 => owned G2 = owned G ∧ EvT W G2 tt fun b => (b = true → Ev W G2 te fun y => J (i + 1) (acc ++ [y])) ∧ (b = false → J (i + 1) acc)) ∧ ∀ acc, J ds.length acc → KK acc) :
    EvL W G (tLc wi g tt te vs) KK := fun X σ H E Q q =>
  h X σ H E _ fun ds It0 H' Gd Y k ex inv wk st it => by
    obtain ⟨hlen, J, j0, hs, hd⟩ := k
    intro Dl hDl
    have E1 := E.mono ex inv
    have nW : ¬ W.M Dl := new_ne inv hDl
    have nO : Dl ∉ X ++ owned G := own_neX E1 hDl
    have sub := owned_wipe vs G
    refine lc_it wk (fun i H2 => ∃ acc us, J i acc ∧ acc.length ≤ i ∧ Ex W.M H' H2 ∧ W.inv H2 ∧ H2 Dl = some (.lst us) ∧ RepAll (fun a => a = Dl ∨ mo W (X ++ owned G) a) H2 us acc)
      ⟨[], [], j0, Nat.le_refl _, Ex.new hDl, W.dep H' _ inv fun a o ma e => by rw [upd_ne fun z => nW (by rw [← z]; exact ma)]; exact e, upd_same, .nil⟩ (fun i H2 _ ⟨_, _, _, _, e2, _⟩ => st H2 e2.up) ?_ ?_
    · rintro i x H2 H3 hi ⟨acc, us, ja, la, e2, inv2, eD, rD⟩ y
      obtain ⟨ex3, d, hd', rd⟩ := it i H2 x H3 e2.up hi y
      have inv3 : W.inv H3 := inv_same inv2 ex3
      have e3 : Ex W.M H' H3 := e2.trans (ex3 _)
      have eD3 : H3 Dl = some (.lst us) := (ex3 fun _ => False).kp _ _ eD fun m => m.elim
      have rD3 : RepAll (fun a => a = Dl ∨ mo W (X ++ owned G) a) H3 us acc := rD.mono (ex3 fun _ => False) fun _ m => m.elim
      have Eb : Env W (Dl :: X) H3 (L2.wipe σ vs) (wipeG G vs) := by
        refine ⟨(E1.ok.wipe vs).widen (M := mo W (X ++ owned G)) (p := Dl) hDl e3.up (fun a m => ?_) (fun z => nO (List.mem_append_right _ (sub.subset z))) (fun l hl o q => e3.kp l o q fun m => absurd m (E1.ap l (sub.subset hl)).1), sub.nodup E1.nd, fun l hl => ⟨(E1.ap l (sub.subset hl)).1, fun z => ?_⟩, fun l hl => ?_, inv3⟩
        · rcases m with m | m
          · exact .inr (.inl m)
          · rcases List.mem_cons.mp m with z | z
            · exact .inl z
            · rcases List.mem_append.mp z with z | z
              · exact .inr (.inr (List.mem_append_left _ z))
              · exact .inr (.inr (List.mem_append_right _ (sub.subset z)))
        · rcases List.mem_cons.mp z with z | z
          · exact nO (List.mem_append_right _ (by rw [← z]; exact sub.subset hl))
          · exact (E1.ap l (sub.subset hl)).2 z
        · rcases List.mem_cons.mp hl with z | z
          · rw [z]; exact ⟨nW, _, eD3⟩
          · obtain ⟨n, o, q⟩ := E1.xs l z
            exact ⟨n, e3.th l o q⟩
      have rx : Rep (mo W (Dl :: X ++ owned (wipeG G vs))) H3 x d := rd _ fun a m => by
        rcases m with m | m
        · exact .inl (.inl m)
        · rcases List.mem_cons.mp m with z | z
          · rw [z]; exact .inr hDl
          · rcases List.mem_append.mp z with z | z
            · exact .inl (.inr (List.mem_append_left _ z))
            · exact .inl (.inr (List.mem_append_right _ (sub.subset z)))
      refine hs i d acc hd' ja la (Dl :: X) _ H3 σ H3 x (Ok.base Eb) rx _ fun G2 σ2 k2 w2 o2 => ⟨w2, ?_⟩
      obtain ⟨ow, k2⟩ := k2
      refine k2 (Dl :: X) σ2 H3 o2.env _ fun b H4 kb ex4 inv4 => ?_
      have E4 := o2.env.mono ex4 inv4
      cases b with
      | true =>
        show te σ2 H4 _
        refine kb.1 rfl (Dl :: X) σ2 H4 E4 _ fun d' v H5 j5 ex5 inv5 r5 => ?_
        have e35 := ex4.trans ex5
        have eD5 : H5 Dl = some (.lst us) := e35.kp _ _ eD3 fun m => absurd m nW
        refine ⟨us, eD5, small_len (by rw [rD.length]; omega), acc ++ [d'], us ++ [v], j5, by rw [List.length_append, List.length_singleton]; omega, (e3.trans e35).mutN hDl, W.dep H5 _ inv5 fun a o ma e => by rw [upd_ne fun z => nW (by rw [← z]; exact ma)]; exact e, upd_same, ?_⟩
        have r5' : Rep (fun a => a = Dl ∨ mo W (X ++ owned G) a) H5 v d' := r5.less fun a m => by
          rw [ow]
          rcases m with m | m
          · rw [m]; exact .inr (List.mem_cons_self ..)
          · exact m.imp id fun z => List.mem_cons_of_mem _ z
        have rD5 : RepAll (fun a => a = Dl ∨ mo W (X ++ owned G) a) H5 us acc := rD3.mono e35 fun _ m => .inr (.inl m)
        exact RepAll.upd' (M := fun a => a = Dl ∨ mo W (X ++ owned G) a) (p := Dl) (fun a o z e => by rw [upd_ne z]; exact e) (fun o e => by rw [eD5] at e; cases e; exact ⟨_, rfl⟩) (fun a m => .inr m) (.inl rfl) (rD5.append (.cons r5' .nil))
      | false =>
        show ∃ acc us, _
        exact ⟨acc, us, kb.2 rfl, by omega, e3.trans ex4, inv4, ex4.kp _ _ eD3 fun m => absurd m nW, rD3.mono ex4 fun _ m => .inr (.inl m)⟩
    · rintro H2 ⟨acc, us, ja, _, e2, inv2, eD, rD⟩
      exact q acc Dl us H2 (hd acc ja) (ex.none hDl) (ex.trans e2) inv2 eD nW rD
end
end Pd

namespace Pd
open PySem L2 RZ
section
variable {W : Wd} {G : List Ent} {te ta tb tc tl : TE} {t u : TT} {E : Post} {K : PySem.W.Frag} {KK : D → Prop} {KB : Bool → Prop}
/-! ### tests -/
theorem evt_test (h : Ev W G te fun d => ∃ b, d = .bl b ∧ KB b) : EvT W G (tTest te) KB := fun X σ H E Q q =>
  h X σ H E _ fun d v H' k ex inv r => by
    obtain ⟨b, rfl, k⟩ := k
    cases r
    exact ⟨b, rfl, q b H' k ex inv⟩
theorem evt_B (h : Ev W G te fun d => ∃ b, d = .bl b ∧ KB b) : EvT W G (tB te) KB := fun X σ H E Q q =>
  h X σ H E _ fun d v H' k ex inv r => by
    obtain ⟨b, rfl, k⟩ := k
    cases r
    exact ⟨b, rfl, q b H' k ex inv⟩
theorem evt_and (h : EvT W G t fun b => (b = true → EvT W G u KB) ∧ (b = false → KB false)) : EvT W G (tAnd t u) KB := fun X σ H E Q q =>
  h X σ H E _ fun b H' k ex inv => by
    cases b with
    | true => exact k.1 rfl X σ H' (E.mono ex inv) Q fun b H2 k2 ex2 inv2 => q b H2 k2 (ex.trans ex2) inv2
    | false => exact q false H' (k.2 rfl) ex inv
theorem evt_or (h : EvT W G t fun b => (b = true → KB true) ∧ (b = false → EvT W G u KB)) : EvT W G (tOr t u) KB := fun X σ H E Q q =>
  h X σ H E _ fun b H' k ex inv => by
    cases b with
    | false => exact k.2 rfl X σ H' (E.mono ex inv) Q fun b H2 k2 ex2 inv2 => q b H2 k2 (ex.trans ex2) inv2
    | true => exact q true H' (k.1 rfl) ex inv
theorem evt_not (h : EvT W G t fun b => KB (!b)) : EvT W G (tNot t) KB := fun X σ H E Q q =>
  h X σ H E _ fun b H' k ex inv => q (!b) H' k ex inv
theorem evt_yes (k : KB true) : EvT W G tYes KB := fun X σ H E Q q => q true H k (Ex.refl _ _) E.inv
/-- truth of data -/
def truD : D → Bool
  | .non => false
  | .bl b => b
  | .int i => i != 0
  | .str x => (x.length : Int) != 0
  | .tup ds => !ds.isEmpty
  | .lst ds => !ds.isEmpty
  | .dct => false
  | .rg _ _ => false
  | .obj _ _ _ => true
def smallD : D → Bool
  | .str x => decide (x.length ≤ 100000)
  | .dct => false
  | .rg _ _ => false
  | .obj _ _ _ => false
  | _ => true
theorem isEmpty_rep {M : Addr → Prop} {H : Hp} {vs : List V} {ds : List D} (r : RepAll M H vs ds) : vs.isEmpty = ds.isEmpty := by cases r <;> rfl
theorem evt_tru (h : EvB W G te fun d => smallD d = true ∧ KB (truD d)) : EvT W G (fun σ H Q => te σ H fun x H' => ∃ k, TruV K x H' k ∧ Q k H') KB := fun X σ H E Q q =>
  h X σ H E _ fun d v H' ⟨hs, k⟩ ex inv r => by
    refine ⟨truD d, ?_, q _ H' k ex inv⟩
    cases d with
    | non => rw [r.non]; rfl
    | bl b => rw [r.bl]; rfl
    | int i => rw [r.int]; rfl
    | str x =>
      rw [r.str]
      exact ⟨small_le (of_decide_eq_true hs), rfl⟩
    | tup ds =>
      obtain ⟨a, vs, rfl, ha, r⟩ := r.tup
      exact .inr (.inl ⟨vs, .inl (.inl ha), by rw [isEmpty_rep r]; rfl⟩)
    | lst ds =>
      obtain ⟨a, vs, rfl, ha, r⟩ := r.lst
      exact .inl ⟨vs, .inl (.inl ha), by rw [isEmpty_rep r]; rfl⟩
    | dct => exact absurd hs (by simp [smallD])
    | rg _ _ => exact absurd hs (by simp [smallD])
    | obj _ _ _ => exact absurd hs (by simp [smallD])
theorem ev_andV (h : Ev W G ta fun d => ∃ b, d = .bl b ∧ (b = true → Ev W G tb KK) ∧ (b = false → KK (.bl false))) : Ev W G (tAndV ta tb) KK := fun X σ H E Q q =>
  h X σ H E _ fun d v H' k ex inv r => by
    obtain ⟨b, rfl, k⟩ := k
    cases r
    refine ⟨b, rfl, ?_⟩
    cases b with
    | true => exact k.1 rfl X σ H' (E.mono ex inv) Q fun d v H2 k2 ex2 inv2 r2 => q d v H2 k2 (ex.trans ex2) inv2 r2
    | false => exact q _ _ H' (k.2 rfl) ex inv (.bl false)
theorem ev_orV (h : Ev W G ta fun d => ∃ b, d = .bl b ∧ (b = true → KK (.bl true)) ∧ (b = false → Ev W G tb KK)) : Ev W G (tOrV ta tb) KK := fun X σ H E Q q =>
  h X σ H E _ fun d v H' k ex inv r => by
    obtain ⟨b, rfl, k⟩ := k
    cases r
    refine ⟨b, rfl, ?_⟩
    cases b with
    | false => exact k.2 rfl X σ H' (E.mono ex inv) Q fun d v H2 k2 ex2 inv2 r2 => q d v H2 k2 (ex.trans ex2) inv2 r2
    | true => exact q _ _ H' (k.1 rfl) ex inv (.bl true)
theorem ev_notV (h : Ev W G ta fun d => ∃ b, d = .bl b ∧ KK (.bl (!b))) : Ev W G (tNotV ta) KK := fun X σ H E Q q =>
  h X σ H E _ fun d v H' k ex inv r => by
    obtain ⟨b, rfl, k⟩ := k
    cases r
    exact ⟨b, rfl, q _ _ H' k ex inv (.bl _)⟩
theorem ev_if (h : EvT W G t fun b => (b = true → Ev W G ta KK) ∧ (b = false → Ev W G tb KK)) : Ev W G (tIf t ta tb) KK := fun X σ H E Q q =>
  h X σ H E _ fun b H' k ex inv => by
    cases b with
    | true => exact k.1 rfl X σ H' (E.mono ex inv) Q fun d v H2 k2 ex2 inv2 r2 => q d v H2 k2 (ex.trans ex2) inv2 r2
    | false => exact k.2 rfl X σ H' (E.mono ex inv) Q fun d v H2 k2 ex2 inv2 r2 => q d v H2 k2 (ex.trans ex2) inv2 r2
theorem ev_chain {r r' : R2} (h : Ev W G ta fun x => Ev W G tb fun y => OpD r x y fun z => ∃ b, z = .bl b ∧ (b = true → Ev W G tc fun w => OpD r' y w KK) ∧ (b = false → KK (.bl false))) : Ev W G (tChain r r' ta tb tc) KK := fun X σ H E Q q =>
  h X σ H E _ fun x v H1 k e1 i1 r1 => k X σ H1 (E.mono e1 i1) _ fun y u H2 k2 e2 i2 r2 => by
    have E2 := (E.mono e1 i1).mono e2 i2
    refine k2 W.M (mo W (X ++ owned G)) v u H2 (.inl (r1.mono e2 fun _ m => .inl m)) (.inl r2) (mo_there E2) _ fun d z H' k3 ex r3 => ?_
    obtain ⟨b, rfl, k3⟩ := k3
    cases r3
    refine ⟨b, rfl, ?_⟩
    have E3 := E2.mono (ex _) (inv_same i2 ex)
    cases b with
    | true =>
      refine k3.1 rfl X σ H' E3 _ fun w w' H4 k4 e4 i4 r4 => ?_
      exact k4 W.M (mo W (X ++ owned G)) u w' H4 (.inl ((r2.mono (ex _) fun _ m => .inl m).mono e4 fun _ m => .inl m)) (.inl r4) (mo_there (E3.mono e4 i4)) Q fun d z H5 k5 ex5 r5 => q d z H5 k5 ((((e1.trans e2).trans (ex _)).trans e4).trans (ex5 _)) (inv_same i4 ex5) r5
    | false => exact q _ _ H' (k3.2 rfl) ((e1.trans e2).trans (ex _)) (inv_same i2 ex) (.bl false)
theorem ev_un {r : V → Hp → VK → Prop} (h : Ev W G ta fun x => CallD (fun vs H Q => ∃ v, vs = [v] ∧ r v H Q) [.d x] KK) : Ev W G (tUn r ta) KK := fun X σ H E Q q =>
  h X σ H E _ fun x v H1 k e1 i1 r1 => by
    obtain ⟨_, e, z⟩ := k (mo W (X ++ owned G)) [v] H1 (.cons r1 .nil) (mo_there (E.mono e1 i1)) Q fun d z H' k3 ex r3 => q d z H' k3 (e1.trans (ex _)) (inv_same i1 ex) r3
    cases e
    exact z
theorem und_neg {i : Int} (k : KK (.int (-i))) : CallD (fun vs H Q => ∃ v, vs = [v] ∧ rU (fun i => .int (-i)) v H Q) [.d (.int i)] KK := fun M vs H r th Q q => by
  cases r with
  | cons r t => cases t; cases r; exact ⟨_, rfl, i, rfl, q _ _ H k (fun _ => Ex.refl _ _) (.int _)⟩
theorem und_inv {i : Int} (k : KK (.int (Builtin.bitNot i))) : CallD (fun vs H Q => ∃ v, vs = [v] ∧ rU (fun i => .int (Builtin.bitNot i)) v H Q) [.d (.int i)] KK := fun M vs H r th Q q => by
  cases r with
  | cons r t => cases t; cases r; exact ⟨_, rfl, i, rfl, q _ _ H k (fun _ => Ex.refl _ _) (.int _)⟩

/-! ### displays -/
/-- entries that are data -/
def datas : List Ent → Option (List D)
  | [] => some []
  | .d d :: es => (datas es).map (d :: ·)
  | _ :: _ => none
theorem datas_rep {M : Addr → Prop} {H : Hp} : ∀ {vs : List V} {es : List Ent} {ds : List D}, EntVs M H vs es → datas es = some ds → RepAll M H vs ds
  | _, [], _, .nil, e => by cases e; exact .nil
  | _, .d d :: es, ds, .cons r t, e => by
    unfold datas at e
    cases q : datas es with
    | none => rw [q] at e; cases e
    | some ds' =>
      rw [q] at e
      have e' : d :: ds' = ds := Option.some.inj e
      subst e'
      exact .cons r (datas_rep t q)
  | _, .no :: _, _, .cons _ _, e => by cases e
  | _, .raw _ :: _, _, .cons _ _, e => by cases e
  | _, .own _ _ :: _, _, .cons _ _, e => by cases e
theorem EntVs.length {M : Addr → Prop} {H : Hp} {vs : List V} {es : List Ent} (r : EntVs M H vs es) : vs.length = es.length := by
  induction r with
  | nil => rfl
  | cons _ _ ih => rw [List.length_cons, List.length_cons, ih]
theorem ev_tup {tt : TA} (h : EvA W G tt fun es => ∃ ds, datas es = some ds ∧ es.length ≤ 100000 ∧ KK (.tup ds)) : Ev W G (tTup tt) KK := fun X σ H E Q q =>
  h X σ H E _ fun es vs H' ⟨ds, hd, hl, k⟩ ho ex inv r => ⟨small_le (by rw [r.length]; exact hl), fun p hp =>
    q _ _ _ k (ex.trans (Ex.new hp)) (inv_same inv fun _ => Ex.new hp) (.tup upd_same ((datas_rep r hd).mono (Ex.new (M := fun _ => False) hp) fun _ m => m.elim))⟩
theorem RepAll.new {W : Wd} {X : List Addr} {G : List Ent} {σ : L2.St} {H : Hp} {p : Addr} {o : HO} {vs : List V} {ds : List D} (E : Env W X H σ G) (hp : H p = none) (r : RepAll (mo W (X ++ owned G)) H vs ds) : RepAll (fun a => a = p ∨ mo W (X ++ owned G) a) (upd H p o) vs ds :=
  (RepAll.avoid (p := p) (fun xs z => by rw [hp] at z; cases z) (fun a m => m) r).mono (Ex.new (M := fun _ => False) hp) fun _ m => m.elim
/-- a new list laid -/
theorem evl_new {KL : List D → Prop} {X : List Addr} {σ : L2.St} {H H1 : Hp} {Q : VK} {vs : List V} {ds : List D} (E : Env W X H σ G)
    (q : ∀ ds p vs H', KL ds → H p = none → Ex W.M H H' → W.inv H' → H' p = some (.lst vs) → ¬ W.M p → RepAll (fun a => a = p ∨ mo W (X ++ owned G) a) H' vs ds → Q (.ref p) H')
    (ex : Ex W.M H H1) (inv : W.inv H1) (k : KL ds) (r : RepAll (mo W (X ++ owned G)) H1 vs ds) : ∀ p, H1 p = none → Q (.ref p) (upd H1 p (.lst vs)) := fun p hp => by
  have E1 := E.mono ex inv
  exact q ds p vs _ k (ex.none hp) (ex.trans (Ex.new hp)) (inv_same inv fun _ => Ex.new hp) upd_same (new_ne inv hp) (r.new E1 hp)
theorem evl_lst {tt : TA} {KL : List D → Prop} (h : EvA W G tt fun es => ∃ ds, datas es = some ds ∧ es.length ≤ 100000 ∧ KL ds) : EvL W G (tLst tt) KL := fun X σ H E Q q =>
  h X σ H E _ fun es vs H' ⟨ds, hd, hl, k⟩ ho ex inv r => ⟨small_le (by rw [r.length]; exact hl), evl_new E q ex inv k (datas_rep r hd)⟩
theorem eva_d {tr : TA} {KA : List Ent → Prop} (h : Ev W G ta fun d => EvA W G tr fun es => KA (.d d :: es)) : EvA W G (tCons ta tr) KA := eva_cons h.e

/-! ### operations -/
theorem rep_int {M : Addr → Prop} {H : Hp} {i : Int} : Rep M H (.int i) (.int i) := .int i
theorem opd_add {i j : Int} (k : KK (.int (i + j))) : OpD (rI0 fun i j => .int (i + j)) (.int i) (.int j) KK := OpD.int (fun _ _ => .int _) k
theorem opd_sub {i j : Int} (k : KK (.int (i - j))) : OpD (rI0 fun i j => .int (i - j)) (.int i) (.int j) KK := OpD.int (fun _ _ => .int _) k
theorem opd_lt {i j : Int} (k : KK (.bl (decide (i < j)))) : OpD (rI0 fun i j => .bl (decide (i < j))) (.int i) (.int j) KK := OpD.int (fun _ _ => .bl _) k
theorem opd_le {i j : Int} (k : KK (.bl (decide (i ≤ j)))) : OpD (rI0 fun i j => .bl (decide (i ≤ j))) (.int i) (.int j) KK := OpD.int (fun _ _ => .bl _) k
theorem opd_gt {i j : Int} (k : KK (.bl (decide (j < i)))) : OpD (rI0 fun i j => .bl (decide (j < i))) (.int i) (.int j) KK := OpD.int (fun _ _ => .bl _) k
theorem opd_ge {i j : Int} (k : KK (.bl (decide (j ≤ i)))) : OpD (rI0 fun i j => .bl (decide (j ≤ i))) (.int i) (.int j) KK := OpD.int (fun _ _ => .bl _) k
theorem opd_and {i j : Int} (k : KK (.int (Builtin.bitAnd i j))) : OpD (rI0 fun i j => .int (Builtin.bitAnd i j)) (.int i) (.int j) KK := OpD.int (fun _ _ => .int _) k
theorem opd_or {i j : Int} (k : KK (.int (Builtin.bitOr i j))) : OpD (rI0 fun i j => .int (Builtin.bitOr i j)) (.int i) (.int j) KK := OpD.int (fun _ _ => .int _) k
theorem opd_xor {i j : Int} (k : KK (.int (Builtin.bitXor i j))) : OpD (rI0 fun i j => .int (Builtin.bitXor i j)) (.int i) (.int j) KK := OpD.int (fun _ _ => .int _) k
theorem opd_mul {i j : Int} (c : CMul i j) (k : KK (.int (i * j))) : OpD (rI CMul fun i j => .int (i * j)) (.int i) (.int j) KK := OpD.intC c (fun _ _ => .int _) k
theorem opd_mod {i j : Int} (c : 0 < j) (k : KK (.int (i % j))) : OpD (rI (fun _ j => 0 < j) fun i j => .int (i % j)) (.int i) (.int j) KK := OpD.intC c (fun _ _ => .int _) k
theorem opd_div {i j : Int} (c : CDiv i j) (k : KK (.int (i / j))) : OpD (rI CDiv fun i j => .int (i / j)) (.int i) (.int j) KK := OpD.intC c (fun _ _ => .int _) k
theorem opd_pow {i j : Int} (c : CPow i j) (k : KK (.int (i ^ j.toNat))) : OpD (rI CPow fun i j => .int (i ^ j.toNat)) (.int i) (.int j) KK := OpD.intC c (fun _ _ => .int _) k
theorem opd_shl {i j : Int} (c : CPow i j) (k : KK (.int (i * 2 ^ j.toNat))) : OpD (rI CPow fun i j => .int (i * 2 ^ j.toNat)) (.int i) (.int j) KK := OpD.intC c (fun _ _ => .int _) k
theorem opd_shr {i j : Int} (c : 0 ≤ j) (k : KK (.int (i / 2 ^ j.toNat))) : OpD (rI (fun _ j => 0 ≤ j) fun i j => .int (i / 2 ^ j.toNat)) (.int i) (.int j) KK := OpD.intC c (fun _ _ => .int _) k
/-! is None -/
def isNonD : D → Bool
  | .non => true
  | _ => false
theorem isNon_rep {Mw M : Addr → Prop} {H : Hp} {v : V} {x : D} (r1 : RepB Mw M H v x) : decide (v = .non) = isNonD x := by
  cases x with
  | non => rw [r1.non]; rfl
  | bl b => rw [r1.bl]; rfl
  | int i => rw [r1.int]; rfl
  | str i => rw [r1.str]; rfl
  | tup ds => obtain ⟨a, vs, rfl, _⟩ := r1.tup; rfl
  | lst ds => obtain ⟨a, vs, rfl, _⟩ := r1.lst; rfl
  | dct =>
    rcases r1 with r1 | ⟨_, _, _, _, z, _⟩
    · cases r1; rfl
    · cases z
  | rg lo hi =>
    rcases r1 with r1 | ⟨_, _, _, _, z, _⟩
    · cases r1; rfl
    · cases z
  | obj C ns ds =>
    rcases r1 with r1 | ⟨_, _, _, _, z, _⟩
    · cases r1; rfl
    · cases z
theorem opd_isN {x : D} (k : KK (.bl (isNonD x))) : OpD (fun x y H Q => y = V.non ∧ Q (.bl (decide (x = .non))) H) x .non KK := fun Mw M v u H r1 r2 th Q q => by
  refine ⟨r2.non, ?_⟩
  rw [isNon_rep r1]
  exact q _ _ H k (fun _ => Ex.refl _ _) (.bl _)
theorem opd_notN {x : D} (k : KK (.bl (!isNonD x))) : OpD (fun x y H Q => y = V.non ∧ Q (.bl (!decide (x = .non))) H) x .non KK := fun Mw M v u H r1 r2 th Q q => by
  refine ⟨r2.non, ?_⟩
  rw [isNon_rep r1]
  exact q _ _ H k (fun _ => Ex.refl _ _) (.bl _)
/-! == of data -/
mutual
def toP : D → PyData
  | .non => .none
  | .bl b => .bool b
  | .int i => .int i
  | .str x => .str x
  | .tup ds => .tuple (toPs ds)
  | .lst ds => .list (toPs ds)
  | .dct => .dict []
  | .rg _ _ => .dict []
  | .obj _ _ _ => .dict []
def toPs : List D → List PyData
  | [] => []
  | d :: ds => toP d :: toPs ds
end
mutual
def plain : D → Bool
  | .dct => false
  | .rg _ _ => false
  | .obj _ _ _ => false
  | .tup ds => plains ds
  | .lst ds => plains ds
  | .non => true
  | .bl _ => true
  | .int _ => true
  | .str _ => true
def plains : List D → Bool
  | [] => true
  | d :: ds => plain d && plains ds
end
mutual
theorem Rep.dp {M : Addr → Prop} {H : Hp} : ∀ {v : V} {d : D}, Rep M H v d → plain d = true → Dp K H v (toP d)
  | _, _, .non, _ => .non
  | _, _, .bl b, _ => .bl b
  | _, _, .int i, _ => .int i
  | _, _, .str x, _ => .str x
  | _, _, .tup h r, p => .tup (.inl (.inl h)) (RepAll.dp r (by simpa [plain] using p))
  | _, _, .lst n h r, p => .lst (.inl (.inl h)) (RepAll.dp r (by simpa [plain] using p))
  | _, _, .dct _, p => absurd p (by simp [plain])
  | _, _, .rg _, p => absurd p (by simp [plain])
  | _, _, .obj _ _ _ _, p => absurd p (by simp [plain])
theorem RepAll.dp {M : Addr → Prop} {H : Hp} : ∀ {vs : List V} {ds : List D}, RepAll M H vs ds → plains ds = true → DpAll K H vs (toPs ds)
  | _, _, .nil, _ => .nil
  | _, _, .cons r t, p => .cons (Rep.dp r (by simp [plains] at p; exact p.1)) (RepAll.dp t (by simp [plains] at p; exact p.2))
end
theorem RepB.dp {Mw M : Addr → Prop} {H : Hp} {v : V} {d : D} (r : RepB Mw M H v d) (p : plain d = true) : Dp K H v (toP d) := by
  rcases r with r | ⟨a, vs, ds, rfl, rfl, _, h, r⟩
  · exact r.dp p
  · exact .lst (.inl (.inl h)) (r.dp (by simpa [plain] using p))
def eqD (x y : D) : Bool := PyData.eqv (toP x) (toP y)
def okD (x : D) : Bool := plain x && SeqAt.shaped (toP x)
theorem opd_eq {x y : D} (hx : okD x = true) (hy : okD y = true) (k : KK (.bl (eqD x y))) : OpD (rEqD K) x y KK := fun Mw M v u H r1 r2 th Q q => by
  obtain ⟨p1, s1⟩ := Bool.and_eq_true_iff.mp hx
  obtain ⟨p2, s2⟩ := Bool.and_eq_true_iff.mp hy
  exact ⟨toP x, toP y, r1.dp p1, r2.dp p2, s1, s2, q _ _ H k (fun _ => Ex.refl _ _) (.bl _)⟩
theorem opd_ne {x y : D} (hx : okD x = true) (hy : okD y = true) (k : KK (.bl (!eqD x y))) : OpD (rNeD K) x y KK := fun Mw M v u H r1 r2 th Q q => by
  obtain ⟨p1, s1⟩ := Bool.and_eq_true_iff.mp hx
  obtain ⟨p2, s2⟩ := Bool.and_eq_true_iff.mp hy
  exact ⟨toP x, toP y, r1.dp p1, r2.dp p2, s1, s2, q _ _ H k (fun _ => Ex.refl _ _) (.bl _)⟩
/-! items, parts -/
theorem atI_rep {M : Addr → Prop} {H : Hp} {vs : List V} {ds : List D} {i : Int} {d : D} (r : RepAll M H vs ds) (h : atI ds i = some d) : ∃ v, atI vs i = some v ∧ Rep M H v d := by
  unfold atI at h ⊢
  rw [r.length]
  cases e : ixN ds.length i with
  | none => rw [e] at h; cases h
  | some j =>
    rw [e] at h
    exact r.get h
def ixD : D → Int → Option D
  | .tup ds, i => atI ds i
  | .lst ds, i => atI ds i
  | _, _ => none
theorem opd_ix {x : D} {i : Int} {d : D} (h : ixD x i = some d) (k : KK d) : OpD (rIx K) x (.int i) KK := fun Mw M v u H r1 r2 th Q q => by
  rw [r2.int]
  cases x with
  | tup ds =>
    obtain ⟨a, vs, rfl, ha, r⟩ := r1.tup
    obtain ⟨w, hw, rw'⟩ := atI_rep r h
    exact .inr (.inl ⟨a, vs, i, w, rfl, rfl, .inl (.inl ha), hw, q _ _ H k (fun _ => Ex.refl _ _) rw'⟩)
  | lst ds =>
    obtain ⟨a, vs, rfl, ha, r⟩ := r1.lst
    obtain ⟨w, hw, rw'⟩ := atI_rep r h
    exact .inl ⟨a, vs, i, w, rfl, rfl, .inl (.inl ha), hw, q _ _ H k (fun _ => Ex.refl _ _) rw'⟩
  | _ => cases h
theorem atI_of {ds : List D} {j : Nat} {d : D} (h : ds[j]? = some d) : atI ds (j : Int) = some d := by
  have hj := (List.getElem?_eq_some_iff.mp h).1
  unfold atI ixN
  rw [if_pos (by omega), if_pos (by omega)]
  simpa using h
theorem atI_last {ds : List D} {d : D} (h : ds.getLast? = some d) : atI ds (-1) = some d := by
  rw [List.getLast?_eq_getElem?] at h
  have hj := (List.getElem?_eq_some_iff.mp h).1
  unfold atI ixN
  rw [if_neg (by omega), if_pos (by omega)]
  have e : (-1 + (ds.length : Int)).toNat = ds.length - 1 := by omega
  rw [e]
  simpa using h
/-- parts of slices -/
def EvO (W : Wd) (G : List Ent) (to : TO) (K : Option Int → Prop) : Prop := ∀ X σ H, Env W X H σ G → ∀ Q : Option Int → Hp → Prop, (∀ o H', K o → Ex W.M H H' → W.inv H' → Q o H') → to σ H Q
theorem evo_none {KO : Option Int → Prop} (k : KO none) : EvO W G tNoPart KO := fun X σ H E Q q => q none H k (Ex.refl _ _) E.inv
theorem evo_some {KO : Option Int → Prop} (h : Ev W G te fun d => ∃ i, d = .int i ∧ KO (some i)) : EvO W G (tPart te) KO := fun X σ H E Q q =>
  h X σ H E _ fun d v H' k ex inv r => by
    obtain ⟨i, rfl, k⟩ := k
    cases r
    exact ⟨i, rfl, q _ H' k ex inv⟩
def cutD (xs : List D) (lo hi : Option Int) : List D := (xs.drop (HT.sIx xs.length 0 lo)).take (HT.sIx xs.length xs.length hi - HT.sIx xs.length 0 lo)
theorem cut_rep {M : Addr → Prop} {H : Hp} {vs : List V} {ds : List D} {lo hi : Option Int} (r : RepAll M H vs ds) : RepAll M H (cutV vs lo hi) (cutD ds lo hi) := by
  unfold cutV cutD
  rw [r.length]
  exact (r.drop _).take _
theorem cutD_whole {xs : List D} {lo hi : Option Int} (h : HT.sIx xs.length 0 lo = 0 ∧ HT.sIx xs.length xs.length hi = xs.length) : cutD xs lo hi = xs := by
  unfold cutD
  rw [h.1, h.2]
  simp
theorem ev_slT {tlo thi : TO} (h : Ev W G te fun x => ∃ ds, x = .tup ds ∧ EvO W G tlo fun lo => EvO W G thi fun hi => KK (.tup (cutD ds lo hi))) : Ev W G (tSl (rSlA K) te tlo thi) KK := fun X σ H E Q q =>
  h X σ H E _ fun x v H1 k e1 i1 r1 => by
    obtain ⟨ds, rfl, k⟩ := k
    refine k X σ H1 (E.mono e1 i1) _ fun lo H2 k2 e2 i2 => k2 X σ H2 ((E.mono e1 i1).mono e2 i2) _ fun hi H3 k3 e3 i3 => ?_
    have r3 := r1.mono (e2.trans e3) fun _ m => .inl m
    have e := (e1.trans e2).trans e3
    cases r3 with
    | @tup a vs _ ha r =>
      refine ⟨a, vs, rfl, .inl (.inl ha), fun hw => ?_, fun _ p hp => ?_⟩
      · rw [r.length] at hw
        have k3 : KK (.tup (cutD ds lo hi)) := k3
        rw [cutD_whole hw] at k3
        exact q _ _ H3 k3 e i3 (.tup ha r)
      · exact q _ _ _ k3 (e.trans (Ex.new hp)) (inv_same i3 fun _ => Ex.new hp) (.tup upd_same ((cut_rep r).mono (Ex.new (M := fun _ => False) hp) fun _ m => m.elim))
theorem evl_slL {KL : List D → Prop} {tlo thi : TO} (h : EvB W G te fun x => ∃ ds, x = .lst ds ∧ EvO W G tlo fun lo => EvO W G thi fun hi => KL (cutD ds lo hi)) : EvL W G (tSl (rSlL K) te tlo thi) KL := fun X σ H E Q q =>
  h X σ H E _ fun x v H1 k e1 i1 r1 => by
    obtain ⟨ds, rfl, k⟩ := k
    refine k X σ H1 (E.mono e1 i1) _ fun lo H2 k2 e2 i2 => k2 X σ H2 ((E.mono e1 i1).mono e2 i2) _ fun hi H3 k3 e3 i3 => ?_
    obtain ⟨a, vs, rfl, ha, r⟩ := (r1.mono (e2.trans e3)).lst
    exact ⟨a, vs, rfl, .inl (.inl ha), evl_new E q ((e1.trans e2).trans e3) i3 k3 (cut_rep r)⟩
/-! + of tuples, of lists -/
theorem opd_catT {xs ys : List D} (hl : xs.length + ys.length ≤ 100000) (k : KK (.tup (xs ++ ys))) : OpD (rCatA K) (.tup xs) (.tup ys) KK := fun Mw M v u H r1 r2 th Q q => by
  obtain ⟨a, vs, rfl, ha, r⟩ := r1.tup
  obtain ⟨b, us, rfl, hb, s⟩ := r2.tup
  refine ⟨a, b, vs, us, rfl, rfl, .inl (.inl ha), .inl (.inl hb), small_le (by rw [r.length, s.length]; exact hl), fun e => ?_, fun _ e => ?_, fun _ _ p hp => ?_⟩
  · subst e; cases r
    exact q _ _ H k (fun _ => Ex.refl _ _) (.tup hb s)
  · subst e; cases s
    rw [List.append_nil] at k
    exact q _ _ H k (fun _ => Ex.refl _ _) (.tup ha r)
  · exact q _ _ _ k (fun _ => Ex.new hp) (.tup upd_same ((r.append s).mono (Ex.new (M := fun _ => False) hp) fun _ m => m.elim))
theorem evl_cat {KL : List D → Prop} (h : EvB W G ta fun x => EvB W G tb fun y => ∃ xs ys, x = .lst xs ∧ y = .lst ys ∧ xs.length + ys.length ≤ 100000 ∧ KL (xs ++ ys)) : EvL W G (tOp rCat ta tb) KL := fun X σ H E Q q =>
  h X σ H E _ fun x v H1 k e1 i1 r1 => k X σ H1 (E.mono e1 i1) _ fun y u H2 k2 e2 i2 r2 => by
    obtain ⟨xs, ys, rfl, rfl, hl, k2⟩ := k2
    obtain ⟨a, vs, rfl, ha, r⟩ := (r1.mono e2).lst
    obtain ⟨b, us, rfl, hb, s⟩ := r2.lst
    exact ⟨a, b, vs, us, rfl, rfl, ha, hb, small_le (by rw [r.length, s.length]; exact hl), evl_new E q (e1.trans e2) i2 k2 (r.append s)⟩
theorem rep_flat {M : Addr → Prop} {H : Hp} {vs : List V} {ds : List D} (r : RepAll M H vs ds) : ∀ n, RepAll M H (List.replicate n vs).flatten (List.replicate n ds).flatten
  | 0 => .nil
  | n + 1 => by
    rw [List.replicate_succ, List.replicate_succ, List.flatten_cons, List.flatten_cons]
    exact r.append (rep_flat r n)
/-! `in` -/
def flatD : D → Bool
  | .non => true | .bl _ => true | .int _ => true | .str _ => true | _ => false
def inD (x : D) (xs : List D) : Bool := xs.any fun y => eqD y x
theorem flat_rep {M : Addr → Prop} {H : Hp} {v : V} {d : D} (r : Rep M H v d) (h : flatD d = true) : flatV v = true := by
  cases r <;> first | rfl | cases h
theorem eqV_rep {M : Addr → Prop} {H : Hp} {v u : V} {d e : D} (r : Rep M H v d) (s : Rep M H u e) (h : flatD d = true) (h' : flatD e = true) : eqV v u = eqD d e := by
  cases r <;> cases s <;> first | rfl | cases h | cases h'
theorem in_rep {M : Addr → Prop} {H : Hp} {v : V} {d : D} (r : Rep M H v d) (h : flatD d = true) : ∀ {vs : List V} {ds : List D}, RepAll M H vs ds → ds.all flatD = true → inV v vs = inD d ds ∧ vs.all flatV = true
  | _, _, .nil, _ => ⟨rfl, rfl⟩
  | _, _, .cons (ds := ds) r' t, p => by
    rw [List.all_cons, Bool.and_eq_true] at p
    obtain ⟨h1, h2⟩ := in_rep r h t p.2
    refine ⟨?_, ?_⟩
    · unfold inV inD at h1 ⊢
      rw [List.any_cons, List.any_cons, h1, eqV_rep r' r p.1 h]
    · rw [List.all_cons, flat_rep r' p.1, h2]; rfl
def seqD : D → Option (List D)
  | .tup ds => some ds
  | .lst ds => some ds
  | _ => none
theorem opd_in {neg : Bool} {x y : D} {ds : List D} (hy : seqD y = some ds) (hx : flatD x = true) (hf : ds.all flatD = true) (k : KK (.bl (if neg then !inD x ds else inD x ds))) : OpD (rIn K neg) x y KK := fun Mw M v u H r1 r2 th Q q => by
  have r1' : Rep M H v x := by
    rcases r1 with r1 | ⟨a, vs, ds', rfl, rfl, _, _, _⟩
    · exact r1
    · cases hx
  cases y with
  | tup ds' =>
    cases hy
    obtain ⟨a, vs, rfl, ha, r⟩ := r2.tup
    obtain ⟨h1, h2⟩ := in_rep r1' hx r hf
    exact ⟨a, vs, rfl, .inr (.inl (.inl ha)), flat_rep r1' hx, h2, by rw [h1]; exact q _ _ H k (fun _ => Ex.refl _ _) (.bl _)⟩
  | lst ds' =>
    cases hy
    obtain ⟨a, vs, rfl, ha, r⟩ := r2.lst
    obtain ⟨h1, h2⟩ := in_rep r1' hx r hf
    exact ⟨a, vs, rfl, .inl (.inl (.inl ha)), flat_rep r1' hx, h2, by rw [h1]; exact q _ _ H k (fun _ => Ex.refl _ _) (.bl _)⟩
  | _ => cases hy
/-! ### fields of data -/
theorem lookup_zip {M : Addr → Prop} {H : Hp} {f : Str} {d : D} : ∀ {ns : List Str} {vs : List V} {ds : List D}, RepAll M H vs ds → (ns.zip ds).lookup f = some d → ∃ v, (ns.zip vs).lookup f = some v ∧ Rep M H v d
  | [], _, _, _, h => by simp at h
  | _ :: _, _, _, .nil, h => by simp at h
  | n :: ns, _, _, .cons (v := v) (d := d') r t, h => by
    rw [List.zip_cons_cons, List.lookup_cons] at h
    rw [List.zip_cons_cons, List.lookup_cons]
    cases e : (f == n) with
    | true => rw [e] at h; cases h; exact ⟨v, rfl, r⟩
    | false => rw [e] at h; exact lookup_zip t h
theorem ev_fld {f : Str} (h : Ev W G te fun x => ∃ C ns ds d, x = .obj C ns ds ∧ Cls K C ∧ NoAttr K C f ∧ (ns.zip ds).lookup f = some d ∧ KK d) : Ev W G (tFld K te f) KK := fun X σ H E Q q =>
  h X σ H E _ fun x v H1 k e1 i1 r1 => by
    obtain ⟨C, ns, ds, d, rfl, c, na, hl, k⟩ := k
    cases r1 with
    | @obj a _ dx fs _ vs _ ha hz hlen r =>
      obtain ⟨w, hw, rw'⟩ := lookup_zip r hl
      exact ⟨a, C, dx, fs, w, rfl, ha, c, na, by rw [hz]; exact hw, q _ _ H1 k e1 i1 rw'⟩
/-! ### while -/
theorem st_while {c : TT} {tb : TS} (h : ∃ (I : Nat → List Ent → Prop) (m0 : Nat), I m0 G ∧ ∀ m G', I m G' → EvT W G' c fun b => (b = true → St W G' tb { E with nx := fun G2 => ∃ m', m' < m ∧ I m' G2, ct := fun G2 => ∃ m', m' < m ∧ I m' G2, bk := E.nx }) ∧ (b = false → E.nx G')) :
    St W G (tWhile c tb) E := fun X N H0 σ H o D m => by
  obtain ⟨I, m0, i0, hs⟩ := h
  refine ⟨fun k σ' H' => ∃ G', I k G' ∧ Ok W X N H0 H' σ' G', ⟨m0, G, i0, o⟩, ?_⟩
  rintro k σ' H' ⟨G', iG, o'⟩
  refine hs k G' iG X σ' H' o'.env _ fun b H2 kb ex inv => ?_
  have o2 := o'.mono ex inv
  cases b with
  | true =>
    refine ⟨fun σ3 H3 => ∃ m', m' < k ∧ ∃ G2, I m' G2 ∧ Ok W X N H0 H3 σ3 G2, fun σ3 H3 ⟨m', h1, G2, h2, h3⟩ => ⟨m', h1, G2, h2, h3⟩, ?_⟩
    exact kb.1 rfl X N H0 σ' H2 o2 _ ⟨fun G3 σ3 H3 ⟨m', h1, h2⟩ o3 => ⟨m', h1, G3, h2, o3⟩, m.nx, fun G3 σ3 H3 ⟨m', h1, h2⟩ o3 => ⟨m', h1, G3, h2, o3⟩, m.rt⟩
  | false => exact m.nx _ _ _ (kb.2 rfl) o2
/-! ### x += e -/
theorem st_aug {i : Nat} {r : V → V → Hp → VK → Prop} {x : D} (hx : G[i]? = some (.d x)) (h : Ev W G te fun y => OpD r x y fun z => E.nx (G.set i (.d z))) : St W G (tAug i te r) E := fun X N H0 σ H o D m => by
  obtain ⟨xo, e, r1⟩ := o.env.ok.get hx
  obtain ⟨v, rfl, r1⟩ := r1
  refine ⟨v, e, h X σ H o.env _ fun y u H' k ex inv r2 => ?_⟩
  have o1 := o.mono ex inv
  exact k W.M (mo W (X ++ owned G)) v u H' (.inl (r1.mono ex fun _ m => .inl m)) (.inl r2) (mo_there o1.env) _ fun d z H2 k2 ex2 r3 => m.nx _ _ _ k2 ((o1.mono (ex2 _) (inv_same inv ex2)).put r3)
end

/-! ### defs -/
/-- the promise of a def, by entries and what is wanted of the answer -/
def FSp (pre : Wd → List Ent → (D → Prop) → Prop) : Sp := fun vs H Q _ => ∃ W X es K, pre W es K ∧ W.inv H ∧ (∀ l ∈ X, ¬ W.M l ∧ ∃ o, H l = some o) ∧ EntVs (mo W X) H vs es ∧ owned es = [] ∧
  ∀ d v H', K d → Ex W.M H H' → W.inv H' → Rep (mo W X) H' v d → Q v H'
theorem ents_of {M : Addr → Prop} {H : Hp} {vs : List V} {es : List Ent} (r : EntVs M H vs es) (n : Nat) : EntsOk M H (vs.map some ++ List.replicate n none) (es ++ List.replicate n .no) := by
  induction r with
  | nil =>
    induction n with
    | zero => exact .nil
    | succ n ih => exact .cons trivial ih
  | @cons v vs e es h t ih =>
    refine .cons ?_ ih
    cases e with
    | no => trivial
    | d d => exact ⟨v, rfl, h⟩
    | raw u => exact congrArg some (show v = u from h)
    | own a ds => obtain ⟨q, us, e1, r⟩ := h; exact ⟨congrArg some q, us, e1, r⟩
theorem owned_append (G G' : List Ent) : owned (G ++ G') = owned G ++ owned G' := List.filterMap_append
theorem owned_rep (n : Nat) : owned (List.replicate n .no) = [] := by
  induction n with
  | zero => rfl
  | succ n ih => exact ih
theorem fn_start {N ps : List Str} {t : TS} {pre : Wd → List Ent → (D → Prop) → Prop} (hb : ∀ W es K, pre W es K → es.length = ps.length ∧ St W (es ++ List.replicate (N.length - es.length) .no) t { nx := fun _ => K .non, rt := K }) {vs : List V} {H : Hp} {Q : VK} {E : XK} (h : FSp pre vs H Q E) :
    t { nx := fun _ H' => Q .non H', rt := Q } (L2.start N vs) H := by
  obtain ⟨W, X, es, K, hp, inv, hX, hv, ho, q⟩ := h
  obtain ⟨hl, hs⟩ := hb W es K hp
  have ow : owned (es ++ List.replicate (N.length - es.length) .no) = [] := by rw [owned_append, ho, owned_rep]; rfl
  have en : Env W X H (L2.start N vs) (es ++ List.replicate (N.length - es.length) .no) := by
    refine ⟨?_, by rw [ow]; exact List.nodup_nil, fun l hl => (by rw [ow] at hl; cases hl), hX, inv⟩
    unfold L2.start
    rw [ow, hv.length, List.append_nil]
    exact ents_of hv _
  refine hs X [] H _ H ⟨en, Ex.refl _ _, fun l hl => (by rw [ow] at hl; cases hl)⟩ _ ⟨fun G σ H' k o => ?_, fun _ _ _ z => z.elim, fun _ _ _ z => z.elim, fun d v H' k ex inv r => q d v H' k (ex.weak ?_) inv r⟩
  · exact q .non .non H' k (o.ex.weak fun a m => m.elim id fun z => nomatch z) o.env.inv .non
  · exact fun a m => m.elim id fun z => nomatch z
theorem fn_len {pre : Wd → List Ent → (D → Prop) → Prop} {n : Nat} (hb : ∀ W es K, pre W es K → es.length = n) {vs : List V} {H : Hp} {Q : VK} {E : XK} (h : FSp pre vs H Q E) : vs.length = n := by
  obtain ⟨W, X, es, K, hp, inv, hX, hv, ho, q⟩ := h
  rw [hv.length, hb W es K hp]
section
variable {W : Wd} {G : List Ent} {KK : D → Prop} {pre : Wd → List Ent → (D → Prop) → Prop} {ta : TA} {E : XK}
theorem owned_nil {es : List Ent} (h : ∀ a ds, Ent.own a ds ∉ es) : owned es = [] := by
  unfold owned
  rw [List.filterMap_eq_nil_iff]
  intro e he
  cases e with
  | own a ds => exact absurd he (h a ds)
  | _ => rfl
theorem ev_call (h : EvA W G ta fun es => owned es = [] ∧ pre W es KK) : Ev W G (tCall (FSp pre) [] E ta) KK := fun X σ H E1 Q q =>
  h X σ H E1 _ fun es vs H' ⟨ho, k⟩ _ ex inv r => by
    refine ⟨W, X ++ owned G, es, KK, k, inv, fun l hl => ?_, by rw [List.append_nil]; exact r, ho, fun d v H2 k2 ex2 inv2 r2 => q d v H2 k2 (ex.trans ex2) inv2 r2⟩
    have E2 := E1.mono ex inv
    rcases List.mem_append.mp hl with z | z
    · exact E2.xs l z
    · exact ⟨(E2.ap l z).1, mo_there E2 l (.inr (List.mem_append_right _ z))⟩
end
end Pd

namespace Pd
open PySem L2 RZ PyProof.Rows
/-! ### rules over several kinds at once -/
theorem OpR.or2 {X : Cx} {f : Value → Value → Sem Value} {r r' : R2} (h : OpR X f r) (h' : OpR X f r') : OpR X f (fun x y H Q => r x y H Q ∨ r' x y H Q) := by
  intro pins s σ H x y v u Q I rx ry q
  rcases q with q | q
  · exact h pins s σ H x y v u Q I rx ry q
  · exact h' pins s σ H x y v u Q I rx ry q
def rAddI : R2 := rI0 fun i j => .int (i + j)
def rAddS : R2 := fun x y H Q => ∃ i j, x = .str i ∧ y = .str j ∧ i.length + j.length ≤ sizeLine ∧ Q (.str (i ++ j)) H
/-- + -/
def rPlus (K : PySem.W.Frag) : R2 := fun x y H Q => rAddI x y H Q ∨ rCatA K x y H Q ∨ rCat x y H Q ∨ rAddS x y H Q
theorem op_plus {X : Cx} : OpR X (binaryOp .Add) (rPlus X.K) := OpR.or2 op_add (OpR.or2 op_catA (OpR.or2 op_cat op_add_str))
/-- * -/
def rTimes (K : PySem.W.Frag) : R2 := fun x y H Q => rI CMul (fun i j => .int (i * j)) x y H Q ∨ rRep x y H Q ∨ rRepT K x y H Q
theorem op_times {X : Cx} : OpR X (binaryOp .Mult) (rTimes X.K) := OpR.or2 op_mul (OpR.or2 op_rep op_repT)
/-- any slice -/
def rSl3 (K : PySem.W.Frag) : V → Option Int → Option Int → Hp → VK → Prop := fun x lo hi H Q => rSlA K x lo hi H Q ∨ rSlL K x lo hi H Q
theorem sl_any {X : Cx} : SlR X (rSl3 X.K) := sl_tupA.or sl_list
section
variable {W : Wd} {G : List Ent} {te ta tb tc tl : TE} {t u : TT} {E : Post} {K : PySem.W.Frag} {KK : D → Prop} {KB : Bool → Prop}
theorem opd_plusI {i j : Int} (k : KK (.int (i + j))) : OpD (rPlus K) (.int i) (.int j) KK := fun Mw M v u H r1 r2 th Q q => .inl (opd_add k Mw M v u H r1 r2 th Q q)
theorem opd_plusT {xs ys : List D} (hl : xs.length + ys.length ≤ 100000) (k : KK (.tup (xs ++ ys))) : OpD (rPlus K) (.tup xs) (.tup ys) KK := fun Mw M v u H r1 r2 th Q q => .inr (.inl (opd_catT hl k Mw M v u H r1 r2 th Q q))
theorem fresh_list {M : Addr → Prop} {H : Hp} {p : Addr} {vs : List V} {ds : List D} (th : ∀ a, M a → ∃ o, H a = some o) (hp : H p = none) (r : RepAll M H vs ds) : Rep M (upd H p (.lst vs)) (.ref p) (.lst ds) :=
  .lst (fun m => by obtain ⟨o, e⟩ := th p m; rw [hp] at e; cases e) upd_same (r.mono (Ex.new (M := fun _ => False) hp) fun _ m => m.elim)
theorem opd_plusL {xs ys : List D} (hl : xs.length + ys.length ≤ 100000) (k : KK (.lst (xs ++ ys))) : OpD (rPlus K) (.lst xs) (.lst ys) KK := fun Mw M v u H r1 r2 th Q q => by
  obtain ⟨a, vs, rfl, ha, r⟩ := r1.lst
  obtain ⟨b, us, rfl, hb, s⟩ := r2.lst
  exact .inr (.inr (.inl ⟨a, b, vs, us, rfl, rfl, ha, hb, small_le (by rw [r.length, s.length]; exact hl), fun p hp => q _ _ _ k (fun _ => Ex.new hp) (fresh_list th hp (r.append s))⟩))
theorem opd_timesI {i j : Int} (c : CMul i j) (k : KK (.int (i * j))) : OpD (rTimes K) (.int i) (.int j) KK := fun Mw M v u H r1 r2 th Q q => .inl (opd_mul c k Mw M v u H r1 r2 th Q q)
theorem opd_timesL {xs : List D} {n : Int} (h0 : -(2 ^ 63) ≤ n) (h1 : n < 2 ^ 63) (hl : xs.length * n.toNat ≤ 100000) (k : KK (.lst (List.replicate n.toNat xs).flatten)) : OpD (rTimes K) (.lst xs) (.int n) KK := fun Mw M v u H r1 r2 th Q q => by
  obtain ⟨a, vs, rfl, ha, r⟩ := r1.lst
  rw [r2.int]
  exact .inr (.inl ⟨a, n, vs, rfl, rfl, ha, h0, h1, small_le (by rw [r.length]; exact hl), fun p hp => q _ _ _ k (fun _ => Ex.new hp) (fresh_list th hp (rep_flat r _))⟩)
theorem opd_timesT {xs : List D} {n : Int} (h0 : 2 ≤ n) (h1 : n ≤ 1000) (hl : xs.length ≤ 1000) (hne : xs ≠ []) (k : KK (.tup (List.replicate n.toNat xs).flatten)) : OpD (rTimes K) (.tup xs) (.int n) KK := fun Mw M v u H r1 r2 th Q q => by
  obtain ⟨a, vs, rfl, ha, r⟩ := r1.tup
  rw [r2.int]
  refine .inr (.inr ⟨a, n, vs, rfl, rfl, .inl (.inl ha), fun e => ?_, h0, h1, by rw [r.length]; exact hl, fun p hp => q _ _ _ k (fun _ => Ex.new hp) (.tup upd_same ((rep_flat r _).mono (Ex.new (M := fun _ => False) hp) fun _ m => m.elim))⟩)
  subst e; cases r; exact hne rfl
/-- slices of data -/
theorem ev_sl {tlo thi : TO} (h : EvB W G te fun x => (∃ ds, x = .tup ds ∧ EvO W G tlo fun lo => EvO W G thi fun hi => KK (.tup (cutD ds lo hi))) ∨ (∃ ds, x = .lst ds ∧ EvO W G tlo fun lo => EvO W G thi fun hi => KK (.lst (cutD ds lo hi)))) : Ev W G (tSl (rSl3 K) te tlo thi) KK := fun X σ H E Q q =>
  h X σ H E _ fun x v H1 k e1 i1 r1 => by
    rcases k with ⟨ds, rfl, k⟩ | ⟨ds, rfl, k⟩
    · refine k X σ H1 (E.mono e1 i1) _ fun lo H2 k2 e2 i2 => k2 X σ H2 ((E.mono e1 i1).mono e2 i2) _ fun hi H3 k3 e3 i3 => ?_
      obtain ⟨a, vs, rfl, ha, r⟩ := (r1.mono (e2.trans e3)).tup
      have e := (e1.trans e2).trans e3
      have k3 : KK (.tup (cutD ds lo hi)) := k3
      refine .inl ⟨a, vs, rfl, .inl (.inl ha), fun hw => ?_, fun _ p hp => ?_⟩
      · rw [r.length] at hw
        rw [cutD_whole hw] at k3
        exact q _ _ H3 k3 e i3 (.tup ha r)
      · exact q _ _ _ k3 (e.trans (Ex.new hp)) (inv_same i3 fun _ => Ex.new hp) (.tup upd_same ((cut_rep r).mono (Ex.new (M := fun _ => False) hp) fun _ m => m.elim))
    · refine k X σ H1 (E.mono e1 i1) _ fun lo H2 k2 e2 i2 => k2 X σ H2 ((E.mono e1 i1).mono e2 i2) _ fun hi H3 k3 e3 i3 => ?_
      obtain ⟨a, vs, rfl, ha, r⟩ := (r1.mono (e2.trans e3)).lst
      have e := (e1.trans e2).trans e3
      have E3 := ((E.mono e1 i1).mono e2 i2).mono e3 i3
      exact .inr ⟨a, vs, rfl, .inl (.inl ha), fun p hp => q _ _ _ k3 (e.trans (Ex.new hp)) (inv_same i3 fun _ => Ex.new hp) (fresh_list (mo_there E3) hp (cut_rep r))⟩
theorem evl_sl {KL : List D → Prop} {tlo thi : TO} (h : EvB W G te fun x => ∃ ds, x = .lst ds ∧ EvO W G tlo fun lo => EvO W G thi fun hi => KL (cutD ds lo hi)) : EvL W G (tSl (rSl3 K) te tlo thi) KL := fun X σ H E Q q =>
  h X σ H E _ fun x v H1 k e1 i1 r1 => by
    obtain ⟨ds, rfl, k⟩ := k
    refine k X σ H1 (E.mono e1 i1) _ fun lo H2 k2 e2 i2 => k2 X σ H2 ((E.mono e1 i1).mono e2 i2) _ fun hi H3 k3 e3 i3 => ?_
    obtain ⟨a, vs, rfl, ha, r⟩ := (r1.mono (e2.trans e3)).lst
    exact .inr ⟨a, vs, rfl, .inl (.inl ha), evl_new E q ((e1.trans e2).trans e3) i3 k3 (cut_rep r)⟩

/-! ### arguments: data or own lists, told as data -/
/-- what an entry is as data -/
def entD : Ent → Option D
  | .d d => some d
  | .own _ ds => some (.lst ds)
  | _ => none
theorem entV_lst {M : Addr → Prop} {H : Hp} {v : V} {e : Ent} {ds : List D} (r : EntV M H v e) (h : entD e = some (.lst ds)) : ∃ a vs, v = .ref a ∧ H a = some (.lst vs) ∧ RepAll M H vs ds := by
  cases e with
  | d d =>
    cases h
    cases (show Rep M H v (.lst ds) from r) with
    | lst n h r => exact ⟨_, _, rfl, h, r⟩
  | own a ds' =>
    cases h
    obtain ⟨q, vs, e1, r⟩ := r
    exact ⟨a, vs, q, e1, r⟩
  | no => cases h
  | raw v => cases h
theorem entV_tup {M : Addr → Prop} {H : Hp} {v : V} {e : Ent} {ds : List D} (r : EntV M H v e) (h : entD e = some (.tup ds)) : ∃ a vs, v = .ref a ∧ H a = some (.tup vs) ∧ RepAll M H vs ds := by
  cases e with
  | d d =>
    cases h
    cases (show Rep M H v (.tup ds) from r) with
    | tup h r => exact ⟨_, _, rfl, h, r⟩
  | own a ds' => cases h
  | no => cases h
  | raw v => cases h
theorem vs1 {M : Addr → Prop} {H : Hp} {vs : List V} {e : Ent} (r : EntVs M H vs [e]) : ∃ v, vs = [v] ∧ EntV M H v e := by
  cases r with
  | cons r t => cases t; exact ⟨_, rfl, r⟩
theorem vs2 {M : Addr → Prop} {H : Hp} {vs : List V} {e f : Ent} (r : EntVs M H vs [e, f]) : ∃ v u, vs = [v, u] ∧ EntV M H v e ∧ EntV M H u f := by
  cases r with
  | cons r t =>
    cases t with
    | cons s t => cases t; exact ⟨_, _, rfl, r, s⟩
/-! len -/
def rLen1 (K : PySem.W.Frag) : List V → Hp → VK → Prop := fun xs H Q => ∃ x n, xs = [x] ∧ LenV K x H n ∧ Q (.int n) H
theorem call_len1 {X : Cx} : CallR X (.builtin "len") (rLen1 X.K) := call_len
theorem cd_len {e : Ent} {ds : List D} (h : entD e = some (.lst ds) ∨ entD e = some (.tup ds)) (k : KK (.int ds.length)) : CallD (rLen1 K) [e] KK := fun M vs H r0 th Q q => by
  obtain ⟨v, rfl, r⟩ := vs1 r0
  rcases h with h | h
  · obtain ⟨a, us, rfl, ha, s⟩ := entV_lst r h
    exact ⟨_, us.length, rfl, .inl ⟨us, .inl (.inl ha), rfl⟩, by rw [s.length]; exact q _ _ H k (fun _ => Ex.refl _ _) (.int _)⟩
  · obtain ⟨a, us, rfl, ha, s⟩ := entV_tup r h
    exact ⟨_, us.length, rfl, .inr ⟨us, .inl (.inl ha), rfl⟩, by rw [s.length]; exact q _ _ H k (fun _ => Ex.refl _ _) (.int _)⟩
/-! tuple(x), list(x) -/
def rTupOf (K : PySem.W.Frag) : List V → Hp → VK → Prop := fun xs H Q => ∃ p ys, xs = [.ref p] ∧ ((SqL K H p ys ∧ ∀ l, H l = none → Q (.ref l) (upd H l (.tup ys))) ∨ (SqT K H p ys ∧ Q (.ref p) H))
theorem call_tup1 {X : Cx} : CallR X (.type "tuple") (rTupOf X.K) := call_tuple_of
theorem cd_tupL {e : Ent} {ds : List D} (h : entD e = some (.lst ds)) (k : KK (.tup ds)) : CallD (rTupOf K) [e] KK := fun M vs H r0 th Q q => by
  obtain ⟨v, rfl, r⟩ := vs1 r0
  obtain ⟨a, us, rfl, ha, s⟩ := entV_lst r h
  exact ⟨a, us, rfl, .inl ⟨.inl (.inl ha), fun p hp => q _ _ _ k (fun _ => Ex.new hp) (.tup upd_same (s.mono (Ex.new (M := fun _ => False) hp) fun _ m => m.elim))⟩⟩
theorem cd_tupT {e : Ent} {ds : List D} (h : entD e = some (.tup ds)) (k : KK (.tup ds)) : CallD (rTupOf K) [e] KK := fun M vs H r0 th Q q => by
  obtain ⟨v, rfl, r⟩ := vs1 r0
  obtain ⟨a, us, rfl, ha, s⟩ := entV_tup r h
  exact ⟨a, us, rfl, .inr ⟨.inl (.inl ha), q _ _ _ k (fun _ => Ex.refl _ _) (.tup ha s)⟩⟩
def rLstOf (K : PySem.W.Frag) : List V → Hp → VK → Prop := fun xs H Q => ∃ p ys, xs = [.ref p] ∧ (SqL K H p ys ∨ SqT K H p ys) ∧ ∀ l, H l = none → Q (.ref l) (upd H l (.lst ys))
theorem call_lst1 {X : Cx} : CallR X (.type "list") (rLstOf X.K) := call_list_of
theorem evl_listOf {KL : List D → Prop} {tt : TA} (h : EvA W G tt fun es => ∃ e ds, es = [e] ∧ (entD e = some (.lst ds) ∨ entD e = some (.tup ds)) ∧ KL ds) : EvL W G (tCB (rLstOf K) tt) KL := fun X σ H E Q q =>
  h X σ H E _ fun es vs H' ⟨e, ds, he, hd, k⟩ ho ex inv r0 => by
    subst he
    obtain ⟨v, rfl, r⟩ := vs1 r0
    rcases hd with hd | hd
    · obtain ⟨a, us, rfl, ha, s⟩ := entV_lst r hd
      exact ⟨a, us, rfl, .inl (.inl (.inl ha)), evl_new E q ex inv k s⟩
    · obtain ⟨a, us, rfl, ha, s⟩ := entV_tup r hd
      exact ⟨a, us, rfl, .inr (.inl (.inl ha)), evl_new E q ex inv k s⟩
/-! all, any of flags -/
theorem cd_all {e : Ent} {bs : List Bool} (h : entD e = some (.lst (bs.map D.bl))) (k : KK (.bl (bs.all id))) : CallD (rAll K) [e] KK := fun M vs H r0 th Q q => by
  obtain ⟨v, rfl, r⟩ := vs1 r0
  obtain ⟨a, us, rfl, ha, s⟩ := entV_lst r h
  have e := RepAll.bls s
  subst e
  exact ⟨a, bs, rfl, .inl (.inl ha), q _ _ H k (fun _ => Ex.refl _ _) (.bl _)⟩
theorem cd_any {e : Ent} {bs : List Bool} (h : entD e = some (.lst (bs.map D.bl))) (k : KK (.bl (bs.any id))) : CallD (rAny K) [e] KK := fun M vs H r0 th Q q => by
  obtain ⟨v, rfl, r⟩ := vs1 r0
  obtain ⟨a, us, rfl, ha, s⟩ := entV_lst r h
  have e := RepAll.bls s
  subst e
  exact ⟨a, bs, rfl, .inl (.inl ha), q _ _ H k (fun _ => Ex.refl _ _) (.bl _)⟩
/-! max, min of two; int, bool -/
def rMax2 : List V → Hp → VK → Prop := fun xs H Q => ∃ i j, xs = [.int i, .int j] ∧ Q (.int (if j > i then j else i)) H
theorem call_max2' {X : Cx} (hc : X.calm = true) : CallR X (.builtin "max") rMax2 := call_max2 hc
theorem cd_max2 {i j : Int} (k : KK (.int (if j > i then j else i))) : CallD rMax2 [.d (.int i), .d (.int j)] KK := fun M vs H r0 th Q q => by
  obtain ⟨v, u, rfl, r, s⟩ := vs2 r0
  cases (show Rep M H v (.int i) from r); cases (show Rep M H u (.int j) from s)
  exact ⟨i, j, rfl, q _ _ H k (fun _ => Ex.refl _ _) (.int _)⟩
def rMin2 : List V → Hp → VK → Prop := fun xs H Q => ∃ i j, xs = [.int i, .int j] ∧ Q (.int (if j < i then j else i)) H
theorem call_min2' {X : Cx} (hc : X.calm = true) : CallR X (.builtin "min") rMin2 := call_min2 hc
theorem cd_min2 {i j : Int} (k : KK (.int (if j < i then j else i))) : CallD rMin2 [.d (.int i), .d (.int j)] KK := fun M vs H r0 th Q q => by
  obtain ⟨v, u, rfl, r, s⟩ := vs2 r0
  cases (show Rep M H v (.int i) from r); cases (show Rep M H u (.int j) from s)
  exact ⟨i, j, rfl, q _ _ H k (fun _ => Ex.refl _ _) (.int _)⟩
def rInt1 : List V → Hp → VK → Prop := fun xs H Q => (∃ i, xs = [.int i] ∧ Q (.int i) H) ∨ ∃ k, xs = [.bl k] ∧ Q (.int (if k then 1 else 0)) H
theorem call_int1' {X : Cx} : CallR X (.type "int") rInt1 := call_int1
theorem cd_int {i : Int} (k : KK (.int i)) : CallD rInt1 [.d (.int i)] KK := fun M vs H r0 th Q q => by
  obtain ⟨v, rfl, r⟩ := vs1 r0
  cases (show Rep M H v (.int i) from r)
  exact .inl ⟨i, rfl, q _ _ H k (fun _ => Ex.refl _ _) (.int _)⟩
def rBool1 : List V → Hp → VK → Prop := fun xs H Q => (∃ i, xs = [.int i] ∧ Q (.bl (i != 0)) H) ∨ ∃ k, xs = [.bl k] ∧ Q (.bl k) H
theorem call_bool1' {X : Cx} : CallR X (.type "bool") rBool1 := call_bool1
theorem cd_boolI {i : Int} (k : KK (.bl (i != 0))) : CallD rBool1 [.d (.int i)] KK := fun M vs H r0 th Q q => by
  obtain ⟨v, rfl, r⟩ := vs1 r0
  cases (show Rep M H v (.int i) from r)
  exact .inl ⟨i, rfl, q _ _ H k (fun _ => Ex.refl _ _) (.bl _)⟩
/-! sorted of ints -/
theorem evl_sortedI {KL : List D → Prop} {tt : TA} (h : EvA W G tt fun es => ∃ e ns, es = [e] ∧ entD e = some (.lst (ns.map D.int)) ∧ ∀ ns' : List Int, ns'.Perm ns → ns'.Pairwise (· ≤ ·) → KL (ns'.map D.int)) : EvL W G (tCB (rSortedI K) tt) KL := fun X σ H E Q q =>
  h X σ H E _ fun es vs H' ⟨e, ns, he, hd, k⟩ ho ex inv r0 => by
    subst he
    obtain ⟨v, rfl, r⟩ := vs1 r0
    obtain ⟨a, us, rfl, ha, s⟩ := entV_lst r hd
    have e := RepAll.ints s
    subst e
    exact ⟨a, ns, rfl, .inl (.inl ha), fun ns' p pm pw hp => evl_new E q ex inv (k ns' pm pw) (RepAll.of_ints ns') p hp⟩
/-! ranges as tuples and lists -/
theorem rgV_rep {M : Addr → Prop} {H : Hp} (a b : Int) : RepAll M H (rgV a b) (intsUp a (b - a).toNat) := by
  unfold rgV intsUp
  generalize List.range (b - a).toNat = l
  induction l with
  | nil => exact .nil
  | cons x l ih => exact .cons (.int _) ih
def EvR (W : Wd) (G : List Ent) (tr : L2.St → Hp → (Int → Int → Hp → Prop) → Prop) (K : Int → Int → Prop) : Prop := ∀ X σ H, Env W X H σ G → ∀ Q : Int → Int → Hp → Prop, (∀ a b H', K a b → Ex W.M H H' → W.inv H' → Q a b H') → tr σ H Q
theorem evr_1 {KR : Int → Int → Prop} (h : Ev W G ta fun x => ∃ n, x = .int n ∧ KR 0 n) : EvR W G (tRg1 ta) KR := fun X σ H E Q q =>
  h X σ H E _ fun d v H' k ex inv r => by
    obtain ⟨n, rfl, k⟩ := k
    cases r
    exact ⟨n, rfl, q _ _ H' k ex inv⟩
theorem evr_2 {KR : Int → Int → Prop} (h : Ev W G ta fun x => Ev W G tb fun y => ∃ a b, x = .int a ∧ y = .int b ∧ KR a b) : EvR W G (tRg2 ta tb) KR := fun X σ H E Q q =>
  h X σ H E _ fun x v H1 k e1 i1 r1 => k X σ H1 (E.mono e1 i1) _ fun y u H2 k2 e2 i2 r2 => by
    obtain ⟨a, b, rfl, rfl, k2⟩ := k2
    cases r1; cases r2
    exact ⟨a, b, rfl, rfl, q _ _ H2 k2 (e1.trans e2) i2⟩
theorem ev_tupRg {tr : L2.St → Hp → (Int → Int → Hp → Prop) → Prop} (h : EvR W G tr fun a b => RgOk a b ∧ KK (.tup (intsUp a (b - a).toNat))) : Ev W G (tTupRg tr) KK := fun X σ H E Q q =>
  h X σ H E _ fun a b H' ⟨ok, k⟩ ex inv => ⟨ok, fun p hp => q _ _ _ k (ex.trans (Ex.new hp)) (inv_same inv fun _ => Ex.new hp) (.tup upd_same (rgV_rep a b))⟩
theorem evl_lstRg {KL : List D → Prop} {tr : L2.St → Hp → (Int → Int → Hp → Prop) → Prop} (h : EvR W G tr fun a b => RgOk a b ∧ KL (intsUp a (b - a).toNat)) : EvL W G (tLstRg tr) KL := fun X σ H E Q q =>
  h X σ H E _ fun a b H' ⟨ok, k⟩ ex inv => ⟨ok, evl_new E q ex inv k (rgV_rep a b)⟩
/-! isinstance -/
/-- the built-in type of plain data -/
def tyD : D → Option String
  | .non => some "NoneType"
  | .bl _ => some "bool"
  | .int _ => some "int"
  | .str _ => some "str"
  | .tup _ => some "tuple"
  | .lst _ => some "list"
  | .dct => some "dict"
  | .rg _ _ => none
  | .obj _ _ _ => none
/-- is an object of the class at C one of the class at C' -/
structure ObjC (K : PySem.W.Frag) (C : Addr) : Prop where
  cl : Cls K C
  ha : PySem.W.findIn K (.ref C) "__class__" = some (some (.builtin "object.__class__"))
  hn : PySem.W.specialIn K (.builtin "object.__class__") "__get__" = some (some (.builtin "getset_descriptor.__get__"))
  ht : PySem.W.takesIn K (.builtin "object.__class__") = some true
  hm : PySem.W.mroIn K C (.type "object") = some true
theorem ty_rep {M : Addr → Prop} {H : Hp} {v : V} {d : D} {n : String} (r : Rep M H v d) (h : tyD d = some n) : TyX K H v (.type n) := by
  cases r with
  | non => cases h; exact .base .non
  | bl b => cases h; exact .base (.bl b)
  | int i => cases h; exact .base (.int i)
  | str x => cases h; exact .base (.str x)
  | tup e _ => cases h; exact .base (.tup e)
  | lst _ e _ => cases h; exact .base (.lst e)
  | dct e => cases h; exact .base (.dK e)
  | rg e => cases h
  | obj _ _ _ _ => cases h
theorem cd_isi {d : D} {n T : String} {b : Bool} (h : tyD d = some n) (hk : kitB n T = some b) (k : KK (.bl b)) : CallD (rIsi K) [.d d, .raw (.ty T)] KK := fun M vs H r0 th Q q => by
  obtain ⟨v, u, rfl, r, s⟩ := vs2 r0
  cases (show u = .ty T from s)
  exact ⟨v, .ty T, .type n, .type T, b, rfl, .ty T, ty_rep r h, kit_ty hk, q _ _ H k (fun _ => Ex.refl _ _) (.bl _)⟩
theorem cd_isiOT {C : Addr} {ns : List Str} {ds : List D} {T : String} {b : Bool} (oc : ObjC K C) (hk : PySem.W.kitOne K (.ref C) (.type T) = some b) (k : KK (.bl b)) : CallD (rIsi K) [.d (.obj C ns ds), .raw (.ty T)] KK := fun M vs H r0 th Q q => by
  obtain ⟨v, u, rfl, r, s⟩ := vs2 r0
  cases (show u = .ty T from s)
  cases (show Rep M H v (.obj C ns ds) from r) with
  | obj e _ _ _ => exact ⟨_, .ty T, .ref C, .type T, b, rfl, .ty T, .base (.ins e oc.cl oc.ha oc.hn oc.ht oc.hm), hk, q _ _ H k (fun _ => Ex.refl _ _) (.bl _)⟩
theorem cd_isiOC {C C' : Addr} {ns : List Str} {ds : List D} {b : Bool} (oc : ObjC K C) (hk : PySem.W.kitOne K (.ref C) (.ref C') = some b) (k : KK (.bl b)) : CallD (rIsi K) [.d (.obj C ns ds), .raw (.ref C')] KK := fun M vs H r0 th Q q => by
  obtain ⟨v, u, rfl, r, s⟩ := vs2 r0
  cases (show u = .ref C' from s)
  cases (show Rep M H v (.obj C ns ds) from r) with
  | obj e _ _ _ => exact ⟨_, .ref C', .ref C, .ref C', b, rfl, .own C', .base (.ins e oc.cl oc.ha oc.hn oc.ht oc.hm), hk, q _ _ H k (fun _ => Ex.refl _ _) (.bl _)⟩
theorem cd_isiDC {d : D} {n : String} {C' : Addr} {b : Bool} (h : tyD d = some n) (hk : PySem.W.kitOne K (.type n) (.ref C') = some b) (k : KK (.bl b)) : CallD (rIsi K) [.d d, .raw (.ref C')] KK := fun M vs H r0 th Q q => by
  obtain ⟨v, u, rfl, r, s⟩ := vs2 r0
  cases (show u = .ref C' from s)
  exact ⟨v, .ref C', .type n, .ref C', b, rfl, .own C', ty_rep r h, hk, q _ _ H k (fun _ => Ex.refl _ _) (.bl _)⟩
end
/-! ### a def as its callers see it -/
def Has (P : Program) (w : World) (K : PySem.W.Frag) (mg : Str → Option Value) (base : Heap) (lv : Nat) (x : Str) (ps : List Str) (sp : Sp) : Prop :=
  ∃ f fd, mg x = some (.ref f) ∧ PySem.W.keepIn K (.ref f) = true ∧ Binds K fd ps [] ∧ FnOk P w K mg base CX0 lv f fd ps sp
theorem pe_has {X : Cx} {lv : Nat} {x : Str} {ps : List Str} {sp : Sp} {e : Expr} {es : List Expr} {t : TA} {p pos : Pos} (h : Has X.prog X.w X.K X.mg X.base lv x ps sp) (hr : Room lv X.A) (ha : PA X (e :: es) t) (hg : Gl X x := by rfl)
    (hdb : (x == ("__debug__" : Str)) = false := by decide)
    (he : starEach (e :: es) X.env = (false, eval e X.env) :: starEach es X.env := by rfl) (hpl : (backTo pos (starEach es X.env)).any (·.1) = false := by rfl) : PE X (.Call (.Name x p) (e :: es) [] pos) (tCall sp [] E0 t) := by
  obtain ⟨f, fd, hm, hk, hb, F⟩ := h
  exact pe_call F hr hg hm hk hb .nil pass0 ha hdb he hpl
end Pd

namespace Pd
open PySem L2 RZ PyProof.Rows
theorem hu65 {A : Around} {k : Nat} (hr : Room k A) : A.units + 64 < cLine := by have := hr.un; omega
theorem pe_globI {X : Cx} {x : Str} {i : Int} {pos : Pos} (h : ∃ t, X.mg x = some (.int i t)) (hg : Gl X x := by rfl) (hd : (x == ("__debug__" : Str)) = false := by decide) : PE X (.Name x pos) (tC (.int i)) := by
  obtain ⟨t, h⟩ := h
  exact pe_glob hg h ⟨t, rfl⟩ hd
def rAbs : List V → Hp → VK → Prop := fun xs H Q => ∃ i, xs = [.int i] ∧ Q (.int (if i < 0 then -i else i)) H
theorem call_abs' {X : Cx} : CallR X (.builtin "abs") rAbs := call_abs
/-- arguments whose entries are told one by one -/
theorem eva_one {W : Wd} {G : List Ent} {te : TE} {K : List Ent → Prop} (h : EvE W G te fun e => K [e]) : EvA W G (tCons te tNil) K := eva_cons fun X σ H E Q q => h X σ H E _ fun e v H' k ho ex inv r => q e v H' (eva_nil k) ho ex inv r
/-- isinstance(d, T), T one of the usual built-in types, d no object of a class -/
def isTy (T : String) : D → Bool
  | .non => false
  | .bl _ => T == "bool" || T == "int"
  | .int _ => T == "int"
  | .str _ => T == "str"
  | .tup _ => T == "tuple"
  | .lst _ => T == "list"
  | .dct => T == "dict"
  | .rg _ _ => false
  | .obj _ _ _ => false
def usual : List String := ["int", "bool", "tuple", "list", "str", "dict"]
def tyNames : List String := ["NoneType", "bool", "int", "str", "tuple", "list", "dict"]
theorem kit_table : (tyNames.all fun n => usual.all fun T => kitB n T == some (n == T || (n == "bool" && T == "int"))) = true := by decide +kernel
theorem kit_at {n T : String} (hn : n ∈ tyNames) (hT : T ∈ usual) : kitB n T = some (n == T || (n == "bool" && T == "int")) :=
  eq_of_beq (List.all_eq_true.mp (List.all_eq_true.mp kit_table n hn) T hT)
theorem isTy_eq {d : D} {n T : String} (h : tyD d = some n) (hT : T ∈ usual) : kitB n T = some (isTy T d) := by
  have hT' : T = "int" ∨ T = "bool" ∨ T = "tuple" ∨ T = "list" ∨ T = "str" ∨ T = "dict" := by simpa [usual] using hT
  have hn : n ∈ tyNames := by cases d <;> cases h <;> simp [tyNames]
  rw [kit_at hn hT]
  cases d <;> cases h <;> rcases hT' with rfl | rfl | rfl | rfl | rfl | rfl <;> rfl
section
variable {W : Wd} {G : List Ent} {te ta tb : TE} {KK : D → Prop} {K : PySem.W.Frag}
theorem cd_isT {d : D} {n T : String} (h : tyD d = some n) (hT : T ∈ usual) (k : KK (.bl (isTy T d))) : CallD (rIsi K) [.d d, .raw (.ty T)] KK := cd_isi h (isTy_eq h hT) k
end
end Pd

/-! Masks: bits of numbers that are not negative. -/
namespace Bm
open PySem
theorem and_nn (m n : Nat) : Builtin.bitAnd (m : Int) (n : Int) = ((m &&& n : Nat) : Int) := PyProof.Rows.bitAnd_pp (Int.natCast_nonneg _) (Int.natCast_nonneg _)
theorem or_nn (m n : Nat) : Builtin.bitOr (m : Int) (n : Int) = ((m ||| n : Nat) : Int) := Bits.bitOr_pp (Int.natCast_nonneg _) (Int.natCast_nonneg _)
theorem xor_nn (m n : Nat) : Builtin.bitXor (m : Int) (n : Int) = ((m ^^^ n : Nat) : Int) := Bits.bitXor_pp (Int.natCast_nonneg _) (Int.natCast_nonneg _)
theorem shl_one (k : Nat) : (1 : Int) * 2 ^ ((k : Int)).toNat = ((2 ^ k : Nat) : Int) := by
  rw [Int.one_mul, Int.toNat_natCast]; simp
theorem shr_nn (m k : Nat) : (m : Int) / 2 ^ ((k : Int)).toNat = ((m / 2 ^ k : Nat) : Int) := by
  rw [Int.toNat_natCast]; simp
theorem bit_and1 (m k : Nat) : (m / 2 ^ k) &&& 1 = (if m.testBit k then 1 else 0) := by
  rw [Nat.and_one_is_mod]
  have h := Nat.testBit_eq_decide_div_mod_eq (x := m) (i := k)
  rw [h]
  by_cases q : m / 2 ^ k % 2 = 1
  · simp [q]
  · have q2 : m / 2 ^ k % 2 = 0 := by omega
    simp [q2]
/-- the lowest bit: m - (m &&& (m - 1)) is a power of two -/
theorem low_exists : ∀ m : Nat, 0 < m → ∃ k, m.testBit k = true ∧ (∀ j, j < k → m.testBit j = false) ∧ m - (m &&& (m - 1)) = 2 ^ k := by
  intro m
  induction m using Nat.strongRecOn with
  | _ m ih =>
    intro h
    by_cases ho : m % 2 = 1
    · refine ⟨0, ?_, fun j hj => absurd hj (by omega), ?_⟩
      · simp [Nat.testBit_zero, ho]
      · have e : m &&& (m - 1) = m - 1 := by
          refine Nat.eq_of_testBit_eq fun i => ?_
          rw [Nat.testBit_and]
          cases i with
          | zero => simp [Nat.testBit_zero]; omega
          | succ i =>
            rw [Nat.testBit_succ, Nat.testBit_succ]
            have : (m - 1) / 2 = m / 2 := by omega
            rw [this]; simp
        rw [e]; omega
    · have he : m % 2 = 0 := by omega
      obtain ⟨k, h1, h2, h3⟩ := ih (m / 2) (by omega) (by omega)
      refine ⟨k + 1, by rw [Nat.testBit_succ]; exact h1, fun j hj => ?_, ?_⟩
      · cases j with
        | zero => simp [Nat.testBit_zero]; omega
        | succ j => rw [Nat.testBit_succ]; exact h2 j (by omega)
      · have e : m &&& (m - 1) = 2 * (m / 2 &&& (m / 2 - 1)) := by
          refine Nat.eq_of_testBit_eq fun i => ?_
          rw [Nat.testBit_and]
          cases i with
          | zero =>
            have z1 : m.testBit 0 = false := by simp [Nat.testBit_zero]; omega
            have z2 : (2 * (m / 2 &&& (m / 2 - 1))).testBit 0 = false := by simp [Nat.testBit_zero]
            rw [z1, z2]; rfl
          | succ i =>
            rw [Nat.testBit_succ, Nat.testBit_succ, Nat.testBit_succ]
            have q1 : (m - 1) / 2 = m / 2 - 1 := by omega
            have q2 : 2 * (m / 2 &&& (m / 2 - 1)) / 2 = (m / 2 &&& (m / 2 - 1)) := by omega
            rw [q1, q2, Nat.testBit_and]
        rw [e, Nat.pow_succ]
        have : m / 2 &&& (m / 2 - 1) ≤ m / 2 := Nat.and_le_left
        omega
theorem and_neg (m : Nat) (h : 0 < m) : Builtin.bitAnd (m : Int) (-(m : Int)) = ((m - (m &&& (m - 1)) : Nat) : Int) := by
  unfold Builtin.bitAnd
  have h1 : decide (0 ≤ (m : Int)) = true := by simp
  have h2 : decide (0 ≤ -(m : Int)) = false := by simp; omega
  rw [h1, h2]
  show (m : Int) - (((m : Int).toNat &&& (Builtin.bitNot (-(m : Int))).toNat : Nat) : Int) = _
  have e : (Builtin.bitNot (-(m : Int))).toNat = m - 1 := by unfold Builtin.bitNot; omega
  rw [e, Int.toNat_natCast]
  have : m &&& (m - 1) ≤ m := Nat.and_le_left
  omega
theorem bits_pow (k : Nat) : Builtin.Int.intBits ((2 ^ k : Nat) : Int) = k + 1 := by
  unfold Builtin.Int.intBits
  have : ((2 ^ k : Nat) : Int) ≠ 0 := by have := Nat.two_pow_pos k; omega
  rw [if_neg (by simpa using this), Int.natAbs_natCast, Nat.log2_two_pow]
/-- strictly rising lists of the same members are one -/
theorem rising_ext : ∀ {xs ys : List Nat}, xs.Pairwise (· < ·) → ys.Pairwise (· < ·) → (∀ k, k ∈ xs ↔ k ∈ ys) → xs = ys
  | [], [], _, _, _ => rfl
  | [], y :: ys, _, _, h => absurd ((h y).mpr (List.mem_cons_self ..)) (by simp)
  | x :: xs, [], _, _, h => absurd ((h x).mp (List.mem_cons_self ..)) (by simp)
  | x :: xs, y :: ys, hx, hy, h => by
    obtain ⟨a1, a2⟩ := List.pairwise_cons.mp hx
    obtain ⟨b1, b2⟩ := List.pairwise_cons.mp hy
    have e : x = y := by
      rcases List.mem_cons.mp ((h x).mp (List.mem_cons_self ..)) with z | z
      · exact z
      · rcases List.mem_cons.mp ((h y).mpr (List.mem_cons_self ..)) with w | w
        · exact w.symm
        · have := a1 y w; have := b1 x z; omega
    subst e
    congr 1
    refine rising_ext a2 b2 fun k => ⟨fun z => ?_, fun z => ?_⟩
    · rcases List.mem_cons.mp ((h k).mp (List.mem_cons_of_mem _ z)) with w | w
      · have := a1 k z; omega
      · exact w
    · rcases List.mem_cons.mp ((h k).mpr (List.mem_cons_of_mem _ z)) with w | w
      · have := b1 k z; omega
      · exact w
/-- the places of the bits below n -/
def bitsTo (n m : Nat) : List Nat := (List.range n).filter fun i => m.testBit i
theorem bitsTo_rising (n m : Nat) : (bitsTo n m).Pairwise (· < ·) := List.Pairwise.filter _ List.pairwise_lt_range
theorem mem_bitsTo {n m k : Nat} : k ∈ bitsTo n m ↔ k < n ∧ m.testBit k = true := by
  unfold bitsTo; rw [List.mem_filter, List.mem_range]
def IsBits (l : List Nat) (m : Nat) : Prop := l.Pairwise (· < ·) ∧ ∀ k, k ∈ l ↔ m.testBit k = true
theorem IsBits.eq {l : List Nat} {n m : Nat} (h : IsBits l m) (hm : m < 2 ^ n) : l = bitsTo n m :=
  rising_ext h.1 (bitsTo_rising n m) fun k => by
    rw [h.2, mem_bitsTo]
    refine ⟨fun z => ⟨?_, z⟩, fun z => z.2⟩
    refine Nat.lt_of_not_le fun q => ?_
    have := Nat.testBit_lt_two_pow (Nat.lt_of_lt_of_le hm (Nat.pow_le_pow_right (by decide) q))
    rw [z] at this; cases this
end Bm
namespace Bm
theorem rising_length : ∀ {l : List Nat} {n : Nat}, l.Pairwise (· < ·) → (∀ k ∈ l, k < n) → l.length ≤ n := by
  have key : ∀ (l : List Nat) (lo n : Nat), l.Pairwise (· < ·) → (∀ k ∈ l, lo ≤ k ∧ k < n) → lo + l.length ≤ max lo n := by
    intro l
    induction l with
    | nil => intro lo n _ _; simp; omega
    | cons x l ih =>
      intro lo n hp hb
      obtain ⟨h1, h2⟩ := List.pairwise_cons.mp hp
      have hx := hb x (List.mem_cons_self ..)
      have := ih (x + 1) n h2 fun k hk => ⟨h1 k hk, (hb k (List.mem_cons_of_mem _ hk)).2⟩
      rw [List.length_cons]; omega
  intro l n hp hb
  have := key l 0 n hp fun k hk => ⟨Nat.zero_le _, hb k hk⟩
  omega
theorem testBit_xor_pow (m k j : Nat) : (m ^^^ 2 ^ k).testBit j = (m.testBit j ^^ decide (k = j)) := by
  rw [Nat.testBit_xor, Nat.testBit_two_pow]
theorem xor_pow_lt {m k : Nat} (h : m.testBit k = true) : m ^^^ 2 ^ k < m := by
  have h1 : (m ^^^ 2 ^ k) + 2 ^ k = m := by
    have e := Bits.nat_xor_add_and m (2 ^ k)
    have a : m &&& 2 ^ k = 2 ^ k := by
      refine Nat.eq_of_testBit_eq fun i => ?_
      rw [Nat.testBit_and, Nat.testBit_two_pow]
      by_cases q : k = i
      · subst q; simp [h]
      · simp [q]
    rw [a] at e; omega
  have := Nat.two_pow_pos k
  omega
theorem lt_of_testBit {m n k : Nat} (h : m < 2 ^ n) (b : m.testBit k = true) : k < n := by
  refine Nat.lt_of_not_le fun q => ?_
  have := Nat.testBit_lt_two_pow (Nat.lt_of_lt_of_le h (Nat.pow_le_pow_right (by decide) q))
  rw [b] at this; cases this
end Bm

namespace PySem
open Builtin
section
variable {prog : Program} {w : World} {A : Around} {E : Value → Shared → Prop} {s : Shared}
theorem pd_meets_enumerate_newT (l : Addr) (items : Array Value) (n : Nat) (dd : Option Addr) (sl : Array (Option Value)) :
    Meets (Builtin.«enumerate.__new__» ⟨[.type "enumerate", .ref l], []⟩) (fun _ R s => s.heap.get? l = some { cls := .type "tuple", dict := dd, data := .seq items n, slots := sl } ∧
      R (.ok (.ret (.ref (s.heap.push { cls := .type "tuple_iterator", data := .fields #[.ref l, .int 0 0] }).objs.size)))
        { s with heap := (s.heap.push { cls := .type "tuple_iterator", data := .fields #[.ref l, .int 0 0] }).push { cls := .type "enumerate", data := .fields #[.none, .bool false, .ref s.heap.objs.size, rawInt 0, .none, .none] } }) :=
  .of_wp fun prog w A R s h => by
    obtain ⟨hp, g, d, tk, os⟩ := s; obtain ⟨hl, h⟩ := h
    have hsub := sub_enumerate
    have hL : Heap.IsTuple (Shared.heap ⟨hp, g, d, tk, os⟩) l items := ⟨_, hl, rfl, n, rfl⟩
    wp_walk using wpAny_loadPart' hl
    refine wpAny_stack_any fun st => wpAny_pure ?_
    split
    · rename_i c _ _ _ _ _
      cases (c == Value.type "enumerate")
      · wp_walk using wpAny_loadPart' hl, wpAny_pyIter_tuple hL
        exact ⟨_, rfl, h⟩
      · wp_walk using wpAny_loadPart' hl, wpAny_pyIter_tuple hL
        exact ⟨_, rfl, h⟩
    · wp_walk using wpAny_loadPart' hl, wpAny_pyIter_tuple hL
      exact ⟨_, rfl, h⟩
theorem pd_call_enumerate_tuple {l : Addr} {items : Array Value} {Q : Value → Shared → Prop} (hL : s.heap.IsTuple l items)
    (h : ∀ h', IsEnum h' (s.heap.objs.size + 1) s.heap.objs.size 0 .none → h'.IsTupleIter s.heap.objs.size l 0 → h'.objs.size = s.heap.objs.size + 2 →
      (∀ b o, s.heap.get? b = some o → h'.get? b = some o) → Q (.ref (s.heap.objs.size + 1)) { s with heap := h' }) :
    wpAny (model prog w) A (call (.type "enumerate") [.ref l]) Q E s := by
  obtain ⟨⟨c, dct, dt, sl⟩, hl, hc, n, hd⟩ := hL
  replace hc : c = .type "tuple" := hc
  replace hd : dt = .seq items n := hd
  subst hc hd
  refine callType_new F.called_enumerate (by decide) (F.typeCall_enumerate_1 _) (F.newCall_enumerate_1 _) (fun obj => F.args_object_init_2 obj _) F.entry_enumerate_new
    (pd_meets_enumerate_newT l items n dct sl) ⟨hl, ?_⟩
  have hz : (s.heap.push { cls := .type "tuple_iterator", data := .fields #[.ref l, .int 0 0] }).objs.size = s.heap.objs.size + 1 := Heap.size_push ..
  show _ ∧ _
  rw [hz]
  have he : IsEnum ((s.heap.push { cls := .type "tuple_iterator", data := .fields #[.ref l, .int 0 0] }).push
      { cls := .type "enumerate", data := .fields #[.none, .bool false, .ref s.heap.objs.size, rawInt 0, .none, .none] }) (s.heap.objs.size + 1) s.heap.objs.size 0 .none := by
    have := Heap.get?_push_size (s.heap.push { cls := .type "tuple_iterator", data := .fields #[.ref l, .int 0 0] })
      (o := { cls := .type "enumerate", data := .fields #[.none, .bool false, .ref s.heap.objs.size, rawInt 0, .none, .none] }) rfl
    rw [hz] at this; exact this
  refine ⟨⟨_, he, rfl⟩, h _ he ⟨_, Heap.get?_push_of_some _ (Heap.get?_push_size _ rfl), rfl, rfl⟩ (by rw [Heap.size_push, hz]) fun b o x => Heap.get?_push_of_some _ (Heap.get?_push_of_some _ x)⟩
end
end PySem
namespace L2
open PySem PySem.Spec PyProof.Rows
/-- enumerate of a tuple: each item in a new pair -/
def IteT (K : PySem.W.Frag) (a : Addr) : It :=
  ⟨fun i H => ∃ (xs : List V) (x : V), SqT K H a xs ∧ xs[i]? = some x, fun i H v H' => ∃ T x, v = .ref T ∧ H T = none ∧ H' = upd H T (.tup [.int (i : Nat), x]) ∧ ∀ xs, SqT K H a xs → xs[i]? = some x, fun i H => ∃ xs : List V, SqT K H a xs ∧ xs.length = i⟩
theorem val_type_ne {a b : String} (h : a ≠ b) : Value.type a ≠ Value.type b := fun z => h (by injection z)
theorem turn_enumT {P : Program} {w : World} {K : PySem.W.Frag} {elts : List Expr} {kk : Nat} {tpos : Pos} (a e it : Addr) :
    Turn P w K (.Tuple elts kk tpos) (IteT K a) [e, it] e (fun i h => (∃ old, IsEnum h e it ((i : Nat) : Int) old) ∧ h.IsTupleIter it a i ∧ e ≠ it) where
  mem := by simp
  obj := fun i h st b hb => by
    obtain ⟨⟨old, he⟩, ⟨o, ho, hc, hd⟩, _⟩ := st
    have e' : b = e ∨ b = it := by simpa using hb
    rcases e' with z | z
    · rw [z]; exact ⟨_, he, fun v q => nomatch q⟩
    · rw [z]; exact ⟨o, ho, fun v q => by rw [hd] at q; cases q⟩
  keep := fun i h h' st k => let ⟨⟨old, he⟩, hi, hne⟩ := st; ⟨⟨old, k e (by simp) _ he⟩, hi.at fun o q => k it (by simp) o q, hne⟩
  item := by
    intro X hP hw hK hc i pins s σ H E I hf st hg
    subst hP hw hK
    obtain ⟨⟨old, he⟩, hit, hne⟩ := st
    obtain ⟨xs, x, hq, hx⟩ := hg
    obtain ⟨its, rv, p, hz⟩ := I.tuple hq
    obtain ⟨u, hu, ru⟩ := rv.get hx
    have hel : e < s.heap.objs.size := Heap.lt_size he
    have hil : it < s.heap.objs.size := by obtain ⟨_, q, _⟩ := hit; exact Heap.lt_size q
    have p' : s.heap.IsTuple a its.toArray := p
    have nea : e ≠ a := fun z => by
      obtain ⟨o, ho, hcl, _⟩ := p'
      rw [← z, he] at ho; cases ho; exact val_type_ne (by decide) hcl
    have neit : a ≠ it := fun z => by
      obtain ⟨o, ho, hcl, _⟩ := p'
      obtain ⟨o2, ho2, hc2, _⟩ := hit
      rw [z, ho2] at ho; cases ho; exact val_type_ne (by decide) (hc2.symm.trans hcl)
    have hin : i < its.toArray.size := by
      have := (List.getElem?_eq_some_iff.mp hu).1
      simpa using this
    refine wpAny_pyNext_enum_itemD (Draws.tuple (A := X.A.in1) (I.ok.hd hc) it a neit its.toArray) he ⟨hit, p'⟩ hin hne (by simp [hne, nea]) fun y h' tk hy ho hst' hT hsz hk => ?_
    obtain ⟨hit', _⟩ := hst'
    have ey : y = u := by
      have hu' : its.toArray[i]? = some u := by simpa using hu
      rw [hu'] at hy; exact (Option.some.inj hy).symm
    subst ey
    refine ⟨_, rfl, wpAny_letOwnedTupleGo_enum (s := { s with heap := h', toks := tk + 1 }) ho fun h'' he' sb => ?_⟩
    have hT2 : h''.get? s.heap.objs.size = some { cls := .type "tuple", data := .seq #[.int i tk, y] } := (sb.2 _ (Nat.ne_of_gt hel)).trans hT
    have new : ObjOk X.prog X.w (upd H s.heap.objs.size (.tup [.int (i : Nat), x])) h'' s.heap.objs.size (.tup [.int (i : Nat), x]) :=
      ⟨by show 2 ≤ sizeLine; decide, [.int i tk, y], .cons ⟨_, rfl⟩ (.cons ru .nil), ⟨_, hT2, rfl, _, rfl⟩⟩
    have I1 : Inv X pins σ (upd H s.heap.objs.size (.tup [.int (i : Nat), x])) { s with heap := h'', toks := tk + 1 } :=
      I.turnedNew (ch := [e, it]) (fun b ob hb q => (sb.2 b (fun z => hb (by simp [z]))).trans (hk b ob (fun z => hb (by simp [z])) (fun z => hb (by simp [z])) q)) hf (Nat.le_refl _) new
    refine ⟨.ref s.heap.objs.size, _, I1, rfl, ⟨_, x, rfl, I.hok.fresh (Nat.le_refl _), rfl, fun ys hy => by rw [I.tuple_inj hy hq]; exact hx⟩, ⟨⟨y, ?_⟩, hit'.at fun o q => (sb.2 it (Ne.symm hne)).trans q, hne⟩, fun b hb => ?_⟩
    · have e1 : ((i + 1 : Nat) : Int) = (i : Int) + 1 := by omega
      rw [e1]; exact he'
    · have hb' : b < s.heap.objs.size := by
        have e' : b = e ∨ b = it := by simpa using hb
        rcases e' with z | z
        · rw [z]; exact hel
        · rw [z]; exact hil
      rw [upd_ne (Nat.ne_of_lt hb')]
      exact (hf b hb).1
  done := by
    intro X hP hw hK hc i pins s σ H E I hf st hg
    subst hP hw hK
    obtain ⟨⟨old, he⟩, hit, hne⟩ := st
    obtain ⟨xs, hq, hx⟩ := hg
    obtain ⟨its, rv, p, hz⟩ := I.tuple hq
    obtain ⟨f0, f1, f2, f3, f4, f5⟩ := hf it (by simp)
    have hl := rv.length
    have p' : s.heap.IsTuple a its.toArray := p
    have neit : a ≠ it := fun z => by
      obtain ⟨o, ho, hcl, _⟩ := p'
      obtain ⟨o2, ho2, hc2, _⟩ := hit
      rw [z, ho2] at ho; cases ho; exact val_type_ne (by decide) (hc2.symm.trans hcl)
    subst hx
    have e0 : xs.length = its.toArray.size := by simp [hl]
    rw [e0] at he hit
    exact wpAny_pyNext_enum_endD (Draws.tuple (A := X.A.in1) (I.ok.hd hc) it a neit its.toArray) he ⟨hit, p'⟩ fun h' eb => ⟨rfl, I.turned (t' := s.toks) (fun b o hb q => eb b o hb q) f0 f1 f3 f4 f5⟩
  self := fun A i s Q E st h => let ⟨⟨_, he⟩, _⟩ := st; wpAny_pyIter_enum he h
def iEnumT (K : PySem.W.Frag) (ta : TA) : TI := fun σ H R => ta σ H fun vs H1 => ∃ a xs, vs = [.ref a] ∧ SqT K H1 a xs ∧ R (IteT K a) H1
theorem pi_enumT {X : Cx} {e : Expr} {ta : TA} {p pos tpos : Pos} {elts : List Expr} {kk : Nat} (hg : Gl X "enumerate") (hm : X.mg "enumerate" = none) (ha : PA X [e] ta) (hs : starEach [e] X.env = [(false, eval e X.env)] := by rfl) :
    PI X (.Tuple elts kk tpos) (.Call (.Name "enumerate" p) [e] [] pos) (iEnumT X.K ta) := by
  refine ⟨fun pins s σ H R I h => ?_⟩
  refine Call_ (ld_blt I hg hm boot_enumerate (PyProof.Rows.callWith_type1 (thn (ha.run pos pins s σ H _ I h) fun us s1 ⟨vs, H1, I1, r1, q1⟩ => ?_) hs rfl))
  obtain ⟨a, xs, ex, hq, q⟩ := q1
  subst ex
  cases r1 with
  | cons r rr =>
    cases rr
    cases r
    obtain ⟨its, rv, p', hz⟩ := I1.tuple hq
    refine pd_call_enumerate_tuple (show s1.heap.IsTuple a its.toArray from p') fun h' he hit hsz hk => wpAny_pyIter_enum he ?_
    have I2 : Inv X pins σ H1 { s1 with heap := h' } := I1.kept (t' := s1.toks) hk
    refine ⟨s1.heap.objs.size + 1, [s1.heap.objs.size + 1, s1.heap.objs.size], _, _, H1, rfl, I2, turn_enumT a (s1.heap.objs.size + 1) s1.heap.objs.size, ⟨⟨.none, he⟩, hit, Nat.succ_ne_self _⟩, fun b hb => ?_, q⟩
    have e' : b = s1.heap.objs.size + 1 ∨ b = s1.heap.objs.size := by simpa using hb
    have hle : s1.heap.objs.size ≤ b := by
      rcases e' with z | z
      · rw [z]; exact Nat.le_add_right _ _
      · rw [z]; exact Nat.le_refl _
    exact I1.fpOk hle (I1.hok.fresh hle)
theorem walk_enumT {K : PySem.W.Frag} {a : Addr} {xs : List V} : Walk (IteT K a) xs.length (fun H => SqT K H a xs) (YPair (fun i => some (.int (i : Nat))) (fun i => xs[i]?)) := by
  refine ⟨fun i _ hi q => ⟨xs, xs[i], q, by simp [hi]⟩, fun _ q => ⟨xs, q, rfl⟩, fun i H v H' _ q y => ?_⟩
  obtain ⟨T, x, h1, h2, h3, h4⟩ := y
  exact ⟨T, .int (i : Nat), x, h1, h2, h3, rfl, h4 xs q⟩
end L2
namespace Pd
open PySem L2 RZ
section
variable {W : Wd} {G : List Ent} {ta : TE} {K : PySem.W.Frag} {KK : List D → Prop}
theorem evi_enumT (h : Ev W G ta fun x => ∃ xs, x = .tup xs ∧ KK (pairsOf (intsUp 0 xs.length) xs)) : EvI W G (iEnumT K (tCons ta tNil)) KK := fun X σ H E R q =>
  h X σ H E _ fun x v H' k ex inv r => by
    obtain ⟨xs, rfl, k⟩ := k
    cases r with
    | @tup a vs _ ha r =>
      have hl : (pairsOf (intsUp 0 xs.length) xs).length = vs.length := by rw [pairsOf_len, intsUp_len, Nat.min_self, r.length]
      refine ⟨a, vs, rfl, .inl (.inl ha), q _ (IteT K a) H' (fun H2 => SqT K H2 a vs) (YPair (fun i => some (.int (i : Nat))) (fun i => vs[i]?)) k ex inv (by rw [hl]; exact walk_enumT) (fun H2 e2 => .inl (.inl (e2.kp _ _ ha fun _ xs z => by cases z))) fun i H2 z H3 e2 hi y => ?_⟩
      obtain ⟨T, x, y, rfl, nT, eH, hx, hy⟩ := y
      obtain ⟨dy, hdy, ry⟩ := r.getV hy
      cases hx
      rw [hl, r.length] at hi
      have e0 : (0 : Int) + (i : Nat) = ((i : Nat) : Int) := Int.zero_add _
      exact ⟨fun _ => by rw [eH]; exact Ex.new nT, _, pairsOf_get (intsUp_get hi) hdy, fun M' hM => pair_rep (e2.weak (mo_sub (List.subset_append_right X _))) nT eH hM (by rw [e0]; exact .int _) ry⟩
/-! bit_length -/
theorem ev_bits {to : TE} {KD : D → Prop} (h : Ev W G to fun d => ∃ i : Int, d = .int i ∧ KD (.int (Builtin.Int.intBits i : Nat))) : Ev W G (tBits to) KD := fun X σ H E Q q =>
  h X σ H E _ fun d v H' k ex inv r => by
    obtain ⟨i, rfl, k⟩ := k
    cases r
    exact ⟨i, rfl, q _ _ H' k ex inv (.int _)⟩
end
end Pd

namespace L2
open PySem PySem.Spec PyProof.Rows
abbrev noSet (w : World) : Obj := { cls := .type "set", dict := none, data := .set #[] 0 (.fresh 0 0 (!w.params.followText "set-order")) }
abbrev hpS (w : World) (s : Shared) : Heap := s.heap.push (noSet w)
section
variable {P : Program} {w : World} {A : Around} {E : Value → Shared → Prop} {s : Shared}
theorem pd_set_list {l : Addr} {items : Array Value} (ns : List Int) {Q : Value → Shared → Prop} (hh : A.handled = none) (hl : s.heap.IsList l items) (hit : IntsAre items.toList ns) (hb : ns.length + 1 < scanBound)
    (h : ∀ (h' : Heap) (tk c : Nat), SetR w h' s.heap.objs.size (fun j => decide (j ∈ ns)) c → c ≤ ns.length → (∀ b o, s.heap.get? b = some o → h'.get? b = some o) → Q (.ref s.heap.objs.size) { s with heap := h', toks := tk }) :
    wpAny (model P w) A (call (.type "set") [.ref l]) Q E s := by
  have hisz : items.size = ns.length := by
    have q := IntsAre.length hit
    rw [Array.length_toList] at q
    exact q
  obtain ⟨c, tl, hmro⟩ := F.called_set.mro
  have hmade := F.called_set.made
  have hsub := F.called_set.sub
  refine wpAny_call (codeAny_of_tree ?_)
  show wpAny _ _ (callAny (.type "set") _) _ _ _
  refine wpAny_pure ⟨Code.quiet_builtin _ (by decide +kernel), codeAny_builtin F.entry_type_call ?_⟩
  rw [Around.under_plain (weight_type_call_type "set" [.ref l] []) rfl]
  have h1 := F.called_set.notType
  have h2 := F.called_set.canCreate
  have hct := F.typeCall_set_1 (.ref l)
  repeat (any_goals (first | assumption | wp_step))

  refine codeAny_mono (code_set_led1 (.ref l) (E := E) (Q₁ := fun obj s₁ => obj = .ref s.heap.objs.size ∧ s₁ = { s with heap := hpS w s }) ⟨rfl, rfl⟩) fun r s₁ hr => ?_
  cases r with
  | error e => exact hr
  | ok fl =>
    cases fl with
    | ret obj =>
      obtain ⟨rfl, rfl⟩ := hr
      have hS : (hpS w s).get? s.heap.objs.size = some (noSet w) := Heap.get?_push_size _ rfl
      have hT : Shared.TypeIs { s with heap := hpS w s } (.ref s.heap.objs.size) "set" := ⟨_, hS, rfl⟩
      have hli := F.called_set.init.lookup
      have hbi := F.called_set.init.bind (.ref s.heap.objs.size)
      repeat (any_goals (first | assumption | wp_step))

      refine codeAny_mono (codeAny_call_builtin (R := wants (fun r s₂ => r = .none ∧ ∃ h' tk c, s₂ = { s with heap := h', toks := tk } ∧ SetR w h' s.heap.objs.size (fun j => decide (j ∈ ns)) c ∧ c ≤ ns.length ∧
          (∀ b o, s.heap.get? b = some o → h'.get? b = some o)) E) F.called_set.init.plain F.entry_set_init (check_set_init_1 hT ?_)) fun r₂ s₂ hr₂ => ?_
      · obtain ⟨ol, hol, hcl, nl, hdl⟩ := hl
        obtain ⟨ocls, odict, odata, oslots⟩ := ol
        simp only at hcl hdl
        subst hcl; subst hdl
        have hol' : (hpS w s).get? l = some { cls := .type "list", dict := odict, data := .seq items nl, slots := oslots } := Heap.get?_push_of_some _ hol
        have hsls := F.sub_list_set
        have hslf := F.sub_list_frozenset
        have hne : (Value.type "list" == Value.type "dict") = false := by decide
        have hl1 : (hpS w s).IsList l items := ⟨_, hol', rfl, nl, rfl⟩
        unfold Builtin.«set.__init__» noKeywords Builtin.Frozenset.updateFrom
        generalize hPI : pyIter = PI
        wp_walk
        subst hPI

        refine wpAny_pyIter_list hl1 ?_
        refine wpAny_bind (wpAny_runValue ?_)
        have hlS : l < s.heap.objs.size := Heap.lt_size hol
        have hh3 : A.in1.in1.in1.handled = none := by simp [hh]
        have hz1 : (hpS w s).objs.size = s.heap.objs.size + 1 := Heap.size_push ..
        have hneI : l ≠ (hpS w s).objs.size := by
          rw [Heap.size_push]; exact Nat.ne_of_lt (Nat.lt_succ_of_lt hlS)
        have hSf : s.heap.objs.size ∉ [(hpS w s).objs.size, l] := by
          rw [Heap.size_push]; simp only [List.mem_cons, List.mem_singleton, List.not_mem_nil, or_false, not_or]
          exact ⟨Nat.ne_of_lt (Nat.lt_succ_self _), Nat.ne_of_gt hlS⟩
        have hval : ∀ (i : Nat) (v : Value), items[i]? = some v → ∃ k t, ns[i]? = some k ∧ v = .int k t := fun i v hv => by
          have hi : i < ns.length := by rw [← hisz]; exact (Array.getElem?_eq_some_iff.mp hv).1
          obtain ⟨t, e⟩ := PyProof.Rows.IntsAre.int_at hit i v (by rw [Array.getElem?_toList]; exact hv)
          refine ⟨ns[i], t, List.getElem?_eq_getElem hi, ?_⟩
          rw [e, List.getD_eq_getElem?_getD, List.getElem?_eq_getElem hi] <;> rfl
        refine set_update_ints ((Walks.list hh3 _ l hneI items).toS) s.heap.objs.size
          hSf ns hisz hb hval (items.size - 0) 0 _ (by omega) (Nat.zero_le _)
          ⟨⟨_, Heap.get?_push_size _ rfl, rfl, rfl⟩, (hl1.push _)⟩ ?hS0 ?hR
        case hS0 =>
          have hget : ((hpS w s).push { cls := .type "list_iterator", data := .fields #[.ref l, .int 0 0] }).get? s.heap.objs.size
              = some (noSet w) := Heap.get?_push_of_some _ hS
          exact ⟨0, Nat.le_refl 0, setR_new_at hget⟩
        case hR =>
          intro s' c' hm hc' hS'
          obtain ⟨h', g2, d', tk', os'⟩ := s'
          have eg : g2 = s.gens := hm.gens
          have ed : d' = s.drawn := hm.drawn
          have eo : os' = s.os := hm.os
          subst eg; subst ed; subst eo
          show wpAny _ _ _ _ _ _
          refine wpAny_pure ?_
          show wpAny _ _ (ret Value.none) _ _ _
          rw [hisz] at hc'
          refine wpAny_pure ⟨rfl, h', tk', c', rfl, hS', hc', fun b o e => ?_⟩
          have hb0 : b < s.heap.objs.size := Heap.lt_size e
          have hb1 : b ≠ s.heap.objs.size := Nat.ne_of_lt hb0
          have hb2 : b ≠ (hpS w s).objs.size := by
            rw [Heap.size_push]; exact Nat.ne_of_lt (Nat.lt_succ_of_lt hb0)
          exact hm.heap b o (by simp only [List.mem_cons, List.mem_singleton, List.not_mem_nil, or_false, not_or]; exact ⟨hb1, hb2⟩) (Heap.get?_push_of_some _ (Heap.get?_push_of_some _ e))

      · cases r₂ with
        | error e => exact hr₂
        | ok fl₂ =>
          cases fl₂ with
          | ret r =>
            obtain ⟨rfl, h', tk, c', rfl, hS', hc', hk'⟩ := hr₂
            repeat (any_goals (first | assumption | wp_step))
            exact h _ _ _ hS' hc' hk'
          | _ => exact hr₂.elim
    | _ => exact hr.elim

end
end L2

namespace L2
open PySem PySem.Spec PyProof.Rows
section
variable {X : Cx}
/-- set(xs), a list of fewer than 60 ints -/
def rSetOfL (K : PySem.W.Frag) (w : World) : List V → Hp → VK → Prop := fun xs H Q => ∃ (l : Addr) (ns : List Int), xs = [.ref l] ∧ SqL K H l (ns.map V.int) ∧ ns.length < 60 ∧
  ∀ p c, H p = none → c ≤ ns.length → Q (.ref p) (upd H p (SetO w p (fun j => decide (j ∈ ns)) c))
theorem cr_setOfL (hc : X.calm = true) : CallR X (.type "set") (rSetOfL X.K X.w) := by
  intro pins s σ H xs us Q I r h
  obtain ⟨l, ns, rfl, hq, hlen, q⟩ := h
  obtain ⟨u, rfl, ru⟩ := vals1 r
  cases ru
  obtain ⟨its, rv, p, hz⟩ := I.list hq
  refine pd_set_list ns (I.ok.hd hc) p.isList (ints_of_vals rv) (by unfold scanBound; omega) fun h' tk c R1 hcn k => ?_
  exact ⟨.ref s.heap.objs.size, _, I.laid (t' := tk) k (Nat.le_refl _) (setO_new R1), rfl, q _ _ (I.hok.fresh (Nat.le_refl _)) hcn⟩
end
end L2
namespace Pd
open PySem L2 RZ PyProof.Rows
/-- sorted(set(xs)) -/
theorem pe_sortedSetL {X : Cx} {a : Expr} {ta : TE} {p1 p2 q1 q2 : Pos} (hc : X.calm = true) (hg : Gl X "sorted") (hm : X.mg "sorted" = none) (hg2 : Gl X "set") (hm2 : X.mg "set" = none) (ha : PE X a ta)
    (h1 : starEach [a] X.env = (false, eval a X.env) :: starEach [] X.env := by rfl) (h2 : (backTo q1 (starEach [] X.env)).any (·.1) = false := by rfl)
    (h3 : starEach [(.Call (.Name "set" p1) [a] [] q1 : Expr)] X.env = (false, eval (.Call (.Name "set" p1) [a] [] q1) X.env) :: starEach [] X.env := by rfl) (h4 : (backTo q2 (starEach [] X.env)).any (·.1) = false := by rfl) :
    PE X (.Call (.Name "sorted" p2) [.Call (.Name "set" p1) [a] [] q1] [] q2) (tCB (rSortedSet X.w) (tCons (tCB (rSetOfL X.K X.w) (tCons ta tNil)) tNil)) :=
  pe_callB (cr_sortedSet hc) hg hm (by decide +kernel) (pa_cons (pe_callTy (cr_setOfL hc) hg2 hm2 (by decide +kernel) (pa_cons ha pa_nil h1) (by decide) (by decide) h1 h2) pa_nil h3) (by decide) (by decide) h3 h4
section
variable {W : Wd} {G : List Ent} {te : TE} {K : PySem.W.Frag} {w : World}
theorem evl_sortedSet {KL : List D → Prop} (h : EvB W G te fun d => ∃ ns : List Int, d = .lst (ns.map D.int) ∧ ns.length < 60 ∧ ∀ ms : List Int, ms.Pairwise (· < ·) → (∀ k, k ∈ ms ↔ k ∈ ns) → KL (ms.map D.int)) :
    EvL W G (tCB (rSortedSet w) (tCons (tCB (rSetOfL K w) (tCons te tNil)) tNil)) KL := fun X σ H E Q q =>
  h X σ H E _ fun d v H' k ex inv r => by
    obtain ⟨ns, rfl, hl, k⟩ := k
    obtain ⟨a, us, rfl, ha, s⟩ := r.lst
    have e := RepAll.ints s
    subst e
    refine ⟨a, ns, rfl, .inl (.inl ha), hl, fun p c hp hc => ⟨p, _, c, rfl, upd_same, by omega, fun ms p2 pw hm _ hp2 => ?_⟩⟩
    have ex1 : Ex W.M H' (upd H' p (SetO w p (fun j => decide (j ∈ ns)) c)) := Ex.new hp
    have i1 : W.inv (upd H' p (SetO w p (fun j => decide (j ∈ ns)) c)) := inv_same inv fun _ => Ex.new hp
    exact evl_new E q (ex.trans ex1) i1 (k ms pw fun j => by rw [hm j]; simp) (RepAll.of_ints ms) p2 hp2
end
end Pd

namespace Pd
open PySem L2 RZ PyProof.Rows
/-! ### data without lists -/
mutual
def imm : D → Bool
  | .tup ds => imms ds
  | .lst _ => false
  | .dct => false
  | .rg _ _ => false
  | .obj _ _ _ => false
  | .non => true
  | .bl _ => true
  | .int _ => true
  | .str _ => true
def imms : List D → Bool
  | [] => true
  | d :: ds => imm d && imms ds
end
mutual
theorem Rep.keepT {M M' : Addr → Prop} {H H' : Hp} (k : ∀ a vs, H a = some (.tup vs) → H' a = some (.tup vs)) : ∀ {v : V} {d : D}, Rep M H v d → imm d = true → Rep M' H' v d
  | _, _, .non, _ => .non
  | _, _, .bl b, _ => .bl b
  | _, _, .int i, _ => .int i
  | _, _, .str x, _ => .str x
  | _, _, .tup h r, p => .tup (k _ _ h) (RepAll.keepT k r (by simpa [imm] using p))
  | _, _, .lst n h r, p => absurd p (by simp [imm])
  | _, _, .dct _, p => absurd p (by simp [imm])
  | _, _, .rg _, p => absurd p (by simp [imm])
  | _, _, .obj _ _ _ _, p => absurd p (by simp [imm])
theorem RepAll.keepT {M M' : Addr → Prop} {H H' : Hp} (k : ∀ a vs, H a = some (.tup vs) → H' a = some (.tup vs)) : ∀ {vs : List V} {ds : List D}, RepAll M H vs ds → imms ds = true → RepAll M' H' vs ds
  | _, _, .nil, _ => .nil
  | _, _, .cons r t, p => .cons (Rep.keepT k r (by simp [imms] at p; exact p.1)) (RepAll.keepT k t (by simp [imms] at p; exact p.2))
end
/-! ### lots of numbers, rows -/
def nT (r : List Nat) : D := .tup (r.map fun (k : Nat) => D.int (k : Int))
def rowsD (rows : List (List Nat)) : D := .tup (rows.map nT)
theorem imm_nT (r : List Nat) : imm (nT r) = true := by
  show imms (r.map fun (k : Nat) => D.int (k : Int)) = true
  induction r with
  | nil => rfl
  | cons a r ih => simpa [imms, imm] using ih
theorem imm_rowsD (rows : List (List Nat)) : imm (rowsD rows) = true := by
  show imms (rows.map nT) = true
  induction rows with
  | nil => rfl
  | cons a r ih => simp only [List.map_cons, imms, imm_nT, ih, Bool.and_self]
/-! ### types of data that may hold objects -/
structure ObjU (K : PySem.W.Frag) (C : Addr) : Prop where
  oc : ObjC K C
  un : ∀ T ∈ usual, PySem.W.kitOne K (.ref C) (.type T) = some false
def TyOk (K : PySem.W.Frag) : D → Prop
  | .obj C _ _ => ObjU K C
  | .rg _ _ => False
  | _ => True
theorem tyD_or {K : PySem.W.Frag} {d : D} (h : TyOk K d) : (∃ n, tyD d = some n) ∨ ∃ C ns ds, d = .obj C ns ds := by
  cases d <;> first | exact .inl ⟨_, rfl⟩ | exact .inr ⟨_, _, _, rfl⟩ | exact h.elim
theorem cd_isTo {K : PySem.W.Frag} {d : D} {T : String} {KK : D → Prop} (h : TyOk K d) (hT : T ∈ usual) (k : KK (.bl (isTy T d))) : CallD (rIsi K) [.d d, .raw (.ty T)] KK := by
  rcases tyD_or h with ⟨n, hn⟩ | ⟨C, ns, ds, rfl⟩
  · exact cd_isT hn hT k
  · have h' : ObjU K C := h
    exact cd_isiOT h'.oc (h'.un T hT) k
theorem TyOk.of {K : PySem.W.Frag} {d : D} {n : String} (h : tyD d = some n) : TyOk K d := by cases d <;> first | trivial | cases h
/-- isinstance(d, (T1, T2, ..)) of usual built-in types -/
theorem kitAny_of {K : PySem.W.Frag} {t : Value} {b : String → Bool} : ∀ {Ts : List String}, (∀ T ∈ Ts, PySem.W.kitOne K t (.type T) = some (b T)) → PySem.W.kitAny K t (Ts.map Value.type) = some (Ts.any b)
  | [], _ => rfl
  | T :: Ts, h => by
    have h1 := h T (List.mem_cons_self ..)
    have ih := kitAny_of (Ts := Ts) fun T' m => h T' (List.mem_cons_of_mem _ m)
    rw [List.map_cons, List.any_cons]
    refine kitAny_cons h1 (fun e => ?_) fun e => ?_
    · rw [e]; exact ih
    · rw [e]; rfl
theorem clsV_list : ∀ Ts : List String, Paired ClsV (Ts.map V.ty) (Ts.map Value.type)
  | [] => .nil
  | T :: Ts => .cons (.ty T) (clsV_list Ts)
theorem cd_isiT {K : PySem.W.Frag} {W : Wd} {G : List Ent} {te : TE} {tt : TA} {KK : D → Prop} (Ts : List String) (hu : ∀ T ∈ Ts, T ∈ usual)
    (htt : tt = (Ts.foldr (fun T r => tCons (tC (.ty T)) r) tNil)) (hl : Ts.length ≤ 10)
    (h : Ev W G te fun d => TyOk K d ∧ KK (.bl (Ts.any fun T => isTy T d))) : Ev W G (tCB (rIsiT K) (tCons te (tCons (tTup tt) tNil))) KK := fun X σ H E Q q =>
  h X σ H E _ fun d v H' ⟨ty, k⟩ ex inv r => by
    subst htt
    have go : ∀ (Us : List String) (σ : L2.St) (H : Hp) (R : List V → Hp → Prop), R (Us.map V.ty) H → (Us.foldr (fun T r => tCons (tC (.ty T)) r) tNil : TA) σ H R := by
      intro Us
      induction Us with
      | nil => intro σ H R h; exact h
      | cons U Us ih => intro σ H R h; exact ih σ H _ h
    refine go Ts σ H' _ ⟨small_le (by rw [List.length_map]; omega), fun p hp => ?_⟩
    have e2 : Ex W.M H' (upd H' p (.tup (Ts.map V.ty))) := Ex.new hp
    have i2 : W.inv (upd H' p (.tup (Ts.map V.ty))) := inv_same inv fun _ => Ex.new hp
    have fin := q (.bl (Ts.any fun T => isTy T d)) _ _ k (ex.trans e2) i2 (.bl _)
    have r2 := r.mono e2 fun _ m => .inl m
    rcases tyD_or ty with ⟨n, hn⟩ | ⟨C, ns, ds, rfl⟩
    · exact ⟨v, p, Ts.map V.ty, .type n, Ts.map Value.type, _, rfl, upd_same, clsV_list Ts, ty_rep r2 hn, kitAny_of (b := fun T => isTy T d) fun T m => kit_ty (isTy_eq hn (hu T m)), fin⟩
    · have ou : ObjU K C := ty
      cases r2 with
      | obj e _ _ _ => exact ⟨_, p, Ts.map V.ty, .ref C, Ts.map Value.type, _, rfl, upd_same, clsV_list Ts, .base (.ins e ou.oc.cl ou.oc.ha ou.oc.hn ou.oc.ht ou.oc.hm), kitAny_of (b := fun T => isTy T (.obj C ns ds)) fun T m => ou.un T (hu T m), fin⟩
end Pd

namespace Pd
open PySem L2 RZ PyProof.Rows
/-! ### objects: made by an own __init__, told by their fields -/
/-- what an own __init__ promises: the fields ns of the object that it fills -/
def FInit (C : Addr) (ns : List Str) (pre : Wd → List Ent → (List D → Prop) → Prop) : Sp := fun vs H Q _ => ∃ (W : Wd) (X : List Addr) (es : List Ent) (K : List D → Prop) (p dx : Addr) (us : List V),
  vs = .ref p :: us ∧ H p = some (.ins C dx []) ∧ pre W es K ∧ W.inv H ∧ ¬ W.M p ∧ p ∉ X ∧ (∀ l ∈ X, ¬ W.M l ∧ ∃ o, H l = some o) ∧ EntVs (mo W X) H us es ∧ owned es = [] ∧
  ∀ H' xs ds, K ds → (∀ H0, H0 p = none → Ex W.M H0 H → Ex W.M H0 H') → W.inv H' → H' p = some (.ins C dx (ns.zip xs)) → xs.length = ns.length → RepAll (mo W X) H' xs ds → Q .non H'
def New (P : Program) (w : World) (K : PySem.W.Frag) (mg : Str → Option Value) (base : Heap) (lv : Nat) (x : Str) (ps : List Str) (C : Addr) (ns : List Str) (pre : Wd → List Ent → (List D → Prop) → Prop) : Prop :=
  ∃ f fd, mg x = some (.ref C) ∧ Mk K C f ∧ Binds K fd ps [] ∧ FnOk P w K mg base CX0 lv f fd ps (FInit C ns pre)
theorem pe_new {X : Cx} {lv : Nat} {x : Str} {ps : List Str} {C : Addr} {ns : List Str} {pre : Wd → List Ent → (List D → Prop) → Prop} {e : Expr} {es : List Expr} {t : TA} {p pos : Pos} (h : New X.prog X.w X.K X.mg X.base lv x ps C ns pre) (hr : Room (lv + 1) X.A) (ha : PA X (e :: es) t) (hg : Gl X x := by rfl)
    (hdb : (x == ("__debug__" : Str)) = false := by decide)
    (he : starEach (e :: es) X.env = (false, eval e X.env) :: starEach es X.env := by rfl) (hpl : (backTo pos (starEach es X.env)).any (·.1) = false := by rfl) : PE X (.Call (.Name x p) (e :: es) [] pos) (tMake C (FInit C ns pre) [] E0 t) := by
  obtain ⟨f, fd, hm, hk, hb, F⟩ := h
  exact pe_make hk F hr hg hm hb .nil pass0 ha hdb he hpl
section
variable {W : Wd} {G : List Ent} {ta te tb : TE} {tt : TA} {KK : D → Prop} {K : PySem.W.Frag}
theorem owned_rev {es : List Ent} (h : owned es = []) : ∀ a ds, Ent.own a ds ∉ es := fun a ds m => by
  have : a ∈ owned es := List.mem_filterMap.mpr ⟨_, m, rfl⟩
  rw [h] at this; cases this
theorem made_ex {H : Hp} {C x dx : Addr} (hx : H x = none) (hdx : H dx = none) (hne : dx ≠ x) (M : Addr → Prop) : Ex M H (upd (upd H dx (.own x)) x (.ins C dx [])) :=
  (Ex.new hdx).trans (Ex.new (by rw [upd_ne hne.symm]; exact hx))
theorem ev_new {C : Addr} {ns : List Str} {pre : Wd → List Ent → (List D → Prop) → Prop} {E : XK} (h : EvA W G tt fun es => owned es = [] ∧ pre W es fun ds => KK (.obj C ns ds)) : Ev W G (tMake C (FInit C ns pre) [] E tt) KK := fun X σ H E1 Q q =>
  h X σ H E1 _ fun es vs H1 ⟨ho, k⟩ _ ex inv r => fun x dx hx hdx hne => by
    have E2 := E1.mono ex inv
    have e2 := made_ex (C := C) hx hdx hne
    refine ⟨W, X ++ owned G, es, _, x, dx, vs, by rw [List.append_nil], upd_same, k, inv_same inv e2, new_ne inv hx, own_neX E2 hx, fun l hl => ?_, r.mono (e2 _) (fun a m => m) fun l ds m => absurd m (owned_rev ho l ds), ho, fun H' us ds k2 ex2 inv2 hp hl r2 => ⟨rfl, q _ _ _ k2 (ex2 H (ex.none hx) (ex.trans (e2 _))) inv2 (.obj hp rfl hl.symm r2)⟩⟩
    have t : ¬ W.M l ∧ ∃ o, H1 l = some o := by
      rcases List.mem_append.mp hl with z | z
      · exact E2.xs l z
      · exact ⟨(E2.ap l z).1, mo_there E2 l (.inr (List.mem_append_right _ z))⟩
    obtain ⟨t1, o, t2⟩ := t
    exact ⟨t1, (e2 fun _ => False).th l o t2⟩
/-- a change at an object that a def has made itself keeps what data says without lists and objects -/
theorem upd_tup {H : Hp} {p : Addr} {o o' : HO} (hp : H p = some o) (hn : ∀ vs, o ≠ .tup vs) : ∀ a vs, H a = some (.tup vs) → upd H p o' a = some (.tup vs) := fun a vs h => by
  have : a ≠ p := fun z => by subst z; rw [hp] at h; exact hn vs (Option.some.inj h)
  rw [upd_ne this]; exact h
theorem inv_ins {W : Wd} {H : Hp} {p : Addr} {o : HO} (i : W.inv H) (n : ¬ W.M p) : W.inv (upd H p o) := W.dep H _ i fun a u m h => by
  have : a ≠ p := fun z => by subst z; exact n m
  rw [upd_ne this]; exact h
/-- tuples are kept -/
def KpT (H H' : Hp) : Prop := ∀ a vs, H a = some (.tup vs) → H' a = some (.tup vs)
theorem Ex.kpT {M : Addr → Prop} {H H' : Hp} (e : Ex M H H') : KpT H H' := fun a vs h => e.kp a _ h fun _ xs z => by cases z
theorem KpT.trans {H H1 H2 : Hp} (a : KpT H H1) (b : KpT H1 H2) : KpT H H2 := fun x vs h => b x vs (a x vs h)
theorem KpT.ins {H : Hp} {p C dx : Addr} {fs : List (Str × V)} {o' : HO} (hp : H p = some (.ins C dx fs)) : KpT H (upd H p o') := upd_tup hp fun vs z => by cases z
theorem Ex.ins {M : Addr → Prop} {H H' : Hp} {p C dx : Addr} {fs : List (Str × V)} (e : Ex M H H') (hp : H p = some (.ins C dx fs)) : H' p = some (.ins C dx fs) := e.kp p _ hp fun _ xs z => by cases z
end
theorem pts_conv {X : Cx} {cs : List Expr} {t t' : TT} (h : PTs X cs t') (e : t' = t) : PTs X cs t := e ▸ h
theorem pe_conv {X : Cx} {c : Expr} {t t' : TE} (h : PE X c t') (e : t' = t) : PE X c t := e ▸ h
theorem owned_c {e : Ent} {G : List Ent} (h : ownOf e = none) : owned (e :: G) = owned G := by
  unfold owned; rw [List.filterMap_cons, h]
/-! ### a range kept -/
def rRange2 : List V → Hp → VK → Prop := fun xs H Q => ∃ i j, xs = [.int i, .int j] ∧ ∀ p, H p = none → Q (.ref p) (upd H p (.rng i j))
theorem cr_rangeAB {X : Cx} : CallR X (.type "range") rRange2 := by
  intro pins s σ H xs us Q I r h
  obtain ⟨i, j, rfl, q⟩ := h
  cases r with
  | cons r rr =>
    cases rr with
    | cons r' rr =>
      cases rr
      obtain ⟨t, rfl⟩ := r
      obtain ⟨t', rfl⟩ := r'
      exact call_range_2 ⟨.ref s.heap.objs.size, upd H s.heap.objs.size (.rng i j), I.laid (t' := s.toks + 1) (fun c o e => Heap.get?_push_of_some _ e) (Nat.le_refl _) (show ObjOk X.prog X.w _ _ _ (.rng i j) from ⟨_, _, _, Heap.get?_push_size _ rfl⟩), rfl, q _ (I.hok.fresh (Nat.le_refl _))⟩
def iRngV (tl : TE) : TI := fun σ H R => tl σ H fun x H1 => ∃ a lo hi, x = .ref a ∧ H1 a = some (.rng lo hi) ∧ (-(2 ^ 62) ≤ lo ∧ lo < 2 ^ 62 ∧ -(2 ^ 62) ≤ hi ∧ hi < 2 ^ 62) ∧ R (Itr lo (hi - lo).toNat) H1
theorem pi_rngV {X : Cx} {tg : Expr} {l : Expr} {tl : TE} (hl : PE X l tl) : PI X tg l (iRngV tl) := by
  refine ⟨fun pins s σ H R I h => ?_⟩
  refine thn (hl.run pins s σ H _ I h) fun x s1 ⟨y, H1, I1, r1, q1⟩ => ?_
  obtain ⟨a, lo, hi, e, hq, ⟨h1, h2, h3, h4⟩, q⟩ := q1
  subst e
  cases r1
  obtain ⟨t, u, v, hz⟩ := I1.hok a _ hq
  refine wpAny_pyIter_range (show IsRange s1.heap a lo hi 1 t u v from hz) (small_one h1 h2 h3 h4) ?_
  refine ⟨s1.heap.objs.size, [s1.heap.objs.size], _, _, H1, rfl, I1.kept (t' := s1.toks) fun b o e => Heap.get?_push_of_some _ e, turn_range _ lo (hi - lo).toNat, ?_, fun b hb => ?_, q⟩
  · have e1 : lo + ((0 : Nat) : Int) * 1 = lo := by simp
    have e2 : (((hi - lo).toNat : Nat) : Int) - ((0 : Nat) : Int) = Builtin.Range.rangeSize lo hi 1 := by rw [rangeSize_one]; split <;> omega
    show IsRangeIter _ _ (lo + ((0 : Nat) : Int) * 1) ((((hi - lo).toNat : Nat) : Int) - ((0 : Nat) : Int)) 1
    rw [e1, e2]
    exact Heap.get?_push_size _ rfl
  · have e : b = s1.heap.objs.size := by simpa using hb
    subst e
    exact I1.fpOk (Nat.le_refl _) (I1.hok.fresh (Nat.le_refl _))
section
variable {W : Wd} {G : List Ent} {tl : TE} {KK : D → Prop} {KL : List D → Prop}
theorem cd_range2 {a b : Int} (k : KK (.rg a b)) : CallD rRange2 [.d (.int a), .d (.int b)] KK := fun M vs H r0 th Q q => by
  obtain ⟨v, u, rfl, r, s⟩ := vs2 r0
  cases (show Rep M H v (.int a) from r); cases (show Rep M H u (.int b) from s)
  exact ⟨a, b, rfl, fun p hp => q _ _ _ k (fun _ => Ex.new hp) (.rg upd_same)⟩
theorem evi_rngV (h : Ev W G tl fun x => ∃ a b : Int, x = .rg a b ∧ -(2 ^ 62) ≤ a ∧ a < 2 ^ 62 ∧ -(2 ^ 62) ≤ b ∧ b < 2 ^ 62 ∧ KL (intsUp a (b - a).toNat)) : EvI W G (iRngV tl) KL := fun X σ H E R q =>
  h X σ H E _ fun x v H1 k ex inv r => by
    obtain ⟨a, b, rfl, h1, h2, h3, h4, k⟩ := k
    cases r with
    | rg hr =>
    refine ⟨_, a, b, rfl, hr, ⟨h1, h2, h3, h4⟩, q _ (Itr a (b - a).toNat) H1 (fun _ => True) (YFn fun i => .int (a + (i : Nat))) k ex inv (by rw [intsUp_len]; exact walk_range) (fun _ _ => trivial) fun i H2 x H3 e2 hi y => ?_⟩
    obtain ⟨rfl, rfl⟩ := y
    rw [intsUp_len] at hi
    exact ⟨fun _ => Ex.refl _ _, _, intsUp_get hi, fun _ _ => .int _⟩
end
end Pd

/-! Books of kinds, told by rows of parents; masks of forebears. -/
namespace Bk
def stepMask (found : List Nat) (k : Nat) (row : List Nat) : Nat := row.foldl (fun m p => m ||| found.getD p 0) (2 ^ k)
def grow (found : List Nat) (row : List Nat) : List Nat := found ++ [stepMask found found.length row]
def masks (rows : List (List Nat)) : List Nat := rows.foldl grow []
theorem masks_snoc (rows : List (List Nat)) (row : List Nat) : masks (rows ++ [row]) = grow (masks rows) row := by
  unfold masks; rw [List.foldl_append]; rfl
theorem grow_length (found : List Nat) (row : List Nat) : (grow found row).length = found.length + 1 := by
  unfold grow; rw [List.length_append]; rfl
theorem fold_length : ∀ (rows : List (List Nat)) (acc : List Nat), (rows.foldl grow acc).length = acc.length + rows.length
  | [], _ => rfl
  | r :: rs, acc => by rw [List.foldl_cons, fold_length rs, grow_length, List.length_cons]; omega
theorem masks_length (rows : List (List Nat)) : (masks rows).length = rows.length := by
  unfold masks; rw [fold_length]; simp
theorem fold_prefix : ∀ (rows : List (List Nat)) (acc : List Nat), acc <+: rows.foldl grow acc
  | [], _ => List.prefix_refl _
  | r :: rs, acc => (List.prefix_append acc _).trans (fold_prefix rs (grow acc r))
theorem masks_prefix (rows more : List (List Nat)) : masks rows <+: masks (rows ++ more) := by
  unfold masks; rw [List.foldl_append]; exact fold_prefix _ _
theorem take_snoc {α : Type} {rows : List α} {i : Nat} {row : α} (h : rows[i]? = some row) : rows.take (i + 1) = rows.take i ++ [row] := by
  rw [List.take_add_one, h]; rfl
theorem masks_take {rows : List (List Nat)} {i : Nat} {row : List Nat} (h : rows[i]? = some row) : masks (rows.take (i + 1)) = grow (masks (rows.take i)) row := by
  rw [take_snoc h, masks_snoc]
theorem getD_prefix {a b : List Nat} (h : a <+: b) {i : Nat} (hi : i < a.length) : b.getD i 0 = a.getD i 0 := by
  obtain ⟨t, rfl⟩ := h
  rw [List.getD_eq_getElem?_getD, List.getD_eq_getElem?_getD, List.getElem?_append_left hi]
/-- the mask of kind x -/
def mask (rows : List (List Nat)) (x : Nat) : Nat := (masks rows).getD x 0
theorem mask_take (rows : List (List Nat)) {i x : Nat} (hi : i ≤ rows.length) (h : x < i) : mask (rows.take i) x = mask rows x := by
  unfold mask
  have p := masks_prefix (rows.take i) (rows.drop i)
  rw [List.take_append_drop] at p
  refine (getD_prefix p ?_).symm
  rw [masks_length, List.length_take]; omega
def RowsOk (rows : List (List Nat)) : Prop := ∀ (k : Nat) (row : List Nat), rows[k]? = some row → ∀ p ∈ row, p < k
theorem RowsOk.take {rows : List (List Nat)} (h : RowsOk rows) (i : Nat) : RowsOk (rows.take i) := fun k row hk => by
  rw [List.getElem?_take] at hk
  by_cases q : k < i
  · rw [if_pos q] at hk; exact h k row hk
  · rw [if_neg q] at hk; cases hk
theorem mask_eq {rows : List (List Nat)} {x : Nat} {row : List Nat} (h : rows[x]? = some row) : mask rows x = stepMask (masks (rows.take x)) x row := by
  have hx := (List.getElem?_eq_some_iff.mp h).1
  rw [← mask_take rows (i := x + 1) hx (Nat.lt_succ_self x)]
  unfold mask
  rw [masks_take h]
  unfold grow
  have hl : (masks (rows.take x)).length = x := by rw [masks_length, List.length_take]; omega
  rw [hl, List.getD_eq_getElem?_getD, List.getElem?_append_right (by omega), hl, Nat.sub_self]
  rfl
theorem fold_testBit (found : List Nat) (p : Nat) : ∀ (row : List Nat) (m : Nat), (row.foldl (fun m q => m ||| found.getD q 0) m).testBit p = (m.testBit p || row.any fun q => (found.getD q 0).testBit p)
  | [], m => by simp
  | q :: row, m => by rw [List.foldl_cons, fold_testBit found p row, Nat.testBit_or, List.any_cons, Bool.or_assoc]
/-- x is a p -/
def isA (rows : List (List Nat)) (x p : Nat) : Bool := (mask rows x).testBit p
theorem any_congr' {α : Type} {f g : α → Bool} : ∀ {l : List α}, (∀ a ∈ l, f a = g a) → l.any f = l.any g
  | [], _ => rfl
  | a :: l, h => by rw [List.any_cons, List.any_cons, h a (List.mem_cons_self ..), any_congr' fun b m => h b (List.mem_cons_of_mem _ m)]
theorem isA_eq {rows : List (List Nat)} (ok : RowsOk rows) {x p : Nat} {row : List Nat} (h : rows[x]? = some row) : isA rows x p = (decide (x = p) || row.any fun q => isA rows q p) := by
  unfold isA
  have hx := (List.getElem?_eq_some_iff.mp h).1
  rw [mask_eq h]
  unfold stepMask
  rw [fold_testBit, Nat.testBit_two_pow]
  congr 1
  refine any_congr' fun q hq => ?_
  show (mask (rows.take x) q).testBit p = _
  rw [mask_take rows (Nat.le_of_lt hx) (ok x row h q hq)]
theorem isA_self {rows : List (List Nat)} (ok : RowsOk rows) {x : Nat} (h : x < rows.length) : isA rows x x = true := by
  rw [isA_eq ok (List.getElem?_eq_getElem h)]; simp
theorem isA_le {rows : List (List Nat)} (ok : RowsOk rows) : ∀ (x p : Nat), x < rows.length → isA rows x p = true → p ≤ x := by
  intro x
  induction x using Nat.strongRecOn with
  | _ x ih =>
    intro p hx h
    rw [isA_eq ok (List.getElem?_eq_getElem hx)] at h
    rcases Bool.or_eq_true_iff.mp h with z | z
    · have := of_decide_eq_true z; omega
    · obtain ⟨q, hq, hp⟩ := List.any_eq_true.mp z
      have hqx := ok x _ (List.getElem?_eq_getElem hx) q hq
      have := ih q hqx p (by omega) hp
      omega
theorem mask_lt {rows : List (List Nat)} (ok : RowsOk rows) {x : Nat} (hx : x < rows.length) : mask rows x < 2 ^ (x + 1) :=
  Nat.lt_pow_two_of_testBit _ fun i hi => by
    refine Bool.eq_false_iff.mpr fun z => ?_
    have := isA_le ok x i hx z
    omega
/-- is_a goes along -/
theorem isA_trans {rows : List (List Nat)} (ok : RowsOk rows) : ∀ (x y z : Nat), x < rows.length → isA rows x y = true → isA rows y z = true → isA rows x z = true := by
  intro x
  induction x using Nat.strongRecOn with
  | _ x ih =>
    intro y z hx h1 h2
    rw [isA_eq ok (List.getElem?_eq_getElem hx)] at h1 ⊢
    rcases Bool.or_eq_true_iff.mp h1 with w | w
    · have := of_decide_eq_true w
      subst this
      rw [isA_eq ok (List.getElem?_eq_getElem hx)] at h2
      exact h2
    · obtain ⟨q, hq, hp⟩ := List.any_eq_true.mp w
      have hqx := ok x _ (List.getElem?_eq_getElem hx) q hq
      refine Bool.or_eq_true_iff.mpr (.inr (List.any_eq_true.mpr ⟨q, hq, ih q hqx y z (by omega) hp h2⟩))
end Bk

namespace Pd
open PySem L2 RZ PyProof.Rows
/-! ### == of lots and rows -/
theorem toPs_map {α : Type} (f : α → D) : ∀ l : List α, toPs (l.map f) = l.map fun a => toP (f a)
  | [] => rfl
  | a :: l => by rw [List.map_cons, List.map_cons, toPs, toPs_map f l]
theorem lay_all {α : Type} (f : α → PyData) (h : ∀ a, (f a).canLay0 = true) : ∀ l : List α, PyData.canLayAll0 (l.map f) = true
  | [] => rfl
  | a :: l => by rw [List.map_cons, PyData.canLayAll0, h a, lay_all f h l]; rfl
theorem depth_all {α : Type} (f : α → PyData) (n : Nat) (h : ∀ a, (f a).depth ≤ n) : ∀ l : List α, PyData.depthAll (l.map f) ≤ n
  | [] => Nat.zero_le _
  | a :: l => by
    rw [List.map_cons, PyData.depthAll]
    exact Nat.max_le.mpr ⟨h a, depth_all f n h l⟩
theorem plains_map {α : Type} (f : α → D) (h : ∀ a, plain (f a) = true) : ∀ l : List α, plains (l.map f) = true
  | [] => rfl
  | a :: l => by rw [List.map_cons, plains, h a, plains_map f h l]; rfl
theorem plain_nT (r : List Nat) : plain (nT r) = true := by
  show plains (r.map fun (k : Nat) => D.int (k : Int)) = true
  exact plains_map _ (fun _ => rfl) r
theorem toP_nT (r : List Nat) : toP (nT r) = .tuple (r.map fun (k : Nat) => PyData.int (k : Int)) := by
  show PyData.tuple (toPs _) = _
  rw [toPs_map]; rfl
theorem lay_nT (r : List Nat) : (toP (nT r)).canLay0 = true := by
  rw [toP_nT]
  show PyData.canLayAll0 _ = true
  exact lay_all _ (fun _ => rfl) r
theorem depth_nT (r : List Nat) : (toP (nT r)).depth ≤ 1 := by
  rw [toP_nT]
  show PyData.depthAll _ + 1 ≤ 1
  have := depth_all (fun (k : Nat) => PyData.int (k : Int)) 0 (fun _ => Nat.le_refl _) r
  omega
theorem ok_nT (r : List Nat) : okD (nT r) = true := by
  unfold okD
  rw [plain_nT]
  show (PyData.canLay0 _ && decide _) = true
  rw [lay_nT]
  have := depth_nT r
  simp; omega
theorem toP_rows (rows : List (List Nat)) : toP (rowsD rows) = .tuple (rows.map fun r => toP (nT r)) := by
  show PyData.tuple (toPs _) = _
  rw [toPs_map]
theorem ok_rowsD (rows : List (List Nat)) : okD (rowsD rows) = true := by
  unfold okD
  have h1 : plain (rowsD rows) = true := plains_map _ plain_nT rows
  have h2 : (toP (rowsD rows)).canLay0 = true := by
    rw [toP_rows]
    exact lay_all _ lay_nT rows
  have h3 : (toP (rowsD rows)).depth ≤ 2 := by
    rw [toP_rows]
    have := depth_all (fun r => toP (nT r)) 1 depth_nT rows
    show PyData.depthAll _ + 1 ≤ 2
    omega
  rw [h1]
  show (PyData.canLay0 _ && decide _) = true
  rw [h2]
  simp; omega
theorem eqv_map {α : Type} [DecidableEq α] (f : α → PyData) (h : ∀ a b, PyData.eqv (f a) (f b) = decide (a = b)) : ∀ l m : List α, PyData.eqvAll (l.map f) (m.map f) = decide (l = m)
  | [], [] => rfl
  | [], b :: m => by simp [PyData.eqvAll]
  | a :: l, [] => by simp [PyData.eqvAll]
  | a :: l, b :: m => by
    rw [List.map_cons, List.map_cons, PyData.eqvAll, h a b, eqv_map f h l m]
    by_cases q : a = b
    · subst q; simp
    · simp [q]
theorem eqD_nT (a b : List Nat) : eqD (nT a) (nT b) = decide (a = b) := by
  unfold eqD
  rw [toP_nT, toP_nT]
  show PyData.eqvAll _ _ = _
  refine eqv_map _ (fun x y => ?_) a b
  show ((x : Int) == (y : Int)) = _
  rw [Bool.eq_iff_iff, beq_iff_eq, decide_eq_true_eq]; omega
theorem eqD_rows (a b : List (List Nat)) : eqD (rowsD a) (rowsD b) = decide (a = b) := by
  unfold eqD
  rw [toP_rows, toP_rows]
  show PyData.eqvAll _ _ = _
  exact eqv_map _ eqD_nT a b
/-! ### == by an own __eq__ -/
def EqOf (P : Program) (w : World) (K : PySem.W.Frag) (mg : Str → Option Value) (base : Heap) (lv : Nat) (C : Addr) (ps : List Str) (sp : Sp) : Prop :=
  ∃ f fd, PySem.W.findIn K (.ref C) "__eq__" = some (some (.ref f)) ∧ PySem.W.isFn K (.ref f) = true ∧ Binds K fd ps [] ∧ FnOk P w K mg base CX0 lv f fd ps sp
def rEqOwn (C : Addr) (sp : Sp) : R2 := fun x y H Q => ∃ a dx fs b dy gs, x = .ref a ∧ y = .ref b ∧ H a = some (.ins C dx fs) ∧ H b = some (.ins C dy gs) ∧ sp [x, y] H (fun v H' => (∃ k, v = .bl k) ∧ Q v H') E0
theorem op_eqOf {X : Cx} {lv : Nat} {C : Addr} {ps : List Str} {sp : Sp} (h : EqOf X.prog X.w X.K X.mg X.base lv C ps sp) (hr : Room lv X.A) : OpR X (compareOp .Eq) (rEqOwn C sp) := by
  obtain ⟨f, fd, hs, hf, hb, F⟩ := h
  intro pins s σ H x y u v Q I rx ry hq
  obtain ⟨a, dx, fs, b, dy, gs, rfl, rfl, ha, hb', hsp⟩ := hq
  show wpAny (model X.prog X.w) X.A (richCompare .Eq u v) (EP X pins σ Q) X.xe s
  cases rx
  cases ry
  obtain ⟨mA, J, _⟩ := ins_get I.hok ha
  obtain ⟨mB, J', _⟩ := ins_get I.hok hb'
  obtain ⟨od, J, _⟩ := J.look
  obtain ⟨od', J', _⟩ := J'.look
  obtain ⟨m, hF⟩ := I.fr
  refine PySem.W.cmp_K (op := .Eq) (tb := .ref C) hr.units0 hF I.ok.mod.kin J J'.type (by simp [PySem.W.notFirst]) hs hf ?_
  have hl := F.len _ _ _ _ hsp
  have r2 : Vals [V.ref a, V.ref b] [Value.ref a, Value.ref b] := .cons rfl (.cons rfl .nil)
  refine wpAny_call (codeAny_mono (F.run X.A X.stack s H ⟨[.ref a, .ref b], []⟩ [.ref a, .ref b] [.ref a, .ref b] _ E0 hr I.env0 (by
    have := hb s [.ref a, .ref b] I.kIn (by simpa using hl)
    simpa using this) r2 hsp) fun r s' hq => ?_)
  cases r with
  | error e => exact pass0 (X := X) pins σ H s e s' I hq
  | ok fl =>
    cases fl with
    | ret w =>
      obtain ⟨z, H', I', rz, ⟨k, ez⟩, q⟩ := I.after hq
      subst ez
      cases rz
      exact ⟨.bl k, H', I', rfl, q⟩
    | next => exact False.elim hq
    | brk => exact False.elim hq
    | cont => exact False.elim hq
theorem opd_eqOf {C : Addr} {pre : Wd → List Ent → (D → Prop) → Prop} {ns : List Str} {xs ys : List D} {KK : D → Prop} (h : pre Wd.none [.d (.obj C ns xs), .d (.obj C ns ys)] fun d => ∃ b, d = .bl b ∧ KK (.bl b)) : OpD (rEqOwn C (FSp pre)) (.obj C ns xs) (.obj C ns ys) KK := fun Mw M v u H r1 r2 th Q q => by
  have o1 : Rep M H v (.obj C ns xs) := r1.elim id fun ⟨_, _, _, _, z, _⟩ => nomatch z
  have o2 : Rep M H u (.obj C ns ys) := r2.elim id fun ⟨_, _, _, _, z, _⟩ => nomatch z
  have l1 := Rep.less (M := mo Wd.none []) (fun a m => m.elim (fun z => z.elim) fun z => nomatch z) o1
  have l2 := Rep.less (M := mo Wd.none []) (fun a m => m.elim (fun z => z.elim) fun z => nomatch z) o2
  cases o1 with
  | obj e1 _ _ _ =>
  cases o2 with
  | obj e2 _ _ _ =>
  refine ⟨_, _, _, _, _, _, rfl, rfl, e1, e2, Wd.none, [], _, _, h, trivial, (fun l hl => nomatch hl), .cons l1 (.cons l2 .nil), rfl, fun d v H' ⟨b, ed, k⟩ ex _ r => ?_⟩
  subst ed
  cases r
  exact ⟨⟨b, rfl⟩, q _ _ H' k (fun M' => ex.weak fun a m => m.elim) (.bl b)⟩
end Pd

namespace Pd
open PySem L2 RZ PyProof.Rows
/-! ### the world of a law's tape: the list at t, its cells at c -/
def TapeIn (t c : Addr) (H : Hp) : Prop := ∃ (ns : List Int) (p : Nat) (a b n : Int), H t = some (.lst [.ref c, .int (p : Int), .int a, .int b, .int n]) ∧ H c = some (.lst (ns.map V.int))
theorem TapeIn.ne {t c : Addr} {H : Hp} (h : TapeIn t c H) : t ≠ c := fun e => by
  obtain ⟨ns, p, a, b, n, h1, h2⟩ := h
  subst e
  rw [h1] at h2
  cases ns with
  | nil => cases h2
  | cons x ns => cases h2
def tapeW (t c : Addr) : Wd where
  M := fun a => a = t ∨ a = c
  inv := TapeIn t c
  lst := fun H a ⟨ns, p, x, b, n, h1, h2⟩ m => by
    rcases m with rfl | rfl
    · exact ⟨_, h1⟩
    · exact ⟨_, h2⟩
  dep := fun H H' ⟨ns, p, a, b, n, h1, h2⟩ k => ⟨ns, p, a, b, n, k _ _ (.inl rfl) h1, k _ _ (.inr rfl) h2⟩
theorem pg_conv {X : Cx} {t : Expr} {g g' : TG} (h : PG X t g') (e : g' = g) : PG X t g := e ▸ h
theorem pe_no {X : Cx} {e : Expr} : PE X e (fun _ _ _ => False) := ⟨fun _ _ _ _ _ _ h => h.elim⟩
section
variable {G : List Ent} {te : TE} {KK : D → Prop} {E : Post} {K : PySem.W.Frag} {t c : Addr} {i : Nat}
theorem raw_at {W : Wd} {X : List Addr} {H : Hp} {σ : L2.St} {v : V} (E1 : Env W X H σ G) (hG : G[i]? = some (.raw v)) : σ[i]? = some (some v) := by
  obtain ⟨x, e, r⟩ := E1.ok.get hG
  rw [e]
  exact congrArg some r
/-- an int of the tape -/
theorem ev_tp {j : Int} (hj : j = 1 ∨ j = 2 ∨ j = 3 ∨ j = 4) (hG : G[i]? = some (.raw (.ref t))) (k : ∀ z : Int, KK (.int z)) : Ev (tapeW t c) G (tOp (rIx K) (tVar i) (tC (.int j))) KK := fun X σ H E1 Q q => by
  obtain ⟨ns, p, a, b, n, h1, h2⟩ := E1.inv
  refine ⟨_, raw_at E1 hG, ?_⟩
  have fin : ∀ z : Int, atI [V.ref c, .int (p : Int), .int a, .int b, .int n] j = some (.int z) → rIx K (.ref t) (.int j) H Q := fun z hz =>
    .inl ⟨t, _, j, _, rfl, rfl, SqL.of h1, hz, q _ _ H (k z) (Ex.refl _ _) E1.inv (.int z)⟩
  rcases hj with rfl | rfl | rfl | rfl
  · exact fin p rfl
  · exact fin a rfl
  · exact fin b rfl
  · exact fin n rfl
theorem tape_put {H : Hp} (h : TapeIn t c H) {j : Int} {m : Nat} (hj : (j = 2 ∧ m = 2) ∨ (j = 3 ∧ m = 3) ∨ (j = 4 ∧ m = 4)) (z : Int) : ∃ xs : List V, H t = some (.lst xs) ∧ ixN xs.length j = some m ∧ TapeIn t c (upd H t (.lst (xs.set m (.int z)))) := by
  have hne := h.ne
  obtain ⟨ns, p, a, b, n, h1, h2⟩ := h
  refine ⟨_, h1, ?_, ?_⟩
  · rcases hj with ⟨rfl, rfl⟩ | ⟨rfl, rfl⟩ | ⟨rfl, rfl⟩ <;> rfl
  · have e2 : (upd H t (.lst (([V.ref c, .int (p : Int), .int a, .int b, .int n]).set m (.int z)))) c = some (.lst (ns.map V.int)) := by rw [upd_ne hne.symm]; exact h2
    rcases hj with ⟨rfl, rfl⟩ | ⟨rfl, rfl⟩ | ⟨rfl, rfl⟩
    · exact ⟨ns, p, z, b, n, upd_same, e2⟩
    · exact ⟨ns, p, a, z, n, upd_same, e2⟩
    · exact ⟨ns, p, a, b, z, upd_same, e2⟩
theorem Ok.tape {X N : List Addr} {H0 H : Hp} {σ : L2.St} {xs ys : List V} (o : Ok (tapeW t c) X N H0 H σ G) (h : H t = some (.lst xs)) (i : TapeIn t c (upd H t (.lst ys))) : Ok (tapeW t c) X N H0 (upd H t (.lst ys)) σ G :=
  o.mono (Ex.mut (M := (tapeW t c).M) (.inl rfl) h) i
/-- tape[j] = an int -/
theorem st_tp {j : Int} {m : Nat} (hj : (j = 2 ∧ m = 2) ∨ (j = 3 ∧ m = 3) ∨ (j = 4 ∧ m = 4)) (hG : G[i]? = some (.raw (.ref t))) (h : Ev (tapeW t c) G te fun d => ∃ z, d = .int z ∧ E.nx G) :
    St (tapeW t c) G (tAsg te (gSub (tVar i) (tC (.int j)) rSetL)) E := fun X N H0 σ H o D m' => by
  refine h X σ H o.env _ fun d v H' ⟨z, e, k⟩ ex inv r => ?_
  subst e
  cases r
  have o1 := o.mono ex inv
  obtain ⟨xs, h1, h2, h3⟩ := tape_put inv hj z
  exact ⟨_, raw_at o1.env hG, t, xs, j, m, rfl, rfl, h1, h2, m'.nx _ _ _ k (o1.tape h1 h3)⟩
/-- if tape[1] < len(tape[0]): cell = tape[0][tape[1]]; tape[1] = tape[1] + 1 -/
theorem st_cell {iv : Nat} (hG : G[i]? = some (.raw (.ref t))) (hne : iv ≠ i) (k0 : E.nx G) (k : ∀ z : Int, E.nx (G.set iv (.d (.int z)))) :
    St (tapeW t c) G (tIfS (tTest (tOp (rI0 fun i j => .bl (decide (i < j))) (tOp (rIx K) (tVar i) (tC (.int 1))) (tCB (rLen1 K) (tCons (tOp (rIx K) (tVar i) (tC (.int 0))) tNil))))
      (tSeq (tAsg (tOp (rIx K) (tOp (rIx K) (tVar i) (tC (.int 0))) (tOp (rIx K) (tVar i) (tC (.int 1)))) (gName iv))
        (tAsg (tOp (rPlus K) (tOp (rIx K) (tVar i) (tC (.int 1))) (tC (.int 1))) (gSub (tVar i) (tC (.int 1)) rSetL))) tNext) E := fun X N H0 σ H o D m' => by
  have inv := o.env.inv
  obtain ⟨ns, p, a, b, n, h1, h2⟩ := id inv
  have hσ := raw_at o.env hG
  refine ⟨_, hσ, .inl ⟨t, _, 1, _, rfl, rfl, SqL.of h1, rfl, ?_⟩⟩
  refine ⟨_, hσ, .inl ⟨t, _, 0, _, rfl, rfl, SqL.of h1, rfl, ?_⟩⟩
  refine ⟨.ref c, ns.length, rfl, .inl ⟨ns.map V.int, SqL.of h2, by rw [List.length_map]⟩, ?_⟩
  refine ⟨_, _, rfl, rfl, _, rfl, ?_⟩
  show (if decide ((p : Int) < (ns.length : Int)) = true then _ else _)
  by_cases hp : (p : Int) < (ns.length : Int)
  · rw [if_pos (decide_eq_true hp)]
    have hp' : p < ns.length := by omega
    have hz : atI (ns.map V.int) (p : Int) = some (.int (ns[p])) := by
      unfold atI ixN
      rw [if_pos (by omega), if_pos (by rw [List.length_map]; omega)]
      simp [hp']
    refine ⟨_, hσ, .inl ⟨t, _, 0, _, rfl, rfl, SqL.of h1, rfl, ?_⟩⟩
    refine ⟨_, hσ, .inl ⟨t, _, 1, _, rfl, rfl, SqL.of h1, rfl, ?_⟩⟩
    refine .inl ⟨c, _, (p : Int), _, rfl, rfl, SqL.of h2, hz, ?_⟩
    have o1 : Ok (tapeW t c) X N H0 H (σ.set iv (some (.int ns[p]))) (G.set iv (.d (.int ns[p]))) := o.put (.int _)
    have hG1 : (G.set iv (.d (.int ns[p])))[i]? = some (.raw (.ref t)) := by rw [List.getElem?_set_ne hne]; exact hG
    have hσ1 := raw_at o1.env hG1
    refine ⟨_, hσ1, .inl ⟨t, _, 1, _, rfl, rfl, SqL.of h1, rfl, ?_⟩⟩
    refine .inl ⟨_, _, rfl, rfl, ?_⟩
    refine ⟨_, hσ1, t, _, 1, 1, rfl, rfl, h1, rfl, m'.nx _ _ _ (k _) (o1.tape h1 ?_)⟩
    refine ⟨ns, p + 1, a, b, n, ?_, by rw [upd_ne (TapeIn.ne inv).symm]; exact h2⟩
    rw [upd_same]
    rfl
  · rw [if_neg (by simpa using hp)]
    exact m'.nx _ _ _ k0 o
theorem set_self {α : Type} : ∀ {l : List α} {i : Nat} {x : α}, l[i]? = some x → l.set i x = l
  | [], _, _, h => by simp at h
  | a :: l, 0, x, h => by simp at h; subst h; rfl
  | a :: l, i + 1, x, h => by rw [List.set_cons_succ, set_self (by simpa using h)]
theorem st_cellZ {iv : Nat} {z0 : Int} (hG : G[i]? = some (.raw (.ref t))) (hne : iv ≠ i) (hz : G[iv]? = some (.d (.int z0))) (k : ∀ z : Int, E.nx (G.set iv (.d (.int z)))) :
    St (tapeW t c) G (tIfS (tTest (tOp (rI0 fun i j => .bl (decide (i < j))) (tOp (rIx K) (tVar i) (tC (.int 1))) (tCB (rLen1 K) (tCons (tOp (rIx K) (tVar i) (tC (.int 0))) tNil))))
      (tSeq (tAsg (tOp (rIx K) (tOp (rIx K) (tVar i) (tC (.int 0))) (tOp (rIx K) (tVar i) (tC (.int 1)))) (gName iv))
        (tAsg (tOp (rPlus K) (tOp (rIx K) (tVar i) (tC (.int 1))) (tC (.int 1))) (gSub (tVar i) (tC (.int 1)) rSetL))) tNext) E :=
  st_cell hG hne (by have := k z0; rwa [set_self hz] at this) k
end
section
variable {W : Wd} {G : List Ent} {ta tb : TE} {KL : List D → Prop} {K : PySem.W.Frag}
theorem evl_timesL (h : EvB W G ta fun x => EvB W G tb fun y => ∃ xs n, x = .lst xs ∧ y = .int n ∧ 0 ≤ n ∧ n < 2 ^ 63 ∧ xs.length * n.toNat ≤ 100000 ∧ KL (List.replicate n.toNat xs).flatten) : EvL W G (tOp (rTimes K) ta tb) KL := fun X σ H E Q q =>
  h X σ H E _ fun x v H1 k e1 i1 r1 => k X σ H1 (E.mono e1 i1) _ fun y u H2 k2 e2 i2 r2 => by
    obtain ⟨xs, n, rfl, rfl, h0, h1, hl, k2⟩ := k2
    obtain ⟨a, vs, rfl, ha, r⟩ := (r1.mono e2).lst
    rw [r2.int]
    exact .inr (.inl ⟨a, n, vs, rfl, rfl, ha, by omega, h1, small_le (by rw [r.length]; exact hl), evl_new E q (e1.trans e2) i2 k2 (rep_flat r _)⟩)
end
/-- flags by place -/
def flagsL (n : Nat) (f : Nat → Bool) : List D := (List.range n).map fun p => D.bl (f p)
theorem flagsL_len (n : Nat) (f : Nat → Bool) : (flagsL n f).length = n := by unfold flagsL; rw [List.length_map, List.length_range]
theorem flagsL_get {n : Nat} {f : Nat → Bool} {i : Nat} (h : i < n) : (flagsL n f)[i]? = some (.bl (f i)) := by
  unfold flagsL; rw [List.getElem?_map, List.getElem?_range h]; rfl
theorem flagsL_of {n : Nat} {f : Nat → Bool} {i : Nat} {d : D} (h : (flagsL n f)[i]? = some d) : i < n ∧ d = .bl (f i) := by
  have hi := (List.getElem?_eq_some_iff.mp h).1
  rw [flagsL_len] at hi
  rw [flagsL_get hi] at h
  exact ⟨hi, (Option.some.inj h).symm⟩
theorem flagsL_succ (n : Nat) (f : Nat → Bool) : flagsL (n + 1) f = flagsL n f ++ [.bl (f n)] := by
  unfold flagsL; rw [List.range_succ, List.map_append]; rfl
theorem flagsL_congr {n : Nat} {f g : Nat → Bool} (h : ∀ p, p < n → f p = g p) : flagsL n f = flagsL n g := by
  unfold flagsL
  exact List.map_congr_left fun p hp => by rw [h p (List.mem_range.mp hp)]
theorem flagsL_rep (n : Nat) : (List.replicate n [D.bl false]).flatten = flagsL n fun _ => false := by
  induction n with
  | zero => rfl
  | succ n ih => rw [flagsL_succ, ← ih, List.replicate_succ']; simp
theorem flagsL_set (n i : Nat) : (flagsL n fun _ => false).set i (.bl true) = flagsL n fun p => decide (i = p) := by
  refine List.ext_getElem? fun j => ?_
  by_cases hj : j < n
  · rw [flagsL_get hj]
    by_cases q : i = j
    · subst q
      rw [List.getElem?_set_self (by rw [flagsL_len]; exact hj)]; simp
    · rw [List.getElem?_set_ne q, flagsL_get hj]; simp [q]
  · rw [List.getElem?_eq_none (by rw [List.length_set, flagsL_len]; omega), List.getElem?_eq_none (by rw [flagsL_len]; omega)]
/-- who is what, as lists of flags -/
def aboveL (rows : List (List Nat)) (m : Nat) : List D := (List.range m).map fun x => D.lst (flagsL rows.length (Bk.isA rows x))
def aboveD (rows : List (List Nat)) : D := .lst (aboveL rows rows.length)
theorem aboveL_len (rows : List (List Nat)) (m : Nat) : (aboveL rows m).length = m := by unfold aboveL; rw [List.length_map, List.length_range]
theorem aboveL_get {rows : List (List Nat)} {m x : Nat} (h : x < m) : (aboveL rows m)[x]? = some (.lst (flagsL rows.length (Bk.isA rows x))) := by
  unfold aboveL; rw [List.getElem?_map, List.getElem?_range h]; rfl
theorem aboveL_succ (rows : List (List Nat)) (m : Nat) : aboveL rows (m + 1) = aboveL rows m ++ [.lst (flagsL rows.length (Bk.isA rows m))] := by
  unfold aboveL; rw [List.range_succ, List.map_append]; rfl
end Pd

namespace Pd
open PySem L2 RZ PyProof.Rows
section
variable {W : Wd} {G : List Ent} {te ta tb : TE} {E : Post} {K : PySem.W.Frag} {KK : D → Prop} {tt : TA}
theorem cd_abs {i : Int} (k : KK (.int (if i < 0 then -i else i))) : CallD rAbs [.d (.int i)] KK := fun M vs H r0 th Q q => by
  obtain ⟨v, rfl, r⟩ := vs1 r0
  cases (show Rep M H v (.int i) from r)
  exact ⟨i, rfl, q _ _ H k (fun _ => Ex.refl _ _) (.int _)⟩
/-- targets of an assignment -/
theorem st_asgT {g : TG} (h : Ev W G te fun d => Tg W G g d E.nx) : St W G (tAsg te g) E := fun X N H0 σ H o D m =>
  h X σ H o.env _ fun d v H' k ex inv r => k X N H0 σ H' v (o.mono ex inv) r _ fun G' σ' kk o' => m.nx _ _ _ kk o'
theorem tg_tup3 {i j l : Nat} {x y z : D} {KG : List Ent → Prop} (k : KG (((G.set i (.d x)).set j (.d y)).set l (.d z))) : Tg W G (gTup K 3 (gCons (gName i) (gCons (gName j) (gCons (gName l) gNil)))) (.tup [x, y, z]) KG := fun X N H0 σ H v o r Q q => by
  cases r with
  | tup h r =>
    cases r with
    | cons rx r =>
      cases r with
      | cons ry r =>
        cases r with
        | cons rz r =>
          cases r
          have o1 := o.put (i := i) rx
          have s := owned_set (G := G) (i := i) (e := .d x) rfl
          have s2 := owned_set (G := G.set i (.d x)) (i := j) (e := .d y) rfl
          have ry' : Rep (mo W (X ++ owned (G.set i (.d x)))) H _ y := ry.less (mo_sub (List.append_subset.mpr ⟨List.subset_append_left _ _, fun a h => List.mem_append_right _ (s.subset h)⟩))
          have rz' : Rep (mo W (X ++ owned ((G.set i (.d x)).set j (.d y)))) H _ z := rz.less (mo_sub (List.append_subset.mpr ⟨List.subset_append_left _ _, fun a h => List.mem_append_right _ (s.subset (s2.subset h))⟩))
          exact ⟨_, _, rfl, .inl (.inl h), rfl, _, _, rfl, _, _, rfl, _, _, rfl, rfl, q _ _ k ((o1.put ry').put rz')⟩
/-- a list of the def's own as an argument of a call: told as data -/
theorem evl_own {i : Nat} {l : Addr} {ds : List D} (h : G[i]? = some (.own l ds)) (k : KK (.lst ds)) : EvB W G (tVar i) KK := evb_own h k
end
/-! ### schemes -/
abbrev Tr := Nat × Int × List Int
def rowI (r : List Int) : D := .tup (r.map D.int)
def trD (t : Tr) : D := .tup [.int (t.1 : Nat), .int t.2.1, rowI t.2.2]
def scD (sc : List Tr) : D := .tup (sc.map trD)
structure ScOk (sc : List Tr) : Prop where
  len : sc.length < 50000
  row : ∀ t ∈ sc, t.2.2.length < 50000
theorem ScOk.nil : ScOk [] := ⟨by decide, fun _ h => nomatch h⟩
theorem ScOk.snoc {sc : List Tr} {t : Tr} (h : ScOk sc) (h1 : sc.length + 1 < 50000) (h2 : t.2.2.length < 50000) : ScOk (sc ++ [t]) := ⟨by rw [List.length_append]; exact h1, fun u hu => by
  rcases List.mem_append.mp hu with z | z
  · exact h.row u z
  · rw [List.mem_singleton.mp z]; exact h2⟩
def cmpS (sc : List Tr) (x p : Nat) : Bool := match sc[x]?, sc[p]? with
  | some a, some b => match a.2.2[b.1]? with
    | some e => decide (b.2.1 ≤ e)
    | none => false
  | _, _ => false
theorem sc_at {sc : List Tr} {x : Nat} {a : Tr} (h : sc[x]? = some a) : ixD (scD sc) ((x : Nat) : Int) = some (trD a) := atI_of (by rw [List.getElem?_map, h]; rfl)
theorem row_at {r : List Int} {x : Nat} {a : Int} (h : r[x]? = some a) : ixD (rowI r) ((x : Nat) : Int) = some (.int a) := atI_of (by rw [List.getElem?_map, h]; rfl)
theorem tr_0 (t : Tr) : ixD (trD t) 0 = some (.int (t.1 : Nat)) := rfl
theorem tr_1 (t : Tr) : ixD (trD t) 1 = some (.int t.2.1) := rfl
theorem tr_2 (t : Tr) : ixD (trD t) 2 = some (rowI t.2.2) := rfl
theorem scD_len (sc : List Tr) : (sc.map trD).length = sc.length := List.length_map ..
theorem rowI_len (r : List Int) : (r.map D.int).length = r.length := List.length_map ..
theorem cmpS_no {sc : List Tr} {x p : Nat} {a b : Tr} (ha : sc[x]? = some a) (hb : sc[p]? = some b) (h : ¬ b.1 < a.2.2.length) : cmpS sc x p = false := by
  unfold cmpS; rw [ha, hb]; dsimp only
  rw [List.getElem?_eq_none (by omega)]
theorem cmpS_yes {sc : List Tr} {x p : Nat} {a b : Tr} {e : Int} (ha : sc[x]? = some a) (hb : sc[p]? = some b) (h : a.2.2[b.1]? = some e) : cmpS sc x p = decide (b.2.1 ≤ e) := by
  unfold cmpS; rw [ha, hb]; dsimp only
  rw [h]
end Pd

/-! list(reversed(xs)) of a list, len(set(t)) of a tuple of ints -/
namespace L2
open PySem PySem.Spec PyProof.Rows RT
section
variable {prog : Program} {w : World} {A : Around} {E : Value → Shared → Prop} {s : Shared}
theorem pd_init_rev {it l S : Addr} {items : Array Value} {R : Result → Shared → Prop} (hh : A.handled = none) (hit : s.heap.IsRevIter it l ((items.size : Int) - 1)) (hl : s.heap.IsList l items) (hne : l ≠ it) (hSi : S ≠ it) (hSl : S ≠ l) (hn : items.size ≤ sizeLine)
    (hS : s.heap.get? S = some { cls := .type "list", data := .seq #[] })
    (hR : ∀ (h' : Heap) (tk : Nat) (acc : Array Value) (c' : Nat), (∀ b o, b ≠ S → b ≠ it → s.heap.get? b = some o → h'.get? b = some o) → h'.get? S = some { cls := .type "list", dict := none, data := .seq acc c', slots := #[] } →
      ItemsOf (fun i v => items[items.size - 1 - i]? = some v) acc items.size → R (.ok (.ret .none)) { s with heap := h', toks := tk }) :
    wpAny (model prog w) A.in1 (Builtin.«list.__init__» ⟨[.ref S, .ref it], []⟩)
      (fun fin s' => match fin with | .done f => R (.ok f) s' | .again c' => c'.quiet = true ∧ codeAny (model prog w) A c' R s') (fun e s' => R (.error e) s') s := by
  have WR := (Walks.listRev (prog := prog) (w := w) (A := A.in1) hh it l hne items).toS
  have hSf : S ∉ [it, l] := by simp only [List.mem_cons, List.not_mem_nil, or_false, not_or]; exact ⟨hSi, hSl⟩
  show wpAny _ A.in1 (do let old ← Builtin.List.listItems (.ref S); Builtin.List.listUpdate (.ref S) (fun _ => #[]); letGo old.toList.reverse; Builtin.List.listExtendWith (.ref S) (.ref it) .none) _ _ s
  refine wpAny_bind ?_
  unfold Builtin.List.listItems
  refine wpAny_bind (wpAny_seqItems hS rfl (wpAny_pure ?_))
  show wpAny _ A.in1 (updateSeq S (fun _ => #[]) >>= fun _ => letGo (#[] : Array Value).toList.reverse >>= fun _ => Builtin.List.listExtendWith (.ref S) (.ref it) .none) _ _ s
  refine wpAny_bind (wpAny_updateSeq hS rfl ?_)
  have e2 := Heap.get?_update_self (Obj.mapSeq (fun _ => (#[] : Array Value))) hS rfl
  have oth : ∀ b o, b ≠ S → s.heap.get? b = some o → (s.heap.update S (Obj.mapSeq (fun _ => (#[] : Array Value)))).get? b = some o :=
    fun b o hb e => (Heap.get?_update_other _ _ (Ne.symm hb)).trans e
  refine wpAny_bind (wpAny_letGo ?_)
  generalize hh2 : s.heap.update S (Obj.mapSeq (fun _ => (#[] : Array Value))) = h2 at e2 oth ⊢
  have hit1 : h2.IsRevIter it l ((items.size : Int) - 1) := hit.at fun o e => oth it o hSi.symm e
  have hl1 : h2.IsList l items := by
    obtain ⟨o, ho, r⟩ := hl
    exact ⟨o, oth l o hSl.symm ho, r⟩
  have hT : ({ s with heap := h2 } : Shared).TypeIs (.ref it) "list_reverseiterator" := Heap.IsRevIter.typeIs (s := { s with heap := h2 }) hit1
  have h1 : Builtin.List.listSameRef (.ref S) (.ref it) = false := by simp [Builtin.List.listSameRef, hSi]
  unfold Builtin.List.listExtendWith
  refine wpAny_bind (wpAny_typeOf hT ?_)
  rw [if_neg (by rw [h1]; decide)]
  refine wpAny_bind (wpAny_pyIter_revIter (s := { s with heap := h2 }) hit1 ?_)
  refine wpAny_bind (wpAny_holding ?_)
  unfold Builtin.List.listLengthHint
  refine wpAny_bind (wpAny_specialOf hT nolen_lri ?_)
  show wpAny _ A.in1 (specialOf (Value.ref it) (Str.ofString "__length_hint__") >>= _) _ _ _
  refine wpAny_bind (wpAny_specialOf hT hint_lri ?_)
  generalize hid : ("list_reverseiterator.__length_hint__" : String) = id0
  wp_delta
  rw [show splitId id0 = some ("list_reverseiterator", "__length_hint__") from by subst hid; decide +kernel]
  subst hid
  refine wpAny_bind (wpAny_isInstance (b := true) hT (by rw [isSubtype_type]; kernel_rfl) ?_)
  refine wpAny_pure ?_
  rw [if_neg (by decide)]
  have e0 : ((items.size : Nat) : Int) - 1 - ((0 : Nat) : Int) = (items.size : Int) - 1 := by omega
  refine wpAny_pure ⟨plainId_quiet F.plain_extend_loop _, codeAny_extend_loopS WR hn _ hSf _ items.size 0 _ _ _ rfl (Nat.zero_le _) ⟨Nat.zero_le _, by rw [e0]; exact hit1, hl1⟩ e2 (ItemsOf.nil _) fun s' acc' c' hm hS' hacc => ?_⟩
  rw [Moved.eq_with hm]
  refine hR s'.heap s'.toks acc' c' (fun b o hb hb2 e => hm.heap b o (fun hmem => ?_) (oth b o hb e)) hS' hacc
  rcases List.mem_cons.mp hmem with e' | hmem
  · exact hb e'
  · exact hb2 (List.mem_singleton.mp hmem)
theorem pd_list_rev {it l : Addr} {items : Array Value} {Q : Value → Shared → Prop} (hh : A.handled = none) (hit : s.heap.IsRevIter it l ((items.size : Int) - 1)) (hl : s.heap.IsList l items) (hne : l ≠ it) (hn : items.size ≤ sizeLine)
    (hQ : ∀ (h' : Heap) (tk : Nat) (acc : Array Value) (c' : Nat), (∀ b o, b ≠ it → s.heap.get? b = some o → h'.get? b = some o) → h'.get? s.heap.objs.size = some { cls := .type "list", dict := none, data := .seq acc c', slots := #[] } →
      ItemsOf (fun i v => items[items.size - 1 - i]? = some v) acc items.size → Q (.ref s.heap.objs.size) { s with heap := h', toks := tk }) :
    wpAny (model prog w) A (call (.type "list") [.ref it]) Q E s := by
  obtain ⟨oi, hoi, _⟩ := id hit
  obtain ⟨ol, hol, hol2⟩ := id hl
  have z1 : s.heap.objs.size ≠ it := Nat.ne_of_gt (Heap.lt_size hoi)
  have z2 : s.heap.objs.size ≠ l := Nat.ne_of_gt (Heap.lt_size hol)
  refine callType_codes (Q₁ := fun obj s₁ => obj = .ref s.heap.objs.size ∧ s₁ = { s with heap := s.heap.push { cls := .type "list", data := .seq #[] } }) F.called_list (F.typeCall_list_1 _) F.entry_list_init
    (code_list_new _ ⟨rfl, rfl⟩) fun obj s₁ h₁ => ?_
  obtain ⟨rfl, rfl⟩ := h₁
  have hS : (s.heap.push { cls := .type "list", data := .seq #[] }).get? s.heap.objs.size = some { cls := .type "list", data := .seq #[] } := Heap.get?_push_size _ rfl
  refine ⟨⟨_, hS, rfl⟩, F.args_list_init_2 _ _, pd_init_rev (s := { s with heap := s.heap.push { cls := .type "list", data := .seq #[] } }) hh (hit.at fun o e => Heap.get?_push_of_some _ e) (hl.push _) hne z1 z2 hn hS fun h' tk acc c' hk e hacc => ⟨rfl, ?_⟩⟩
  exact hQ h' tk acc c' (fun b o hb e => hk b o (Nat.ne_of_lt (Heap.lt_size e)) hb (Heap.get?_push_of_some _ e)) e hacc
end
section
variable {X : Cx}
theorem vals_rev {ys : List V} {its : List Value} {acc : Array Value} (r : Vals ys its) (h : ItemsOf (fun i v => its.toArray[its.toArray.size - 1 - i]? = some v) acc its.toArray.size) : acc.toList = its.reverse := by
  obtain ⟨h1, h2⟩ := h
  refine List.ext_getElem? fun i => ?_
  by_cases hi : i < its.length
  · have hs : i < acc.size := by rw [h1]; simpa using hi
    have e := h2 i _ (by rw [Array.getElem?_eq_getElem hs])
    rw [Array.getElem?_toList, Array.getElem?_eq_getElem hs, List.getElem?_reverse hi, ← e]
    simp
  · rw [List.getElem?_eq_none (by rw [Array.length_toList, h1]; simpa using hi), List.getElem?_eq_none (by simpa using hi)]
theorem vals_reverse : ∀ {ys : List V} {its : List Value}, Vals ys its → Vals ys.reverse its.reverse
  | _, _, .nil => .nil
  | _, _, .cons r t => by
    rw [List.reverse_cons, List.reverse_cons]
    exact (vals_reverse t).append (.cons r .nil)
/-- list(reversed(xs)), xs a list -/
def tListRev (K : PySem.W.Frag) (ta : TE) : TE := fun σ H Q => ta σ H fun x H1 => ∃ (l : Addr) (ys : List V), x = .ref l ∧ SqL K H1 l ys ∧ ∀ p, H1 p = none → Q (.ref p) (upd H1 p (.lst ys.reverse))
theorem pe_listRev {a : Expr} {ta : TE} {p p2 q pos : Pos} (hc : X.calm = true) (hg : Gl X "list") (hm : X.mg "list" = none) (hg2 : Gl X "reversed") (hm2 : X.mg "reversed" = none) (ha : PE X a ta)
    (na : starEach [a] X.env = (false, eval a X.env) :: starEach [] X.env := by rfl) : PE X (.Call (.Name "list" p) [.Call (.Name "reversed" p2) [a] [] q] [] pos) (tListRev X.K ta) := by
  refine ⟨fun pins s σ H Q I h => ?_⟩
  refine Call_ (ld_blt I hg hm boot_list ?_)
  refine PyProof.Rows.callWith_type1 (PyProof.Rows.args_cons ?_ rfl) rfl rfl
  refine Call_ (ld_blt I hg2 hm2 PyProof.Rows.boot_reversed ?_)
  refine PyProof.Rows.callWith_type1 (PyProof.Rows.args_cons (thn (ha.run pins s σ H _ I h) fun v s1 ⟨x, H1, I1, r1, q1⟩ => PyProof.Rows.args_nil ?_) na) na rfl
  obtain ⟨l, ys, rfl, hq, q1⟩ := q1
  cases r1
  obtain ⟨its, r, pl, hz⟩ := I1.list hq
  have hlen := r.length
  refine call_reversed_list pl.isList (PyProof.Rows.args_nil ?_)
  obtain ⟨ol, hol, _⟩ := id pl.isList
  have hne : l ≠ s1.heap.objs.size := Nat.ne_of_lt (Heap.lt_size hol)
  refine pd_list_rev (s := { s1 with heap := s1.heap.push (revObj l ((its.toArray.size : Int) - 1)) }) (I1.ok.hd hc) (l := l) (items := its.toArray) ⟨_, Heap.get?_push_size _ rfl, rfl, rfl⟩ (pl.isList.push _) hne (by rw [List.size_toArray]; omega) fun h' tk acc c' hk e hacc => ?_
  have kk : ∀ b o, s1.heap.get? b = some o → h'.get? b = some o := fun b o e => hk b o (Nat.ne_of_lt (Heap.lt_size e)) (Heap.get?_push_of_some _ e)
  have hz2 : (s1.heap.push (revObj l ((its.toArray.size : Int) - 1))).objs.size = s1.heap.objs.size + 1 := Heap.size_push ..
  have hle : s1.heap.objs.size ≤ (s1.heap.push (revObj l ((its.toArray.size : Int) - 1))).objs.size := by rw [hz2]; exact Nat.le_succ _
  refine ⟨.ref _, upd H1 _ (.lst ys.reverse), I1.laid (t' := tk) kk hle (show ObjOk X.prog X.w _ _ _ (.lst ys.reverse) from ⟨by rw [List.length_reverse]; omega, its.reverse, c', vals_reverse r, ?_⟩), rfl, q1 _ (I1.hok.fresh hle)⟩
  rw [← vals_rev r hacc, Array.toArray_toList]
  exact e
/-- len(set(t)), t a tuple of ints -/
def tLenSetT (K : PySem.W.Frag) (ta : TE) : TE := fun σ H Q => ta σ H fun x H1 => ∃ (l : Addr) (ns : List Int), x = .ref l ∧ SqT K H1 l (ns.map V.int) ∧ ns.length < 4000 ∧ ∀ ks : List Int, ks.Nodup → (∀ k, k ∈ ks ↔ k ∈ ns) → Q (.int ks.length) H1
theorem pe_lenSetT {a : Expr} {ta : TE} {p p2 q pos : Pos} (hc : X.calm = true) (hg : Gl X "len") (hm : X.mg "len" = none) (hg2 : Gl X "set") (hm2 : X.mg "set" = none) (ha : PE X a ta)
    (na : starEach [a] X.env = (false, eval a X.env) :: starEach [] X.env := by rfl) : PE X (.Call (.Name "len" p) [.Call (.Name "set" p2) [a] [] q] [] pos) (tLenSetT X.K ta) := by
  refine ⟨fun pins s σ H Q I h => ?_⟩
  refine Call_ (ld_blt I hg hm boot_len ?_)
  refine PyProof.Rows.callWith_builtin1 (PyProof.Rows.args_cons ?_ rfl) rfl rfl
  refine Call_ (ld_blt I hg2 hm2 boot_set ?_)
  refine PyProof.Rows.callWith_type1 (PyProof.Rows.args_cons (thn (ha.run pins s σ H _ I h) fun v s1 ⟨x, H1, I1, r1, q1⟩ => PyProof.Rows.args_nil ?_) na) na rfl
  obtain ⟨l, ns, rfl, hq, hl, q1⟩ := q1
  cases r1
  obtain ⟨its, r, pl, hz⟩ := I1.tuple hq
  refine call_set_tupI ns (I1.ok.hd hc) pl (ints_of_vals r) (by unfold scanBound; omega) fun h' tk c hS hcn hk => PyProof.Rows.args_nil ?_
  obtain ⟨o, es, ep, t, ho, hex, hd, hgood, hnd, hmem, hb, hf, hn, _⟩ := hS
  have I2 : Inv X pins σ H1 { s1 with heap := h', toks := tk } := I1.kept hk
  have fin := q1 (es.toList.map keyOf) hnd fun k => by rw [← hmem k]; simp
  rw [List.length_map, Array.length_toList] at fin
  exact call_len_set ho hex hd hf (by unfold scanBound at hb; omega) ⟨.int es.size, H1, I2.tok _, ⟨_, rfl⟩, fin⟩
end
end L2
namespace Pd
open PySem L2 RZ PyProof.Rows
section
variable {W : Wd} {G : List Ent} {te : TE} {K : PySem.W.Frag} {KK : D → Prop} {KL : List D → Prop}
theorem RepAll.rev {M : Addr → Prop} {H : Hp} : ∀ {vs : List V} {ds : List D}, RepAll M H vs ds → RepAll M H vs.reverse ds.reverse
  | _, _, .nil => .nil
  | _, _, .cons r t => by
    rw [List.reverse_cons, List.reverse_cons]
    exact (RepAll.rev t).append (.cons r .nil)
theorem evl_listRev (h : EvB W G te fun d => ∃ ds, d = .lst ds ∧ KL ds.reverse) : EvL W G (tListRev K te) KL := fun X σ H E Q q =>
  h X σ H E _ fun d v H' k ex inv r => by
    obtain ⟨ds, rfl, k⟩ := k
    obtain ⟨a, us, rfl, ha, s⟩ := r.lst
    exact ⟨a, us, rfl, .inl (.inl ha), evl_new E q ex inv k s.rev⟩
theorem ev_lenSetT (h : Ev W G te fun d => ∃ ns : List Int, d = .tup (ns.map D.int) ∧ ns.length < 4000 ∧ ∀ ks : List Int, ks.Nodup → (∀ k, k ∈ ks ↔ k ∈ ns) → KK (.int ks.length)) : Ev W G (tLenSetT K te) KK := fun X σ H E Q q =>
  h X σ H E _ fun d v H' k ex inv r => by
    obtain ⟨ns, rfl, hl, k⟩ := k
    cases r with
    | @tup a us _ ha s =>
      have e := RepAll.ints s
      subst e
      exact ⟨a, ns, rfl, .inl (.inl ha), hl, fun ks nd hm => q _ _ H' (k ks nd hm) ex inv (.int _)⟩
end
end Pd
namespace Pd
open PySem L2 RZ PyProof.Rows
theorem eqD_nat (a b : Nat) : eqD (.int (a : Nat)) (.int (b : Nat)) = decide (a = b) := by
  show ((a : Int) == (b : Int)) = _
  rw [Bool.eq_iff_iff, beq_iff_eq, decide_eq_true_eq]; omega
theorem eqD_ints (a b : Int) : eqD (.int a) (.int b) = decide (a = b) := by
  show (a == b) = _
  rw [Bool.eq_iff_iff, beq_iff_eq, decide_eq_true_eq]
/-- numbers, as a list's items -/
def natsD (l : List Nat) : List D := l.map fun (k : Nat) => D.int (k : Int)
theorem natsD_len (l : List Nat) : (natsD l).length = l.length := List.length_map ..
theorem natsD_get {l : List Nat} {i k : Nat} (h : l[i]? = some k) : (natsD l)[i]? = some (.int (k : Nat)) := by
  unfold natsD; rw [List.getElem?_map, h]; rfl
theorem natsD_of {l : List Nat} {i : Nat} {d : D} (h : (natsD l)[i]? = some d) : ∃ k, l[i]? = some k ∧ d = .int (k : Nat) := by
  unfold natsD at h
  rw [List.getElem?_map] at h
  obtain ⟨k, hk, e⟩ := Option.map_eq_some_iff.mp h
  exact ⟨k, hk, e.symm⟩
theorem natsD_snoc (l : List Nat) (k : Nat) : natsD l ++ [.int (k : Nat)] = natsD (l ++ [k]) := by unfold natsD; rw [List.map_append]; rfl
theorem natsD_rev (l : List Nat) : (natsD l).reverse = natsD l.reverse := by unfold natsD; rw [List.map_reverse]
theorem natsD_flat (l : List Nat) : (natsD l).all flatD = true := by
  unfold natsD; rw [List.all_map]
  exact List.all_eq_true.mpr fun _ _ => rfl
theorem inD_nats (k : Nat) : ∀ l : List Nat, inD (.int (k : Nat)) (natsD l) = decide (k ∈ l)
  | [] => by simp [inD, natsD]
  | a :: l => by
    have ih := inD_nats k l
    unfold inD natsD at ih ⊢
    rw [List.map_cons, List.any_cons, ih, eqD_nat]
    by_cases q : a = k
    · subst q; simp
    · have q' : ¬ k = a := fun z => q z.symm
      simp [q, q']
theorem snoc_take {α : Type} {l : List α} {i : Nat} {x : α} (h : l[i]? = some x) : l.take (i + 1) = l.take i ++ [x] := by
  rw [List.take_add_one, h]; rfl
/-- unlike items of the same kinds are as many -/
theorem same_len {ks : List Int} {js : List Nat} (h1 : ks.Nodup) (h2 : js.Nodup) (h : ∀ k, k ∈ ks ↔ ∃ j ∈ js, k = (j : Nat)) : ks.length = js.length := by
  have nd : (js.map fun (j : Nat) => (j : Int)).Nodup := by
    unfold List.Nodup
    rw [List.pairwise_map]
    exact h2.imp fun {a b} hab z => hab (by omega)
  have p : ks.Perm (js.map fun (j : Nat) => (j : Int)) := (List.perm_ext_iff_of_nodup h1 nd).mpr fun k => by
    rw [h k, List.mem_map]
    exact ⟨fun ⟨j, hj, e⟩ => ⟨j, hj, e.symm⟩, fun ⟨j, hj, e⟩ => ⟨j, hj, e.symm⟩⟩
  rw [p.length_eq, List.length_map]
/-- the slots of a scheme -/
def slotsN (sc : List Tr) : List Nat := sc.map fun t => t.1
theorem slotsN_len (sc : List Tr) : (slotsN sc).length = sc.length := List.length_map ..
theorem nT_ints (l : List Nat) : nT l = .tup ((l.map fun (k : Nat) => (k : Int)).map D.int) := by
  unfold nT; rw [List.map_map]; rfl
end Pd

namespace Bk
def plainRow (rows : List (List Nat)) (row : List Nat) : List Nat := row.filter fun p => !row.any fun q => decide (q ≠ p) && Bk.isA rows q p
def plainOf (rows : List (List Nat)) : List (List Nat) := rows.map (plainRow rows)
theorem plainOf_get {rows : List (List Nat)} {k : Nat} {row : List Nat} (h : rows[k]? = some row) : (plainOf rows)[k]? = some (plainRow rows row) := by
  unfold plainOf; rw [List.getElem?_map, h]; rfl
theorem plainOf_of {rows : List (List Nat)} {k : Nat} {row : List Nat} (h : (plainOf rows)[k]? = some row) : ∃ r, rows[k]? = some r ∧ row = plainRow rows r := by
  unfold plainOf at h
  rw [List.getElem?_map] at h
  cases q : rows[k]? with
  | none => rw [q] at h; cases h
  | some r => rw [q] at h; exact ⟨r, rfl, (Option.some.inj h).symm⟩
theorem plainOf_ok {rows : List (List Nat)} (h : RowsOk rows) : RowsOk (plainOf rows) := fun k row hk p hp => by
  obtain ⟨r, hr, rfl⟩ := plainOf_of hk
  exact h k r hr p (List.mem_filter.mp hp).1
theorem plainOf_length (rows : List (List Nat)) : (plainOf rows).length = rows.length := by unfold plainOf; rw [List.length_map]
theorem isA_parent {rows : List (List Nat)} (ok : RowsOk rows) {x q : Nat} {row : List Nat} (h : rows[x]? = some row) (hq : q ∈ row) : isA rows x q = true := by
  rw [isA_eq ok h]
  refine Bool.or_eq_true_iff.mpr (.inr (List.any_eq_true.mpr ⟨q, hq, ?_⟩))
  have hx := (List.getElem?_eq_some_iff.mp h).1
  exact isA_self ok (Nat.lt_trans (ok x row h q hq) hx)
/-- of the parents that are p the greatest is plain -/
theorem plain_top {rows : List (List Nat)} (ok : RowsOk rows) {x p : Nat} {row : List Nat} (h : rows[x]? = some row) : ∀ (m r : Nat), m = x - r → r ∈ row → isA rows r p = true → ∃ q ∈ plainRow rows row, isA rows q p = true := by
  intro m
  induction m using Nat.strongRecOn with
  | _ m ih =>
    intro r hm hr hp
    have hx := (List.getElem?_eq_some_iff.mp h).1
    have hrx := ok x row h r hr
    by_cases e : (row.any fun q => decide (q ≠ r) && isA rows q r) = true
    · obtain ⟨q, hq, hz⟩ := List.any_eq_true.mp e
      obtain ⟨h1, h2⟩ := Bool.and_eq_true_iff.mp hz
      have h1 := of_decide_eq_true h1
      have hqx := ok x row h q hq
      have hle := isA_le ok q r (by omega) h2
      exact ih (x - q) (by omega) q rfl hq (isA_trans ok q r p (by omega) h2 hp)
    · exact ⟨r, List.mem_filter.mpr ⟨hr, by simpa using e⟩, hp⟩
theorem isA_plain {rows : List (List Nat)} (ok : RowsOk rows) : ∀ x, x < rows.length → ∀ p, isA (plainOf rows) x p = isA rows x p := by
  intro x
  induction x using Nat.strongRecOn with
  | _ x ih =>
    intro hx p
    have hr := List.getElem?_eq_getElem hx
    rw [isA_eq (plainOf_ok ok) (plainOf_get hr), isA_eq ok hr]
    congr 1
    rw [Bool.eq_iff_iff, List.any_eq_true, List.any_eq_true]
    constructor
    · rintro ⟨q, hq, hz⟩
      have hm := (List.mem_filter.mp hq).1
      have hqx := ok x _ hr q hm
      rw [ih q hqx (by omega)] at hz
      exact ⟨q, hm, hz⟩
    · rintro ⟨r, hrm, hz⟩
      obtain ⟨q, hq, hz'⟩ := plain_top ok hr (x - r) r rfl hrm hz
      have hqx := ok x _ hr q (List.mem_filter.mp hq).1
      exact ⟨q, hq, by rw [ih q hqx (by omega)]; exact hz'⟩
theorem plainRow_plain {rows : List (List Nat)} (ok : RowsOk rows) {x : Nat} {row : List Nat} (h : rows[x]? = some row) : plainRow (plainOf rows) (plainRow rows row) = plainRow rows row := by
  have hx := (List.getElem?_eq_some_iff.mp h).1
  refine List.filter_eq_self.mpr fun p hp => ?_
  obtain ⟨h1, h2⟩ := List.mem_filter.mp hp
  rw [Bool.not_eq_true'] at h2 ⊢
  rw [Bool.eq_false_iff] at h2 ⊢
  intro z
  obtain ⟨q, hq, hz⟩ := List.any_eq_true.mp z
  have hm := (List.mem_filter.mp hq).1
  have hqx := ok x row h q hm
  rw [isA_plain ok q (by omega)] at hz
  exact h2 (List.any_eq_true.mpr ⟨q, hm, hz⟩)
theorem plain_plain {rows : List (List Nat)} (ok : RowsOk rows) : plainOf (plainOf rows) = plainOf rows := by
  refine List.ext_getElem? fun k => ?_
  cases h : rows[k]? with
  | none =>
    have hk : rows.length ≤ k := List.getElem?_eq_none_iff.mp h
    rw [List.getElem?_eq_none (by rw [plainOf_length, plainOf_length]; exact hk), List.getElem?_eq_none (by rw [plainOf_length]; exact hk)]
  | some row => rw [plainOf_get (plainOf_get h), plainOf_get h, plainRow_plain ok h]
/-- forebears of x, by number -/
def far (rows : List (List Nat)) (x : Nat) : List Nat := (List.range x).filter fun p => isA rows x p
theorem plain_far {rows : List (List Nat)} (ok : RowsOk rows) {x : Nat} {row : List Nat} (h : rows[x]? = some row) (up : row.Pairwise (· < ·)) :
    ((far rows x).filter fun p => !(far rows x).any fun q => decide (q ≠ p) && isA rows q p) = plainRow rows row := by
  have hx := (List.getElem?_eq_some_iff.mp h).1
  refine Bm.rising_ext (List.Pairwise.filter _ (List.Pairwise.filter _ List.pairwise_lt_range)) (List.Pairwise.filter _ up) fun p => ?_
  have memf : ∀ q, q ∈ far rows x ↔ q < x ∧ isA rows x q = true := fun q => by
    unfold far; rw [List.mem_filter, List.mem_range]
  have up1 : ∀ q, q ∈ far rows x → ∃ r ∈ row, isA rows r q = true := fun q hq => by
    obtain ⟨a, b⟩ := (memf q).mp hq
    rw [isA_eq ok h] at b
    rcases Bool.or_eq_true_iff.mp b with z | z
    · have := of_decide_eq_true z; omega
    · exact List.any_eq_true.mp z
  have inf : ∀ q, q ∈ row → q ∈ far rows x := fun q hq => (memf q).mpr ⟨ok x row h q hq, isA_parent ok h hq⟩
  unfold plainRow
  rw [List.mem_filter, List.mem_filter, Bool.not_eq_true', Bool.not_eq_true', Bool.eq_false_iff, Bool.eq_false_iff]
  constructor
  · rintro ⟨h1, h2⟩
    have hpr : p ∈ row := by
      obtain ⟨r, hr, hrp⟩ := up1 p h1
      by_cases e : r = p
      · rw [← e]; exact hr
      · exact absurd (List.any_eq_true.mpr ⟨r, inf r hr, by rw [hrp]; simp [e]⟩) h2
    refine ⟨hpr, fun z => h2 ?_⟩
    obtain ⟨q, hq, hz⟩ := List.any_eq_true.mp z
    exact List.any_eq_true.mpr ⟨q, inf q hq, hz⟩
  · rintro ⟨h1, h2⟩
    refine ⟨inf p h1, fun z => h2 ?_⟩
    obtain ⟨q, hq, hz⟩ := List.any_eq_true.mp z
    obtain ⟨e1, e2⟩ := Bool.and_eq_true_iff.mp hz
    have e1 := of_decide_eq_true e1
    obtain ⟨r, hr, hrq⟩ := up1 q hq
    have hrx := ok x row h r hr
    have hqx := ((memf q).mp hq).1
    have t := isA_trans ok r q p (by omega) hrq e2
    by_cases e : r = p
    · subst e
      have := isA_le ok r q (by omega) hrq
      have := isA_le ok q r (by omega) e2
      omega
    · exact List.any_eq_true.mpr ⟨r, hr, by rw [t]; simp [e]⟩
end Bk

namespace Bk
def chainR (n : Nat) : List (List Nat) := [] :: (List.range n).map fun k => [k]
theorem chainR_length (n : Nat) : (chainR n).length = n + 1 := by simp [chainR]
theorem chainR_get {n x : Nat} (h : x < n) : (chainR n)[x + 1]? = some [x] := by
  unfold chainR
  rw [List.getElem?_cons_succ, List.getElem?_map, List.getElem?_range h]; rfl
theorem chainR_ok (n : Nat) : RowsOk (chainR n) := fun k row hk p hp => by
  cases k with
  | zero => cases hk; cases hp
  | succ k =>
    have hl := (List.getElem?_eq_some_iff.mp hk).1
    rw [chainR_length] at hl
    rw [chainR_get (by omega)] at hk
    cases hk
    rw [List.mem_singleton.mp hp]; omega
theorem chainR_isA (n : Nat) : ∀ x, x < n + 1 → ∀ p, isA (chainR n) x p = decide (p ≤ x) := by
  intro x
  induction x with
  | zero =>
    intro _ p
    rw [isA_eq (chainR_ok n) (show (chainR n)[0]? = some [] from rfl)]
    simp; constructor <;> intro h <;> omega
  | succ x ih =>
    intro hx p
    rw [isA_eq (chainR_ok n) (chainR_get (by omega)), List.any_cons, List.any_nil, ih (by omega) p, Bool.or_false, Bool.eq_iff_iff]
    simp; omega
def wideR (n : Nat) : List (List Nat) := List.replicate n []
theorem wideR_get {n x : Nat} (h : x < n) : (wideR n)[x]? = some [] := by
  unfold wideR; rw [List.getElem?_replicate, if_pos h]
theorem wideR_ok (n : Nat) : RowsOk (wideR n) := fun k row hk p hp => by
  have := List.mem_of_getElem? hk
  rw [(List.mem_replicate.mp this).2] at hp
  cases hp
theorem wideR_isA {n x : Nat} (h : x < n) (p : Nat) : isA (wideR n) x p = decide (x = p) := by
  rw [isA_eq (wideR_ok n) (wideR_get h)]; simp
theorem chain_fore {n x : Nat} (h : x < n + 1) : ((List.range x).filter fun p => isA (chainR n) x p) = List.range x := by
  refine List.filter_eq_self.mpr fun p hp => ?_
  rw [chainR_isA n x h]
  have := List.mem_range.mp hp
  simp; omega
theorem chain_heirs {n x : Nat} (h : x < n + 1) : ((List.range (n + 1)).filter fun k => decide (x ≠ k) && isA (chainR n) k x) = (List.range (n - x)).map fun j => x + 1 + j := by
  refine Bm.rising_ext (List.Pairwise.filter _ List.pairwise_lt_range) ?_ fun k => ?_
  · rw [List.pairwise_map]
    exact List.pairwise_lt_range.imp fun {a b} q => by omega
  · rw [List.mem_filter, List.mem_range, List.mem_map]
    constructor
    · rintro ⟨h1, h2⟩
      rw [chainR_isA n k h1] at h2
      obtain ⟨a, b⟩ := Bool.and_eq_true_iff.mp h2
      have a := of_decide_eq_true a
      have b := of_decide_eq_true b
      exact ⟨k - (x + 1), List.mem_range.mpr (by omega), by omega⟩
    · rintro ⟨j, hj, rfl⟩
      have := List.mem_range.mp hj
      refine ⟨by omega, ?_⟩
      rw [chainR_isA n _ (by omega)]
      simp; omega
theorem wide_fore {n x : Nat} (h : x < n) : ((List.range x).filter fun p => isA (wideR n) x p) = [] := by
  refine List.filter_eq_nil_iff.mpr fun p hp => ?_
  rw [wideR_isA h]
  have := List.mem_range.mp hp
  simp; omega
theorem wide_heirs {n x : Nat} : ((List.range n).filter fun k => decide (x ≠ k) && isA (wideR n) k x) = [] := by
  refine List.filter_eq_nil_iff.mpr fun k hk => ?_
  rw [wideR_isA (List.mem_range.mp hk)]
  simp; intro a b; omega
end Bk

namespace Lw
open PySem L2 RZ Pd PyProof.Rows
def topS (i : Nat) : Stmt := PySem.Challenge.pw_latekinds_k15_slots_of_a_scheme.main.body.getD i (.Pass ⟨0, 0, 0, 0⟩)
structure Txt (K : PySem.W.Frag) (mg : Str → Option Value) : Prop where
  z_abs : mg "abs" = none
  z_all : mg "all" = none
  z_bool : mg "bool" = none
  z_int : mg "int" = none
  z_isinstance : mg "isinstance" = none
  z_len : mg "len" = none
  z_list : mg "list" = none
  z_range : mg "range" = none
  z_reversed : mg "reversed" = none
  z_set : mg "set" = none
  z_tuple : mg "tuple" = none
theorem truD_bl (b : Bool) : truD (.bl b) = b := rfl
/-! ### one step of a reading -/
local macro_rules | `(tactic| walk_at "pd") => `(tactic| (
  (first
  | (with_reducible refine' st_seq (st_own (evl_lst (eva_nil ⟨[], rfl, Nat.zero_le _, fun l => ?_⟩))))
  | (with_reducible refine' st_seq ?_)
  | (with_reducible refine' st_asg ?_)
  | (with_reducible refine' st_ret ?_)
  | ((with_reducible refine' st_cellZ ?hG ?hn ?hz ?_); (case hG => exact rfl); (case hn => decide); (case hz => exact rfl); intro)
  | (with_reducible refine' st_if ?_)
  | (with_reducible refine' st_next ?_)
  | (with_reducible refine' st_drop ?_)
  | (with_reducible refine' st_brk ?_)
  | (with_reducible refine' st_cont ?_)
  | (with_reducible refine' st_retN ?_)
  | ((with_reducible refine' ev_var ?h ?_); (case h => exact rfl))
  | (with_reducible refine' ev_int ?_)
  | (with_reducible refine' ev_bl ?_)
  | (with_reducible refine' ev_non ?_)
  | (with_reducible refine' ev_str ?_)
  | ((with_reducible refine' ev_tp ?hj ?hG ?_); (case hj => first | exact .inl rfl | exact .inr (.inl rfl) | exact .inr (.inr (.inl rfl)) | exact .inr (.inr (.inr rfl))); (case hG => exact rfl); intro)
  | ((with_reducible refine' st_tp ?hj ?hG ?_); (case hj => first | exact .inl ⟨rfl, rfl⟩ | exact .inr (.inl ⟨rfl, rfl⟩) | exact .inr (.inr ⟨rfl, rfl⟩)); (case hG => exact rfl))
  | ((with_reducible refine' ev_opB (evb_own ?h ?_)); (case h => exact rfl))
  | (with_reducible refine' ev_op ?_)
  | (with_reducible refine' ev_un ?_)
  | (with_reducible refine' ev_bits ?_)
  | (with_reducible refine' und_neg ?_)
  | (with_reducible refine' und_inv ?_)
  | ((with_reducible refine' cd_isiT ["tuple", "list"] (by decide) ?htt (by decide) ?_); (case htt => rfl))
  | (with_reducible refine' ev_cb ?_)
  | (with_reducible refine' ev_call ?_)
  | (with_reducible refine' ev_andV ?_)
  | (with_reducible refine' ev_orV ?_)
  | (with_reducible refine' ev_notV ?_)
  | (with_reducible refine' ev_if ?_)
  | (with_reducible refine' ev_chain ?_)
  | (with_reducible refine' ev_tup ?_)
  | (with_reducible refine' EvL.ev (evl_lst (tt := tCons _ _) ?_))
  | (with_reducible refine' cd_max2 ?_)
  | (refine ⟨(Nat.le_of_ble_eq_true rfl : (_ : Nat) ≤ 100000), ?_⟩)
  | (with_reducible refine' evt_tru ?_)
  | (with_reducible refine' evt_test ?_)
  | (with_reducible refine' evt_B ?_)
  | (with_reducible refine' evt_and ?_)
  | (with_reducible refine' evt_or ?_)
  | (with_reducible refine' evt_not ?_)
  | (with_reducible refine' evt_yes ?_)
  | ((with_reducible refine' eva_cons (eve_raw ?h ?_)); (case h => exact rfl))
  | (with_reducible refine' eva_d (ev_int ?_))
  | (with_reducible refine' eva_d (ev_bl ?_))
  | (with_reducible refine' eva_d (ev_str ?_))
  | (with_reducible refine' eva_d (ev_non ?_))
  | (with_reducible refine' eva_cons (eve_c ?_))
  | (with_reducible refine' eva_d ?_)
  | (with_reducible refine' eva_nil ?_)
  | (with_reducible refine' opd_plusI ?_)
  | (with_reducible refine' opd_sub ?_)
  | (with_reducible refine' opd_lt ?_)
  | (with_reducible refine' opd_le ?_)
  | (with_reducible refine' opd_gt ?_)
  | (with_reducible refine' opd_ge ?_)
  | (with_reducible refine' opd_isN ?_)
  | (with_reducible refine' opd_notN ?_)
  | (with_reducible refine' opd_and ?_)
  | (with_reducible refine' opd_or ?_)
  | (with_reducible refine' opd_xor ?_)
  | (with_reducible refine' cd_range2 ?_)
  | (with_reducible refine' cd_int ?_)
  | ((with_reducible refine' opd_mod ?c ?_); (case c => first | decide | omega))
  | ((with_reducible refine' opd_div ?c ?_); (case c => first | exact ⟨by decide, by decide⟩ | exact ⟨by omega, by omega⟩))
  | ((with_reducible refine' opd_timesI ?c ?_); (case c => first | exact .inr ⟨by decide, by decide⟩ | exact .inl ⟨by omega, by omega⟩ | exact .inr ⟨by omega, by omega⟩))
  | ((with_reducible refine' opd_pow ?c ?_); (case c => exact ⟨by decide, by decide, by decide⟩))
  | ((with_reducible refine' cd_isTo ?h ?u ?_); (case h => first | assumption | exact trivial); (case u => decide))
  | ((with_reducible refine' evb_own ?h ?_); (case h => exact rfl))
  | (with_reducible refine' Ev.b ?_)
  | (refine ⟨_, rfl, ?_⟩)
  | (refine ⟨fun _ => ?_, fun z => Bool.noConfusion z⟩)
  | (refine ⟨fun z => Bool.noConfusion z, fun _ => ?_⟩)
  | (refine ⟨rfl, ?_⟩)
  | (refine ⟨_, _, rfl, ?_⟩)
  | (refine ⟨_, _, _, rfl, ?_⟩)
  | (refine ⟨_, _, _, _, rfl, ?_⟩))
  try dsimp only [truD_bl, Bool.not_true, Bool.not_false]))
theorem ite_split {c : Bool} {A B : Prop} (h1 : c = true → A) (h2 : c = false → B) : (c = true → A) ∧ (c = false → B) := ⟨h1, h2⟩

section
variable {P : Program} {w : World} {K : PySem.W.Frag} {mg : Str → Option Value} {base : Heap}
/-! ### is_integer -/
abbrev s_is_integer : Stmt := topS 1
abbrev N_is_integer : List Str := ["thing"]
theorem sc_is_integer : FnScope N_is_integer ["thing"] (defScope s_is_integer) := ⟨rfl, rfl, rfl, by decide +kernel, rfl, by decide +kernel, by decide +kernel⟩
def isIntD : D → Bool
  | .int _ => true
  | _ => false
def pre_is_integer (K : PySem.W.Frag) : Wd → List Ent → (D → Prop) → Prop := fun _ es KK => ∃ d, es = [.d d] ∧ TyOk K d ∧ KK (.bl (isIntD d))
theorem len_is_integer (K : PySem.W.Frag) : ∀ W es KK, pre_is_integer K W es KK → es.length = 1 := by rintro W es K ⟨d, rfl, _⟩; rfl
abbrev sp_is_integer (K : PySem.W.Frag) : Sp := FSp (pre_is_integer K)
theorem ok_is_integer {f : Addr} {fd : FuncData} (F : Fun K "is_integer" "is_integer" s_is_integer f fd) (T : Txt K mg) : FnOk P w K mg base CX0 1 f fd ["thing"] (sp_is_integer K) := by
  refine F.ok sc_is_integer (fun vs H Q E h => fn_len (n := 1) (len_is_integer K) h) (fun cdv A outer s H vs Q E hr h => ⟨_, (pss_one (ps_ret (pe_and (pe_callB call_isi (by rfl) T.z_isinstance (by decide +kernel) (pa_cons (pv 0) (pa_cons (pe_bltn (v := .ty "int") (by rfl) T.z_int (by decide +kernel) rfl) pa_nil))) (pe_one (pe_not (pe_callB call_isi (by rfl) T.z_isinstance (by decide +kernel) (pa_cons (pv 0) (pa_cons (pe_bltn (v := .ty "bool") (by rfl) T.z_bool (by decide +kernel) rfl) pa_nil)))))))), fn_start (ps := ["thing"]) ?_ h⟩)
  rintro W es KK ⟨d, rfl, hd, k⟩
  refine ⟨rfl, ?_⟩
  show St W [.d d] _ _
  repeat walk_at "pd"
  refine ⟨fun hb => ?_, fun hb => ?_⟩
  · repeat walk_at "pd"
    have e : (!isTy "bool" d) = isIntD d := by cases d <;> first | rfl | cases hb
    rw [e]; exact k
  · have e : isIntD d = false := by cases d <;> first | rfl | cases hb
    rw [e] at k; exact k
/-! ### is_triple -/
abbrev s_is_triple : Stmt := topS 6
abbrev N_is_triple : List Str := ["thing", "slot", "number", "row", "entry"]
theorem sc_is_triple : FnScope N_is_triple ["thing"] (defScope s_is_triple) := ⟨rfl, rfl, rfl, by decide +kernel, rfl, by decide +kernel, by decide +kernel⟩
def pre_is_triple (K : PySem.W.Frag) : Wd → List Ent → (D → Prop) → Prop := fun _ es KK => ∃ t : Tr, es = [.d (trD t)] ∧ t.2.2.length < 50000 ∧ KK (.bl true)
theorem len_is_triple (K : PySem.W.Frag) : ∀ W es KK, pre_is_triple K W es KK → es.length = 1 := by rintro W es K ⟨t, rfl, _⟩; rfl
abbrev sp_is_triple (K : PySem.W.Frag) : Sp := FSp (pre_is_triple K)
theorem ok_is_triple {f : Addr} {fd : FuncData} (F : Fun K "is_triple" "is_triple" s_is_triple f fd) (T : Txt K mg) (h_is_integer : Has P w K mg base 1 "is_integer" ["thing"] (sp_is_integer K)) : FnOk P w K mg base CX0 2 f fd ["thing"] (sp_is_triple K) := by
  refine F.ok sc_is_triple (fun vs H Q E h => fn_len (n := 1) (len_is_triple K) h) (fun cdv A outer s H vs Q E hr h => ⟨_, (pss_cons (ps_if (PW.pt (pw_or (pt_not (pt_truth (pe_callB call_isi (by rfl) T.z_isinstance (by decide +kernel) (pa_cons (pv 0) (pa_cons (pe_bltn (v := .ty "tuple") (by rfl) T.z_tuple (by decide +kernel) rfl) pa_nil))) (by intro _; rfl))) (pw_or1 (pt_cmpR (op_neD (hu65 hr)) (pe_callB call_len1 (by rfl) T.z_len (by decide +kernel) (pa_cons (pv 0) pa_nil)) pe_int (nomark _))))) (pss_one (ps_ret pe_bl)) pss_nil)
 (pss_cons (ps_asg (pv 0) (pg_tup (n := 3) rfl (pgs_cons (pg_name (i := 1) sc_is_triple.nd rfl (by first | exact Or.inl rfl | exact Or.inr rfl)) (pgs_cons (pg_name (i := 2) sc_is_triple.nd rfl (by first | exact Or.inl rfl | exact Or.inr rfl)) (pgs_cons (pg_name (i := 3) sc_is_triple.nd rfl (by first | exact Or.inl rfl | exact Or.inr rfl)) pgs_nil)))))
 (pss_cons (ps_if (PW.pt (pw_or (pt_not (pt_truth (pe_has h_is_integer (hr.mono (by decide)) (pa_cons (pv 1) pa_nil)) (by intro _; rfl))) (pw_or (pt_cmpR op_lt (pv 1) pe_int (nomark _)) (pw_or1 (pt_not (pt_truth (pe_has h_is_integer (hr.mono (by decide)) (pa_cons (pv 2) pa_nil)) (by intro _; rfl))))))) (pss_one (ps_ret pe_bl)) pss_nil)
 (pss_one (ps_ret (pe_and (pe_callB call_isi (by rfl) T.z_isinstance (by decide +kernel) (pa_cons (pv 3) (pa_cons (pe_bltn (v := .ty "tuple") (by rfl) T.z_tuple (by decide +kernel) rfl) pa_nil))) (pe_one (pe_callB (cr_all rfl) (by rfl) T.z_all (by decide +kernel) (pa_cons (pe_lc (own := [("entry", 4)]) rfl sc_is_triple.nd (pi_tup (pv 3)) (blkOk_by (own := [("entry", 4)]) (N := N_is_triple) (sc := defScope s_is_triple) (by decide +kernel)) (fun _ _ _ _ _ => (pg_name (i := 4) sc_is_triple.nd rfl (by first | exact Or.inl rfl | exact Or.inr rfl))) (fun _ _ _ _ _ => pts_nil) (fun _ _ _ _ _ => pe_conv (pe_has h_is_integer (hr.mono (by decide)) (pa_cons (pv 4) pa_nil)) (by first | rfl | (dsimp only [Cx.blk]; first | done | rfl)))) pa_nil))))))))), fn_start (ps := ["thing"]) ?_ h⟩)
  rintro W es KK ⟨t, rfl, hl, k⟩
  refine ⟨rfl, ?_⟩
  show St W [.d (trD t), .no, .no, .no, .no] _ _
  repeat walk_at "pd"
  refine cd_len (.inr (show entD (.d (trD t)) = some (.tup [.int (t.1 : Nat), .int t.2.1, rowI t.2.2]) from rfl)) ?_
  repeat walk_at "pd"
  refine opd_ne rfl rfl ?_
  refine ⟨_, rfl, (fun z => absurd z (by show ¬ (!eqD (.int 3) (.int 3)) = true; decide)), fun _ => ?_⟩
  refine st_next ?_
  refine st_seq (st_asgT (ev_var (i := 0) rfl (tg_tup3 ?_)))
  show St W [.d (trD t), .d (.int (t.1 : Nat)), .d (.int t.2.1), .d (rowI t.2.2), .no] _ _
  repeat walk_at "pd"
  refine ⟨trivial, ?_⟩
  repeat walk_at "pd"
  refine ⟨trivial, ?_⟩
  repeat walk_at "pd"
  refine EvL.ev (evl_lc (evi_tup (ev_var (i := 3) rfl ⟨t.2.2.map D.int, rfl, by rw [List.length_map]; omega, fun i acc => acc = (List.replicate i true).map D.bl, rfl, ?_, ?_⟩)))
  · rintro i d acc hd rfl _
    rw [List.getElem?_map] at hd
    obtain ⟨z, hz, rfl⟩ := Option.map_eq_some_iff.mp hd
    refine tgc_name (by simp) ?_
    show _ = _ ∧ EvT W [.d (trD t), .d (.int (t.1 : Nat)), .d (.int t.2.1), .d (rowI t.2.2), .d (.int z)] _ _
    refine ⟨rfl, ?_⟩
    repeat walk_at "pd"
    refine ⟨trivial, ?_⟩
    rw [List.replicate_succ', List.map_append]; rfl
  · rintro acc rfl
    repeat walk_at "pd"
    refine cd_all (bs := List.replicate _ true) rfl ?_
    rw [show (List.replicate (t.2.2.map D.int).length true).all id = true from by simp]
    exact k
/-! ### is_any_scheme -/
abbrev s_is_any_scheme : Stmt := topS 7
abbrev N_is_any_scheme : List Str := ["thing", "item"]
theorem sc_is_any_scheme : FnScope N_is_any_scheme ["thing"] (defScope s_is_any_scheme) := ⟨rfl, rfl, rfl, by decide +kernel, rfl, by decide +kernel, by decide +kernel⟩
def pre_is_any_scheme (K : PySem.W.Frag) : Wd → List Ent → (D → Prop) → Prop := fun _ es KK => ∃ sc : List Tr, es = [.d (scD sc)] ∧ ScOk sc ∧ KK (.bl true)
theorem len_is_any_scheme (K : PySem.W.Frag) : ∀ W es KK, pre_is_any_scheme K W es KK → es.length = 1 := by rintro W es K ⟨t, rfl, _⟩; rfl
abbrev sp_is_any_scheme (K : PySem.W.Frag) : Sp := FSp (pre_is_any_scheme K)
theorem ok_is_any_scheme {f : Addr} {fd : FuncData} (F : Fun K "is_any_scheme" "is_any_scheme" s_is_any_scheme f fd) (T : Txt K mg) (h_is_triple : Has P w K mg base 2 "is_triple" ["thing"] (sp_is_triple K)) : FnOk P w K mg base CX0 3 f fd ["thing"] (sp_is_any_scheme K) := by
  refine F.ok sc_is_any_scheme (fun vs H Q E h => fn_len (n := 1) (len_is_any_scheme K) h) (fun cdv A outer s H vs Q E hr h => ⟨_, (pss_one (ps_ret (pe_and (pe_callB call_isi (by rfl) T.z_isinstance (by decide +kernel) (pa_cons (pv 0) (pa_cons (pe_bltn (v := .ty "tuple") (by rfl) T.z_tuple (by decide +kernel) rfl) pa_nil))) (pe_one (pe_callB (cr_all rfl) (by rfl) T.z_all (by decide +kernel) (pa_cons (pe_lc (own := [("item", 1)]) rfl sc_is_any_scheme.nd (pi_tup (pv 0)) (blkOk_by (own := [("item", 1)]) (N := N_is_any_scheme) (sc := defScope s_is_any_scheme) (by decide +kernel)) (fun _ _ _ _ _ => (pg_name (i := 1) sc_is_any_scheme.nd rfl (by first | exact Or.inl rfl | exact Or.inr rfl))) (fun _ _ _ _ _ => pts_nil) (fun _ _ _ _ _ => pe_conv (pe_has h_is_triple (hr.mono (by decide)) (pa_cons (pv 1) pa_nil)) (by first | rfl | (dsimp only [Cx.blk]; first | done | rfl)))) pa_nil)))))), fn_start (ps := ["thing"]) ?_ h⟩)
  rintro W es KK ⟨sc, rfl, ok, k⟩
  refine ⟨rfl, ?_⟩
  show St W [.d (scD sc), .no] _ _
  repeat walk_at "pd"
  refine EvL.ev (evl_lc (evi_tup (ev_var (i := 0) rfl ⟨sc.map trD, rfl, by rw [List.length_map]; have := ok.len; omega, fun i acc => acc = (List.replicate i true).map D.bl, rfl, ?_, ?_⟩)))
  · rintro i d acc hd rfl _
    rw [List.getElem?_map] at hd
    obtain ⟨t, ht, rfl⟩ := Option.map_eq_some_iff.mp hd
    refine tgc_name (by simp) ?_
    show _ = _ ∧ EvT W [.d (scD sc), .d (trD t)] _ _
    refine ⟨rfl, ?_⟩
    repeat walk_at "pd"
    refine ⟨ok.row t (List.mem_of_getElem? ht), ?_⟩
    rw [List.replicate_succ', List.map_append]; rfl
  · rintro acc rfl
    repeat walk_at "pd"
    refine cd_all (bs := List.replicate _ true) rfl ?_
    rw [show (List.replicate (sc.map trD).length true).all id = true from by simp]
    exact k
/-! ### check_scheme -/
abbrev s_check_scheme : Stmt := topS 8
abbrev N_check_scheme : List Str := ["thing"]
theorem sc_check_scheme : FnScope N_check_scheme ["thing"] (defScope s_check_scheme) := ⟨rfl, rfl, rfl, by decide +kernel, rfl, by decide +kernel, by decide +kernel⟩
def pre_check_scheme (K : PySem.W.Frag) : Wd → List Ent → (D → Prop) → Prop := fun _ es KK => ∃ sc : List Tr, es = [.d (scD sc)] ∧ ScOk sc ∧ KK .non
theorem len_check_scheme (K : PySem.W.Frag) : ∀ W es KK, pre_check_scheme K W es KK → es.length = 1 := by rintro W es K ⟨t, rfl, _⟩; rfl
abbrev sp_check_scheme (K : PySem.W.Frag) : Sp := FSp (pre_check_scheme K)
theorem ok_check_scheme {f : Addr} {fd : FuncData} (F : Fun K "check_scheme" "check_scheme" s_check_scheme f fd) (T : Txt K mg) (h_is_any_scheme : Has P w K mg base 3 "is_any_scheme" ["thing"] (sp_is_any_scheme K)) : FnOk P w K mg base CX0 4 f fd ["thing"] (sp_check_scheme K) := by
  refine F.ok sc_check_scheme (fun vs H Q E h => fn_len (n := 1) (len_check_scheme K) h) (fun cdv A outer s H vs Q E hr h => ⟨_, (pss_one (ps_if (pt_not (pt_truth (pe_has h_is_any_scheme (hr.mono (by decide)) (pa_cons (pv 0) pa_nil)) (by intro _; rfl))) (pss_one ps_never) pss_nil)), fn_start (ps := ["thing"]) ?_ h⟩)
  rintro W es KK ⟨sc, rfl, ok, k⟩
  refine ⟨rfl, ?_⟩
  show St W [.d (scD sc)] _ _
  repeat walk_at "pd"
  refine ⟨ok, ?_⟩
  repeat walk_at "pd"
  exact k
/-! ### slots_of -/
abbrev s_slots_of : Stmt := topS 9
abbrev N_slots_of : List Str := ["scheme", "triple"]
theorem sc_slots_of : FnScope N_slots_of ["scheme"] (defScope s_slots_of) := ⟨rfl, rfl, rfl, by decide +kernel, rfl, by decide +kernel, by decide +kernel⟩
def pre_slots_of (K : PySem.W.Frag) : Wd → List Ent → (D → Prop) → Prop := fun _ es KK => ∃ sc : List Tr, es = [.d (scD sc)] ∧ ScOk sc ∧ KK (nT (slotsN sc))
theorem len_slots_of (K : PySem.W.Frag) : ∀ W es KK, pre_slots_of K W es KK → es.length = 1 := by rintro W es K ⟨t, rfl, _⟩; rfl
abbrev sp_slots_of (K : PySem.W.Frag) : Sp := FSp (pre_slots_of K)
theorem ok_slots_of {f : Addr} {fd : FuncData} (F : Fun K "slots_of" "slots_of" s_slots_of f fd) (T : Txt K mg) (h_check_scheme : Has P w K mg base 4 "check_scheme" ["thing"] (sp_check_scheme K)) : FnOk P w K mg base CX0 5 f fd ["scheme"] (sp_slots_of K) := by
  refine F.ok sc_slots_of (fun vs H Q E h => fn_len (n := 1) (len_slots_of K) h) (fun cdv A outer s H vs Q E hr h => ⟨_, (pss_cons (ps_expr (pe_has h_check_scheme (hr.mono (by decide)) (pa_cons (pv 0) pa_nil)))
 (pss_one (ps_ret (pe_callTy call_tup1 (by rfl) T.z_tuple (by decide +kernel) (pa_cons (pe_lc (own := [("triple", 1)]) rfl sc_slots_of.nd (pi_tup (pv 0)) (blkOk_by (own := [("triple", 1)]) (N := N_slots_of) (sc := defScope s_slots_of) (by decide +kernel)) (fun _ _ _ _ _ => (pg_name (i := 1) sc_slots_of.nd rfl (by first | exact Or.inl rfl | exact Or.inr rfl))) (fun _ _ _ _ _ => pts_nil) (fun _ _ _ _ _ => pe_conv (pe_ix ix_seq (pv 1) pe_int (fun _ _ => rfl)) (by first | rfl | (dsimp only [Cx.blk]; first | done | rfl)))) pa_nil))))), fn_start (ps := ["scheme"]) ?_ h⟩)
  rintro W es KK ⟨sc, rfl, ok, k⟩
  refine ⟨rfl, ?_⟩
  show St W [.d (scD sc), .no] _ _
  repeat walk_at "pd"
  refine ⟨ok, ?_⟩
  repeat walk_at "pd"
  refine EvL.ev (evl_lc (evi_tup (ev_var (i := 0) rfl ⟨sc.map trD, rfl, by rw [List.length_map]; have := ok.len; omega, fun i acc => acc = natsD (slotsN (sc.take i)), rfl, ?_, ?_⟩)))
  · rintro i d acc hd rfl _
    rw [List.getElem?_map] at hd
    obtain ⟨t, ht, rfl⟩ := Option.map_eq_some_iff.mp hd
    refine tgc_name (by simp) ?_
    show _ = _ ∧ EvT W [.d (scD sc), .d (trD t)] _ _
    refine ⟨rfl, ?_⟩
    repeat walk_at "pd"
    refine opd_ix (tr_0 t) ?_
    rw [snoc_take ht]
    unfold slotsN
    rw [List.map_append, List.map_singleton, ← natsD_snoc]
  · rintro acc rfl
    rw [List.length_map, List.take_length]
    repeat walk_at "pd"
    refine cd_tupL rfl ?_
    exact k
/-! ### many_slots -/
abbrev s_many_slots : Stmt := topS 10
abbrev N_many_slots : List Str := ["scheme"]
theorem sc_many_slots : FnScope N_many_slots ["scheme"] (defScope s_many_slots) := ⟨rfl, rfl, rfl, by decide +kernel, rfl, by decide +kernel, by decide +kernel⟩
def pre_many_slots (K : PySem.W.Frag) : Wd → List Ent → (D → Prop) → Prop := fun _ es KK => ∃ sc : List Tr, es = [.d (scD sc)] ∧ ScOk sc ∧ sc.length < 4000 ∧ ∀ ks : List Int, ks.Nodup → (∀ k, k ∈ ks ↔ ∃ j ∈ slotsN sc, k = (j : Nat)) → KK (.int ks.length)
theorem len_many_slots (K : PySem.W.Frag) : ∀ W es KK, pre_many_slots K W es KK → es.length = 1 := by rintro W es K ⟨t, rfl, _⟩; rfl
abbrev sp_many_slots (K : PySem.W.Frag) : Sp := FSp (pre_many_slots K)
theorem ok_many_slots {f : Addr} {fd : FuncData} (F : Fun K "many_slots" "many_slots" s_many_slots f fd) (T : Txt K mg) (h_slots_of : Has P w K mg base 5 "slots_of" ["scheme"] (sp_slots_of K)) : FnOk P w K mg base CX0 6 f fd ["scheme"] (sp_many_slots K) := by
  refine F.ok sc_many_slots (fun vs H Q E h => fn_len (n := 1) (len_many_slots K) h) (fun cdv A outer s H vs Q E hr h => ⟨_, (pss_one (ps_ret (pe_lenSetT rfl (by rfl) T.z_len (by rfl) T.z_set (pe_has h_slots_of (hr.mono (by decide)) (pa_cons (pv 0) pa_nil))))), fn_start (ps := ["scheme"]) ?_ h⟩)
  rintro W es KK ⟨sc, rfl, ok, hl, k⟩
  refine ⟨rfl, ?_⟩
  show St W [.d (scD sc)] _ _
  refine st_ret (ev_lenSetT ?_)
  repeat walk_at "pd"
  refine ⟨ok, (slotsN sc).map fun (k : Nat) => (k : Int), nT_ints _, by rw [List.length_map, slotsN_len]; exact hl, fun ks nd hm => k ks nd fun j => ?_⟩
  rw [hm j, List.mem_map]
  exact ⟨fun ⟨a, ha, e⟩ => ⟨a, ha, e.symm⟩, fun ⟨a, ha, e⟩ => ⟨a, ha, e.symm⟩⟩
/-! ### _law_tape -/
abbrev s_law_tape : Stmt := topS 12
abbrev N_law_tape : List Str := ["_law_script"]
theorem sc_law_tape : FnScope N_law_tape ["_law_script"] (defScope s_law_tape) := ⟨rfl, rfl, rfl, by decide +kernel, rfl, by decide +kernel, by decide +kernel⟩

abbrev sp_law_tape (K : PySem.W.Frag) : Sp := fun vs H Q _ => ∃ (a : Addr) (ns : List Int), vs = [.ref a] ∧ SqL K H a (ns.map V.int) ∧ ∀ (H' : Hp) (t c : Addr), TapeIn t c H' → Q (.ref t) H'
theorem ok_law_tape {f : Addr} {fd : FuncData} (F : Fun K "_law_tape" "_law_tape" s_law_tape f fd) (T : Txt K mg) : FnOk P w K mg base CX0 1 f fd ["_law_script"] (sp_law_tape K) := by
  refine F.ok sc_law_tape (fun vs H Q E h => ?_) (fun cdv A outer s H vs Q E hr h => ⟨_, (pss_one (ps_ret (pe_lst (pa_cons (pe_callTy call_lst1 (by rfl) T.z_list (by decide +kernel) (pa_cons (pv 0) pa_nil)) (pa_cons pe_int (pa_cons pe_int (pa_cons pe_int (pa_cons pe_int pa_nil)))))))), ?_⟩)
  · obtain ⟨a, ns, rfl, _⟩ := h; rfl
  obtain ⟨a, ns, rfl, hS, k⟩ := h
  refine ⟨.ref a, rfl, ?_⟩
  refine ⟨a, ns.map V.int, rfl, .inl hS, fun l hl => ?_⟩
  refine ⟨small_le (by show 5 ≤ 100000; decide), fun p hp => ?_⟩
  refine k _ p l ⟨ns, 0, 0, 1, 0, upd_same, ?_⟩
  have : l ≠ p := fun z => by subst z; rw [upd_same] at hp; cases hp
  rw [upd_ne this, upd_same]

/-! ### _law_pick -/
abbrev s_law_pick : Stmt := topS 13
abbrev N_law_pick : List Str := ["_law_tape_here", "_law_many", "_law_digit", "_law_cell", "_law_mixed"]
theorem sc_law_pick : FnScope N_law_pick ["_law_tape_here", "_law_many"] (defScope s_law_pick) := ⟨rfl, rfl, rfl, by decide +kernel, rfl, by decide +kernel, by decide +kernel⟩
def pre_law_pick (K : PySem.W.Frag) : Wd → List Ent → (D → Prop) → Prop := fun W es KK => ∃ (t c : Addr) (n : Nat), W = tapeW t c ∧ es = [.raw (.ref t), .d (.int (n : Nat))] ∧ 0 < n ∧ n < 1073741824 ∧ ∀ r : Nat, r < n → KK (.int (r : Nat))
theorem len_law_pick (K : PySem.W.Frag) : ∀ W es KK, pre_law_pick K W es KK → es.length = 2 := by rintro W es K ⟨t, c, n, _, rfl, _⟩; rfl
theorem pick_mod {KK : D → Prop} {n : Nat} (h : 0 < n) (k : ∀ r : Nat, r < n → KK (.int (r : Nat))) (z : Int) : KK (.int (z % (n : Nat))) := by
  have h1 : 0 ≤ z % (n : Int) := Int.emod_nonneg z (by omega)
  have h2 : z % (n : Int) < n := Int.emod_lt_of_pos z (by omega)
  obtain ⟨r, hr⟩ := Int.eq_ofNat_of_zero_le h1
  rw [hr]
  exact k r (by omega)
theorem pick_ok {K : PySem.W.Frag} {t c : Addr} {i : Int} {KK : D → Prop} (n : Nat) (e : i = (n : Nat)) (h0 : 0 < n) (h1 : n < 1073741824) (k : ∀ r : Nat, r < n → KK (.int (r : Nat))) : pre_law_pick K (tapeW t c) [.raw (.ref t), .d (.int i)] KK := by
  subst e; exact ⟨t, c, n, rfl, rfl, h0, h1, k⟩
abbrev sp_law_pick (K : PySem.W.Frag) : Sp := FSp (pre_law_pick K)
theorem ok_law_pick {f : Addr} {fd : FuncData} (F : Fun K "_law_pick" "_law_pick" s_law_pick f fd) (T : Txt K mg) : FnOk P w K mg base CX0 1 f fd ["_law_tape_here", "_law_many"] (sp_law_pick K) := by
  refine F.ok sc_law_pick (fun vs H Q E h => fn_len (n := 2) (len_law_pick K) h) (fun cdv A outer s H vs Q E hr h => ⟨_, (pss_cons (ps_if (pt_cmpR op_gt (pe_ix ix_seq (pv 0) pe_int (fun _ _ => rfl)) pe_int (nomark _)) (pss_cons (ps_set (i := 2) sc_law_pick.nd rfl (by first | exact Or.inl rfl | exact Or.inr rfl) (pe_op op_mod (pe_callTy call_int1' (by rfl) T.z_int (by decide +kernel) (pa_cons (pe_ix ix_seq (pv 0) pe_int (fun _ _ => rfl)) pa_nil)) (pv 1)))
 (pss_cons (ps_asg (pe_op op_fdiv (pe_ix ix_seq (pv 0) pe_int (fun _ _ => rfl)) (pv 1)) (pg_sub (pv 0) pe_int set_list))
 (pss_one (ps_ret (pv 2))))) pss_nil)
 (pss_cons (ps_asg (pe_op op_plus (pe_ix ix_seq (pv 0) pe_int (fun _ _ => rfl)) pe_int) (pg_sub (pv 0) pe_int set_list))
 (pss_cons (ps_set (i := 3) sc_law_pick.nd rfl (by first | exact Or.inl rfl | exact Or.inr rfl) pe_int)
 (pss_cons (ps_if (pt_cmpR op_lt (pe_ix ix_seq (pv 0) pe_int (fun _ _ => rfl)) (pe_callB call_len1 (by rfl) T.z_len (by decide +kernel) (pa_cons (pe_ix ix_seq (pv 0) pe_int (fun _ _ => rfl)) pa_nil)) (nomark _)) (pss_cons (ps_set (i := 3) sc_law_pick.nd rfl (by first | exact Or.inl rfl | exact Or.inr rfl) (pe_ix ix_seq (pe_ix ix_seq (pv 0) pe_int (fun _ _ => rfl)) (pe_ix ix_seq (pv 0) pe_int (fun _ _ => rfl)) (fun _ _ => rfl)))
 (pss_one (ps_asg (pe_op op_plus (pe_ix ix_seq (pv 0) pe_int (fun _ _ => rfl)) pe_int) (pg_sub (pv 0) pe_int set_list)))) pss_nil)
 (pss_cons (ps_if (pt_cmpR op_ge (pv 3) (pe_op op_pow pe_int pe_int) (nomark _)) (pss_cons (ps_asg (pe_op op_fdiv (pv 3) (pv 1)) (pg_sub (pv 0) pe_int set_list))
 (pss_one (ps_ret (pe_op op_mod (pe_callTy call_int1' (by rfl) T.z_int (by decide +kernel) (pa_cons (pv 3) pa_nil)) (pv 1))))) pss_nil)
 (pss_cons (ps_set (i := 4) sc_law_pick.nd rfl (by first | exact Or.inl rfl | exact Or.inr rfl) (pe_op op_mod (pe_callTy call_int1' (by rfl) T.z_int (by decide +kernel) (pa_cons (pe_op op_plus (pe_op op_plus (pe_op op_times (pe_ix ix_seq (pv 0) pe_int (fun _ _ => rfl)) pe_int) (pe_op op_mod (pe_callTy call_int1' (by rfl) T.z_int (by decide +kernel) (pa_cons (pv 3) pa_nil)) pe_int)) (pe_op op_times (pe_ix ix_seq (pv 0) pe_int (fun _ _ => rfl)) pe_int)) pa_nil)) pe_int))
 (pss_cons (ps_set (i := 4) sc_law_pick.nd rfl (by first | exact Or.inl rfl | exact Or.inr rfl) (pe_op op_mod (pe_callTy call_int1' (by rfl) T.z_int (by decide +kernel) (pa_cons (pe_op op_times (pv 4) (pe_op op_plus (pe_op op_fdiv (pv 4) pe_int) pe_int)) pa_nil)) pe_int))
 (pss_cons (ps_asg (pv 4) (pg_sub (pv 0) pe_int set_list))
 (pss_one (ps_ret (pe_op op_mod (pe_callTy call_int1' (by rfl) T.z_int (by decide +kernel) (pa_cons (pe_op op_fdiv (pv 4) pe_int) pa_nil)) (pv 1)))))))))))), fn_start (ps := ["_law_tape_here", "_law_many"]) ?_ h⟩)
  rintro W es KK ⟨t, c, n, rfl, rfl, h0, h1, k⟩
  refine ⟨rfl, ?_⟩
  show St (tapeW t c) [.raw (.ref t), .d (.int (n : Nat)), .no, .no, .no] _ _
  repeat walk_at "pd"
  refine ⟨fun _ => ?_, fun _ => ?_⟩
  · repeat walk_at "pd"
    exact pick_mod h0 k _
  · repeat walk_at "pd"
    refine ⟨fun _ => ?_, fun _ => ?_⟩
    · repeat walk_at "pd"
      exact pick_mod h0 k _
    · repeat walk_at "pd"
      exact pick_mod h0 k _
/-! ### _law_great -/
abbrev s_law_great : Stmt := topS 14
abbrev N_law_great : List Str := ["_law_tape_here", "_law_found", "_law_again"]
theorem sc_law_great : FnScope N_law_great ["_law_tape_here"] (defScope s_law_great) := ⟨rfl, rfl, rfl, by decide +kernel, rfl, by decide +kernel, by decide +kernel⟩
def pre_law_great (K : PySem.W.Frag) : Wd → List Ent → (D → Prop) → Prop := fun W es KK => ∃ (t c : Addr), W = tapeW t c ∧ es = [.raw (.ref t)] ∧ ∀ z : Int, KK (.int z)
theorem len_law_great (K : PySem.W.Frag) : ∀ W es KK, pre_law_great K W es KK → es.length = 1 := by rintro W es K ⟨t, c, _, rfl, _⟩; rfl
theorem great_ok {K : PySem.W.Frag} {t c : Addr} {KK : D → Prop} (h : ∀ z : Int, KK (.int z)) : pre_law_great K (tapeW t c) [.raw (.ref t)] KK := ⟨t, c, rfl, rfl, h⟩
abbrev sp_law_great (K : PySem.W.Frag) : Sp := FSp (pre_law_great K)
theorem ok_law_great {f : Addr} {fd : FuncData} (F : Fun K "_law_great" "_law_great" s_law_great f fd) (T : Txt K mg) (h_law_pick : Has P w K mg base 1 "_law_pick" ["_law_tape_here", "_law_many"] (sp_law_pick K)) : FnOk P w K mg base CX0 2 f fd ["_law_tape_here"] (sp_law_great K) := by
  refine F.ok sc_law_great (fun vs H Q E h => fn_len (n := 1) (len_law_great K) h) (fun cdv A outer s H vs Q E hr h => ⟨_, (pss_cons (ps_if (pt_cmpR op_gt (pe_has h_law_pick (hr.mono (by decide)) (pa_cons (pv 0) (pa_cons pe_int pa_nil))) pe_int (nomark _)) (pss_one (ps_ret (pe_op op_sub (pe_has h_law_pick (hr.mono (by decide)) (pa_cons (pv 0) (pa_cons pe_int pa_nil))) pe_int))) pss_nil)
 (pss_cons (ps_set (i := 1) sc_law_great.nd rfl (by first | exact Or.inl rfl | exact Or.inr rfl) pe_int)
 (pss_cons (ps_for PassesOwn.never rfl (pi_range1 (by rfl) T.z_range (pa_cons (pe_op op_plus pe_int (pe_has h_law_pick (hr.mono (by decide)) (pa_cons (pv 0) (pa_cons pe_int pa_nil)))) pa_nil)) (pg_name (i := 2) sc_law_great.nd rfl (by first | exact Or.inl rfl | exact Or.inr rfl)) (pss_one (ps_set (i := 1) sc_law_great.nd rfl (by first | exact Or.inl rfl | exact Or.inr rfl) (pe_op op_plus (pe_op op_times (pv 1) (pe_op op_pow pe_int pe_int)) (pe_has h_law_pick (hr.mono (by decide)) (pa_cons (pv 0) (pa_cons (pe_op op_pow pe_int pe_int) pa_nil)))))))
 (pss_one (ps_ret (pe_op op_times (pv 1) (pe_op op_sub pe_int (pe_op op_times pe_int (pe_has h_law_pick (hr.mono (by decide)) (pa_cons (pv 0) (pa_cons pe_int pa_nil))))))))))), fn_start (ps := ["_law_tape_here"]) ?_ h⟩)
  rintro W es KK ⟨t, c, rfl, rfl, k⟩
  refine ⟨rfl, ?_⟩
  show St (tapeW t c) [.raw (.ref t), .no, .no] _ _
  repeat walk_at "pd"
  refine pick_ok 3 rfl (by decide) (by decide) fun r hr => ?_
  repeat walk_at "pd"
  refine ⟨fun _ => ?_, fun _ => ?_⟩
  · repeat walk_at "pd"
    refine pick_ok 9 rfl (by decide) (by decide) fun r hr => ?_
    repeat walk_at "pd"
    exact k _
  repeat walk_at "pd"
  refine st_for (evi_rng1 (ev_op (ev_int (ev_call (eva_cons (eve_raw (i := 0) rfl (eva_d (ev_int (eva_nil ⟨rfl, pick_ok 9 rfl (by decide) (by decide) fun r hr => opd_plusI ⟨_, rfl, by omega, by omega, fun i G => ∃ (z : Int) (e : Ent), ownOf e = none ∧ G = [.raw (.ref t), .d (.int z), e], ⟨0, .no, rfl, rfl⟩, ?_, ?_⟩⟩)))))))))
  · rintro i d G' hd ⟨z, e, he, rfl⟩
    obtain ⟨hi, rfl⟩ := intsUp_of hd
    refine tg_name ?_
    show St (tapeW t c) [.raw (.ref t), .d (.int z), .d (.int (0 + (i : Nat)))] _ _
    repeat walk_at "pd"
    refine pick_ok 100000000 rfl (by decide) (by decide) fun r hr => ?_
    repeat walk_at "pd"
    exact ⟨_, _, rfl, rfl⟩
  · rintro G' ⟨z, e, he, rfl⟩
    repeat walk_at "pd"
    refine pick_ok 2 rfl (by decide) (by decide) fun r hr => ?_
    repeat walk_at "pd"
    exact k _
/-! ### _law_menu -/
abbrev s_law_menu : Stmt := topS 15
abbrev N_law_menu : List Str := ["_law_tape_here", "_law_found", "_law_again", "_law_slot"]
theorem sc_law_menu : FnScope N_law_menu ["_law_tape_here"] (defScope s_law_menu) := ⟨rfl, rfl, rfl, by decide +kernel, rfl, by decide +kernel, by decide +kernel⟩
def pre_law_menu (K : PySem.W.Frag) : Wd → List Ent → (D → Prop) → Prop := fun W es KK => ∃ (t c : Addr), W = tapeW t c ∧ es = [.raw (.ref t)] ∧ ∀ ns : List Nat, 0 < ns.length → ns.length ≤ 16 → KK (.lst (natsD ns))
theorem len_law_menu (K : PySem.W.Frag) : ∀ W es KK, pre_law_menu K W es KK → es.length = 1 := by rintro W es K ⟨t, c, _, rfl, _⟩; rfl
theorem abs_nat (z : Int) : (if z < 0 then -z else z) = ((z.natAbs : Nat) : Int) := by split <;> omega
abbrev sp_law_menu (K : PySem.W.Frag) : Sp := FSp (pre_law_menu K)
theorem ok_law_menu {f : Addr} {fd : FuncData} (F : Fun K "_law_menu" "_law_menu" s_law_menu f fd) (T : Txt K mg) (h_law_pick : Has P w K mg base 1 "_law_pick" ["_law_tape_here", "_law_many"] (sp_law_pick K)) (h_law_great : Has P w K mg base 2 "_law_great" ["_law_tape_here"] (sp_law_great K)) : FnOk P w K mg base CX0 3 f fd ["_law_tape_here"] (sp_law_menu K) := by
  refine F.ok sc_law_menu (fun vs H Q E h => fn_len (n := 1) (len_law_menu K) h) (fun cdv A outer s H vs Q E hr h => ⟨_, (pss_cons (ps_set (i := 1) sc_law_menu.nd rfl (by first | exact Or.inl rfl | exact Or.inr rfl) (pe_lst pa_nil))
 (pss_cons (ps_for PassesOwn.never rfl (pi_range1 (by rfl) T.z_range (pa_cons (pe_op op_plus pe_int (pe_has h_law_pick (hr.mono (by decide)) (pa_cons (pv 0) (pa_cons pe_int pa_nil)))) pa_nil)) (pg_name (i := 2) sc_law_menu.nd rfl (by first | exact Or.inl rfl | exact Or.inr rfl)) (pss_cons (ps_set (i := 3) sc_law_menu.nd rfl (by first | exact Or.inl rfl | exact Or.inr rfl) (pe_callB call_abs' (by rfl) T.z_abs (by decide +kernel) (pa_cons (pe_has h_law_great (hr.mono (by decide)) (pa_cons (pv 0) pa_nil)) pa_nil)))
 (pss_cons (ps_expr (pe_bm PySem.F.plainAttrs_list PySem.F.slot_list_append PySem.F.type_list_append mt_append (pv 1) (pa_cons (pv 3) pa_nil)))
 (pss_one (ps_if (pt_cmpR (op_eqD (hu65 hr)) (pe_has h_law_pick (hr.mono (by decide)) (pa_cons (pv 0) (pa_cons pe_int pa_nil))) pe_int (nomark _)) (pss_one (ps_expr (pe_bm PySem.F.plainAttrs_list PySem.F.slot_list_append PySem.F.type_list_append mt_append (pv 1) (pa_cons (pe_op op_plus (pv 3) pe_int) pa_nil)))) pss_nil)))))
 (pss_one (ps_ret (pv 1))))), fn_start (ps := ["_law_tape_here"]) ?_ h⟩)
  rintro W es KK ⟨t, c, rfl, rfl, k⟩
  refine ⟨rfl, ?_⟩
  show St (tapeW t c) [.raw (.ref t), .no, .no, .no] _ _
  repeat walk_at "pd"
  rename_i l
  refine st_for (evi_rng1 (ev_op (ev_int (ev_call (eva_cons (eve_raw (i := 0) rfl (eva_d (ev_int (eva_nil ⟨rfl, pick_ok 8 rfl (by decide) (by decide) fun r hr => opd_plusI ⟨_, rfl, by omega, by omega, fun i G => ∃ (ns : List Nat) (e2 e3 : Ent), ownOf e2 = none ∧ ownOf e3 = none ∧ G = [.raw (.ref t), .own l (natsD ns), e2, e3] ∧ i ≤ ns.length ∧ ns.length ≤ 2 * i, ⟨[], .no, .no, rfl, rfl, rfl, Nat.le_refl _, Nat.le_refl _⟩, ?_, ?_⟩⟩)))))))))
  · rintro i d G' hd ⟨ns, e2, e3, h2, h3, rfl, hl1, hl2⟩
    obtain ⟨hi, rfl⟩ := intsUp_of hd
    refine tg_name ?_
    show St (tapeW t c) [.raw (.ref t), .own l (natsD ns), .d (.int (0 + (i : Nat))), e3] _ _
    repeat walk_at "pd"
    intro z
    repeat walk_at "pd"
    refine cd_abs ?_
    rw [abs_nat]
    show St (tapeW t c) [.raw (.ref t), .own l (natsD ns), .d (.int (0 + (i : Nat))), .d (.int (z.natAbs : Nat))] _ _
    refine st_seq (st_app (l := l) (ds := natsD ns) rfl (by rw [natsD_len]; omega) (ev_var (i := 3) rfl ?_))
    rw [natsD_snoc]
    show St (tapeW t c) [.raw (.ref t), .own l (natsD (ns ++ [z.natAbs])), .d (.int (0 + (i : Nat))), .d (.int (z.natAbs : Nat))] _ _
    repeat walk_at "pd"
    refine pick_ok 2 rfl (by decide) (by decide) fun r2 hr2 => ?_
    repeat walk_at "pd"
    refine opd_eq rfl rfl ⟨_, rfl, fun _ => ?_, fun _ => ?_⟩
    · refine st_app (l := l) (ds := natsD (ns ++ [z.natAbs])) rfl (by rw [natsD_len, List.length_append]; show ns.length + 1 < _; omega) ?_
      repeat walk_at "pd"
      refine ⟨ns ++ [z.natAbs] ++ [z.natAbs + 1], .d (.int (0 + (i : Nat))), .d (.int (z.natAbs : Nat)), rfl, rfl, congrArg (fun x => [Ent.raw (V.ref t), Ent.own l x, .d (.int (0 + (i : Nat))), .d (.int (z.natAbs : Nat))]) (natsD_snoc (ns ++ [z.natAbs]) (z.natAbs + 1)), by simp only [List.length_append, List.length_singleton]; omega, by simp only [List.length_append, List.length_singleton]; omega⟩
    · repeat walk_at "pd"
      exact ⟨ns ++ [z.natAbs], _, _, rfl, rfl, rfl, by simp only [List.length_append, List.length_singleton]; omega, by simp only [List.length_append, List.length_singleton]; omega⟩
  · rintro G' ⟨ns, e2, e3, h2, h3, rfl, hl1, hl2⟩
    rw [intsUp_len] at hl1 hl2
    exact st_retOwn (i := 1) rfl (k ns (by omega) (by omega))
/-! ### _law_unlike -/
abbrev s_law_unlike : Stmt := topS 16
abbrev N_law_unlike : List Str := ["_law_slots", "_law_seen", "_law_slot"]
theorem sc_law_unlike : FnScope N_law_unlike ["_law_slots"] (defScope s_law_unlike) := ⟨rfl, rfl, rfl, by decide +kernel, rfl, by decide +kernel, by decide +kernel⟩
def pre_law_unlike (K : PySem.W.Frag) : Wd → List Ent → (D → Prop) → Prop := fun _ es KK => ∃ ns : List Nat, es = [.d (.lst (natsD ns))] ∧ ns.length < 50000 ∧ ∀ ks : List Nat, ks.Nodup → (∀ k, k ∈ ks ↔ k ∈ ns) → KK (.int (ks.length : Nat))
theorem len_law_unlike (K : PySem.W.Frag) : ∀ W es KK, pre_law_unlike K W es KK → es.length = 1 := by rintro W es K ⟨t, rfl, _⟩; rfl
abbrev sp_law_unlike (K : PySem.W.Frag) : Sp := FSp (pre_law_unlike K)
theorem ok_law_unlike {f : Addr} {fd : FuncData} (F : Fun K "_law_unlike" "_law_unlike" s_law_unlike f fd) (T : Txt K mg) : FnOk P w K mg base CX0 1 f fd ["_law_slots"] (sp_law_unlike K) := by
  refine F.ok sc_law_unlike (fun vs H Q E h => fn_len (n := 1) (len_law_unlike K) h) (fun cdv A outer s H vs Q E hr h => ⟨_, (pss_cons (ps_set (i := 1) sc_law_unlike.nd rfl (by first | exact Or.inl rfl | exact Or.inr rfl) (pe_lst pa_nil))
 (pss_cons (ps_for PassesOwn.never rfl (pi_list (pv 0)) (pg_name (i := 2) sc_law_unlike.nd rfl (by first | exact Or.inl rfl | exact Or.inr rfl)) (pss_one (ps_if (pt_cmpR op_notIn_seq (pv 2) (pv 1) (by rfl)) (pss_one (ps_expr (pe_bm PySem.F.plainAttrs_list PySem.F.slot_list_append PySem.F.type_list_append mt_append (pv 1) (pa_cons (pv 2) pa_nil)))) pss_nil)))
 (pss_one (ps_ret (pe_callB call_len1 (by rfl) T.z_len (by decide +kernel) (pa_cons (pv 1) pa_nil)))))), fn_start (ps := ["_law_slots"]) ?_ h⟩)
  rintro W es KK ⟨ns, rfl, hl, k⟩
  refine ⟨rfl, ?_⟩
  show St W [.d (.lst (natsD ns)), .no, .no] _ _
  repeat walk_at "pd"
  rename_i l
  refine st_for (evi_lst (ev_var (i := 0) rfl ⟨natsD ns, rfl, fun i G => ∃ (ks : List Nat) (e2 : Ent), ownOf e2 = none ∧ G = [.d (.lst (natsD ns)), .own l (natsD ks), e2] ∧ ks.Nodup ∧ (∀ k, k ∈ ks ↔ k ∈ ns.take i) ∧ ks.length ≤ i, ⟨[], .no, rfl, rfl, List.nodup_nil, by simp, Nat.le_refl _⟩, ?_, ?_⟩))
  · rintro i d G' hd ⟨ks, e2, h2, rfl, nd, hm, hkl⟩
    obtain ⟨x, hx, rfl⟩ := natsD_of hd
    have hi := (List.getElem?_eq_some_iff.mp hx).1
    refine tg_name ?_
    show St W [.d (.lst (natsD ns)), .own l (natsD ks), .d (.int (x : Nat))] _ _
    refine st_if (evt_test (ev_opB (Ev.b (ev_var (i := 2) rfl (evb_own (i := 1) rfl (opd_in (ds := natsD ks) rfl rfl (natsD_flat ks) ?_))))))
    rw [inD_nats]
    refine ⟨_, rfl, fun hb => ?_, fun hb => ?_⟩
    · have hb : x ∉ ks := by simpa using hb
      refine st_app (l := l) (ds := natsD ks) rfl (by rw [natsD_len]; omega) (ev_var (i := 2) rfl ?_)
      rw [natsD_snoc]
      refine ⟨ks ++ [x], _, rfl, rfl, ?_, fun k => ?_, by rw [List.length_append]; show ks.length + 1 ≤ _; omega⟩
      · refine List.nodup_append.mpr ⟨nd, by simp, fun a ha b hb2 z => ?_⟩
        rw [List.mem_singleton.mp hb2] at z
        subst z; exact hb ha
      · rw [snoc_take hx, List.mem_append, List.mem_append, hm k]
    · have hb : x ∈ ks := by simpa using hb
      refine st_next ⟨ks, _, rfl, rfl, nd, fun k => ?_, by omega⟩
      rw [snoc_take hx, List.mem_append, hm k]
      refine ⟨.inl, fun z => z.elim id fun z => ?_⟩
      rw [List.mem_singleton.mp z]
      exact (hm x).mp hb
  · rintro G' ⟨ks, e2, h2, rfl, nd, hm, hkl⟩
    refine st_ret (ev_cb (eva_cons (eve_own (l := l) (ds := natsD ks) rfl (eva_nil (cd_len (.inl rfl) ?_)))))
    rw [natsD_len]
    refine k ks nd fun j => ?_
    rw [hm j, natsD_len, List.take_length]
/-! ### _law_is_right -/
abbrev s_law_is_right : Stmt := topS 17
abbrev N_law_is_right : List Str := ["_law_scheme", "_law_slots", "_law_told", "_law_many", "_law_one"]
theorem sc_law_is_right : FnScope N_law_is_right ["_law_scheme", "_law_slots"] (defScope s_law_is_right) := ⟨rfl, rfl, rfl, by decide +kernel, rfl, by decide +kernel, by decide +kernel⟩
def pre_law_is_right (K : PySem.W.Frag) : Wd → List Ent → (D → Prop) → Prop := fun _ es KK => ∃ sc : List Tr, es = [.d (scD sc), .d (.lst (natsD (slotsN sc)))] ∧ ScOk sc ∧ sc.length < 4000 ∧ KK (.bl true)
theorem len_law_is_right (K : PySem.W.Frag) : ∀ W es KK, pre_law_is_right K W es KK → es.length = 2 := by rintro W es K ⟨t, rfl, _⟩; rfl
theorem right_ok {K : PySem.W.Frag} {W : Wd} {KK : D → Prop} {x y : D} (sc : List Tr) (ex : x = scD sc) (ey : y = .lst (natsD (slotsN sc))) (ok : ScOk sc) (hl : sc.length < 4000) (h : KK (.bl true)) : pre_law_is_right K W [.d x, .d y] KK := by subst ex; subst ey; exact ⟨sc, rfl, ok, hl, h⟩
abbrev sp_law_is_right (K : PySem.W.Frag) : Sp := FSp (pre_law_is_right K)
theorem ok_law_is_right {f : Addr} {fd : FuncData} (F : Fun K "_law_is_right" "_law_is_right" s_law_is_right f fd) (T : Txt K mg) (h_slots_of : Has P w K mg base 5 "slots_of" ["scheme"] (sp_slots_of K)) (h_many_slots : Has P w K mg base 6 "many_slots" ["scheme"] (sp_many_slots K)) (h_law_unlike : Has P w K mg base 1 "_law_unlike" ["_law_slots"] (sp_law_unlike K)) : FnOk P w K mg base CX0 7 f fd ["_law_scheme", "_law_slots"] (sp_law_is_right K) := by
  refine F.ok sc_law_is_right (fun vs H Q E h => fn_len (n := 2) (len_law_is_right K) h) (fun cdv A outer s H vs Q E hr h => ⟨_, (pss_cons (ps_set (i := 2) sc_law_is_right.nd rfl (by first | exact Or.inl rfl | exact Or.inr rfl) (pe_has h_slots_of (hr.mono (by decide)) (pa_cons (pv 0) pa_nil)))
 (pss_cons (ps_if (PW.pt (pw_or (pt_not (pt_truth (pe_callB call_isi (by rfl) T.z_isinstance (by decide +kernel) (pa_cons (pv 2) (pa_cons (pe_bltn (v := .ty "tuple") (by rfl) T.z_tuple (by decide +kernel) rfl) pa_nil))) (by intro _; rfl))) (pw_or1 (pt_not (pt_truth (pe_callB (cr_all rfl) (by rfl) T.z_all (by decide +kernel) (pa_cons (pe_lc (own := [("_law_one", 4)]) rfl sc_law_is_right.nd (pi_tup (pv 2)) (blkOk_by (own := [("_law_one", 4)]) (N := N_law_is_right) (sc := defScope s_law_is_right) (by decide +kernel)) (fun _ _ _ _ _ => (pg_name (i := 4) sc_law_is_right.nd rfl (by first | exact Or.inl rfl | exact Or.inr rfl))) (fun _ _ _ _ _ => pts_nil) (fun _ _ _ _ _ => pe_conv (pe_and (pe_callB call_isi (by rfl) T.z_isinstance (by decide +kernel) (pa_cons (pv 4) (pa_cons (pe_bltn (v := .ty "int") (by rfl) T.z_int (by decide +kernel) rfl) pa_nil))) (pe_one (pe_not (pe_callB call_isi (by rfl) T.z_isinstance (by decide +kernel) (pa_cons (pv 4) (pa_cons (pe_bltn (v := .ty "bool") (by rfl) T.z_bool (by decide +kernel) rfl) pa_nil)))))) (by first | rfl | (dsimp only [Cx.blk]; first | done | rfl)))) pa_nil)) (by intro _; rfl)))))) (pss_one (ps_ret pe_bl)) pss_nil)
 (pss_cons (ps_set (i := 3) sc_law_is_right.nd rfl (by first | exact Or.inl rfl | exact Or.inr rfl) (pe_has h_many_slots (hr.mono (by decide)) (pa_cons (pv 0) pa_nil)))
 (pss_cons (ps_if (PW.pt (pw_or (pt_not (pt_truth (pe_callB call_isi (by rfl) T.z_isinstance (by decide +kernel) (pa_cons (pv 3) (pa_cons (pe_bltn (v := .ty "int") (by rfl) T.z_int (by decide +kernel) rfl) pa_nil))) (by intro _; rfl))) (pw_or1 (pt_truth (pe_callB call_isi (by rfl) T.z_isinstance (by decide +kernel) (pa_cons (pv 3) (pa_cons (pe_bltn (v := .ty "bool") (by rfl) T.z_bool (by decide +kernel) rfl) pa_nil))) (by intro _; rfl))))) (pss_one (ps_ret pe_bl)) pss_nil)
 (pss_one (ps_ret (pe_and (pe_cmpR (op_eqD (hu65 hr)) (pv 2) (pe_callTy call_tup1 (by rfl) T.z_tuple (by decide +kernel) (pa_cons (pv 1) pa_nil)) (nomark _)) (pe_one (pe_cmpR (op_eqD (hu65 hr)) (pv 3) (pe_has h_law_unlike (hr.mono (by decide)) (pa_cons (pv 1) pa_nil)) (nomark _)))))))))), fn_start (ps := ["_law_scheme", "_law_slots"]) ?_ h⟩)
  rintro W es KK ⟨sc, rfl, ok, hl, k⟩
  refine ⟨rfl, ?_⟩
  show St W [.d (scD sc), .d (.lst (natsD (slotsN sc))), .no, .no, .no] _ _
  repeat walk_at "pd"
  refine ⟨ok, ?_⟩
  show St W [.d (scD sc), .d (.lst (natsD (slotsN sc))), .d (nT (slotsN sc)), .no, .no] _ _
  refine st_seq (st_if (evt_or (evt_not ?_)))
  repeat walk_at "pd"
  refine EvL.ev (evl_lc (evi_tup (ev_var (i := 2) rfl ⟨natsD (slotsN sc), rfl, by rw [natsD_len, slotsN_len]; omega, fun i acc => acc = (List.replicate i true).map D.bl, rfl, ?_, ?_⟩)))
  · rintro i d acc hd rfl _
    obtain ⟨x, hx, rfl⟩ := natsD_of hd
    refine tgc_name (by simp) ?_
    show _ = _ ∧ EvT W [.d (scD sc), .d (.lst (natsD (slotsN sc))), .d (nT (slotsN sc)), .no, .d (.int (x : Nat))] _ _
    refine ⟨rfl, ?_⟩
    repeat walk_at "pd"
    rw [List.replicate_succ', List.map_append]; rfl
  · rintro acc rfl
    repeat walk_at "pd"
    refine cd_all (bs := List.replicate _ true) rfl ?_
    rw [show (List.replicate (natsD (slotsN sc)).length true).all id = true from by simp]
    repeat walk_at "pd"
    refine ⟨ok, hl, fun ks nd hm => ?_⟩
    show St W [.d (scD sc), .d (.lst (natsD (slotsN sc))), .d (nT (slotsN sc)), .d (.int (ks.length : Nat)), .no] _ _
    repeat walk_at "pd"
    refine cd_tupL rfl ?_
    refine opd_eq (ok_nT _) (ok_nT _) ?_
    rw [show eqD (nT (slotsN sc)) (.tup (natsD (slotsN sc))) = true from (eqD_nT _ _).trans (decide_eq_true rfl)]
    repeat walk_at "pd"
    refine ⟨by rw [slotsN_len]; omega, fun js nd2 hm2 => ?_⟩
    refine opd_eq rfl rfl ?_
    rw [same_len nd nd2 fun j => by rw [hm j]; exact ⟨fun ⟨a, ha, e⟩ => ⟨a, (hm2 a).mpr ha, e⟩, fun ⟨a, ha, e⟩ => ⟨a, (hm2 a).mp ha, e⟩⟩, eqD_nat, decide_eq_true rfl]
    exact k
/-! ### law -/
abbrev s_law : Stmt := topS 18
abbrev N_law : List Str := ["_law_script", "_law_tape_here", "_law_again", "_law_many", "_law_menu_here", "_law_slots", "_law_found", "_law_slot", "_law_row", "_law_turn"]
theorem sc_law : FnScope N_law ["_law_script"] (defScope s_law) := ⟨rfl, rfl, rfl, by decide +kernel, rfl, by decide +kernel, by decide +kernel⟩

abbrev sp_law (K : PySem.W.Frag) : Sp := fun vs H Q _ => ∃ (a : Addr) (ns : List Int), vs = [.ref a] ∧ SqL K H a (ns.map V.int) ∧ ns.length ≤ 63 ∧ ∀ H', Q (.bl true) H'
theorem slots_zero (l : List Nat) : slotsN (l.map fun s => ((s, 0, []) : Tr)) = l := by
  unfold slotsN; rw [List.map_map]; exact (List.map_congr_left fun _ _ => rfl).trans (List.map_id l)
theorem ok_law {f : Addr} {fd : FuncData} (F : Fun K "law" "law" s_law f fd) (T : Txt K mg) (h_law_tape : Has P w K mg base 1 "_law_tape" ["_law_script"] (sp_law_tape K)) (h_law_pick : Has P w K mg base 1 "_law_pick" ["_law_tape_here", "_law_many"] (sp_law_pick K)) (h_law_menu : Has P w K mg base 3 "_law_menu" ["_law_tape_here"] (sp_law_menu K)) (h_law_great : Has P w K mg base 2 "_law_great" ["_law_tape_here"] (sp_law_great K)) (h_law_is_right : Has P w K mg base 7 "_law_is_right" ["_law_scheme", "_law_slots"] (sp_law_is_right K)) : FnOk P w K mg base CX0 8 f fd ["_law_script"] (sp_law K) := by
  refine F.ok sc_law (fun vs H Q E h => ?_) (fun cdv A outer s H vs Q E hr h => ⟨_, (pss_cons (ps_set (i := 1) sc_law.nd rfl (by first | exact Or.inl rfl | exact Or.inr rfl) (pe_has h_law_tape (hr.mono (by decide)) (pa_cons (pv 0) pa_nil)))
 (pss_cons (ps_for PassesOwn.never rfl (pi_range1 (by rfl) T.z_range (pa_cons pe_int pa_nil)) (pg_name (i := 2) sc_law.nd rfl (by first | exact Or.inl rfl | exact Or.inr rfl)) (pss_cons (ps_set (i := 3) sc_law.nd rfl (by first | exact Or.inl rfl | exact Or.inr rfl) (pe_has h_law_pick (hr.mono (by decide)) (pa_cons (pv 1) (pa_cons pe_int pa_nil))))
 (pss_cons (ps_if (pt_cmpR (op_eqD (hu65 hr)) (pe_has h_law_pick (hr.mono (by decide)) (pa_cons (pv 1) (pa_cons pe_int pa_nil))) pe_int (nomark _)) (pss_one (ps_set (i := 3) sc_law.nd rfl (by first | exact Or.inl rfl | exact Or.inr rfl) (pe_op op_plus pe_int (pe_has h_law_pick (hr.mono (by decide)) (pa_cons (pv 1) (pa_cons pe_int pa_nil)))))) pss_nil)
 (pss_cons (ps_set (i := 4) sc_law.nd rfl (by first | exact Or.inl rfl | exact Or.inr rfl) (pe_has h_law_menu (hr.mono (by decide)) (pa_cons (pv 1) pa_nil)))
 (pss_cons (ps_setLc (i := 5) (own := [("_law_turn", 9)]) rfl sc_law.nd rfl rfl (sw_true rfl rfl rfl (by decide +kernel)) (pi_range1 (by rfl) T.z_range (pa_cons (pv 3) pa_nil)) (blkOk_by (own := [("_law_turn", 9)]) (N := N_law) (sc := defScope s_law) (by decide +kernel)) (fun _ _ _ _ _ => (pg_name (i := 9) sc_law.nd rfl (by first | exact Or.inl rfl | exact Or.inr rfl))) (fun _ _ _ _ _ => pts_nil) (fun _ _ _ _ _ => pe_conv (pe_ix ix_seq (pv 4) (pe_has h_law_pick (hr.mono (by decide)) (pa_cons (pv 1) (pa_cons (pe_callB call_len1 (by rfl) T.z_len (by decide +kernel) (pa_cons (pv 4) pa_nil)) pa_nil))) (fun _ _ => rfl)) (by first | rfl | (dsimp only [Cx.blk]; first | done | rfl))))
 (pss_cons (ps_set (i := 6) sc_law.nd rfl (by first | exact Or.inl rfl | exact Or.inr rfl) (pe_lst pa_nil))
 (pss_cons (ps_for PassesOwn.never rfl (pi_list (pv 5)) (pg_name (i := 7) sc_law.nd rfl (by first | exact Or.inl rfl | exact Or.inr rfl)) (pss_cons (ps_setLc (i := 8) (own := [("_law_turn", 9)]) rfl sc_law.nd rfl rfl (sw_true rfl rfl rfl (by decide +kernel)) (pi_range1 (by rfl) T.z_range (pa_cons (pe_has h_law_pick (hr.mono (by decide)) (pa_cons (pv 1) (pa_cons pe_int pa_nil))) pa_nil)) (blkOk_by (own := [("_law_turn", 9)]) (N := N_law) (sc := defScope s_law) (by decide +kernel)) (fun _ _ _ _ _ => (pg_name (i := 9) sc_law.nd rfl (by first | exact Or.inl rfl | exact Or.inr rfl))) (fun _ _ _ _ _ => pts_nil) (fun _ _ _ _ _ => pe_conv (pe_has h_law_great (hr.mono (by decide)) (pa_cons (pv 1) pa_nil)) (by first | rfl | (dsimp only [Cx.blk]; first | done | rfl))))
 (pss_one (ps_expr (pe_bm PySem.F.plainAttrs_list PySem.F.slot_list_append PySem.F.type_list_append mt_append (pv 6) (pa_cons (pe_tup (pa_cons (pv 7) (pa_cons (pe_has h_law_great (hr.mono (by decide)) (pa_cons (pv 1) pa_nil)) (pa_cons (pe_callTy call_tup1 (by rfl) T.z_tuple (by decide +kernel) (pa_cons (pv 8) pa_nil)) pa_nil)))) pa_nil))))))
 (pss_cons (ps_if (pt_not (pt_truth (pe_has h_law_is_right (hr.mono (by decide)) (pa_cons (pe_callTy call_tup1 (by rfl) T.z_tuple (by decide +kernel) (pa_cons (pv 6) pa_nil)) (pa_cons (pv 5) pa_nil))) (by intro _; rfl))) (pss_one (ps_ret pe_bl)) pss_nil)
 (pss_cons (ps_if (pt_not (pt_truth (pe_has h_law_is_right (hr.mono (by decide)) (pa_cons (pe_callTy call_tup1 (by rfl) T.z_tuple (by decide +kernel) (pa_cons (pe_listRev rfl (by rfl) T.z_list (by rfl) T.z_reversed (pv 6)) pa_nil)) (pa_cons (pe_listRev rfl (by rfl) T.z_list (by rfl) T.z_reversed (pv 5)) pa_nil))) (by intro _; rfl))) (pss_one (ps_ret pe_bl)) pss_nil)
 (pss_one (ps_if (pt_not (pt_truth (pe_has h_law_is_right (hr.mono (by decide)) (pa_cons (pe_callTy call_tup1 (by rfl) T.z_tuple (by decide +kernel) (pa_cons (pe_lc (own := [("_law_slot", 7)]) rfl sc_law.nd (pi_list (pv 5)) (blkOk_by (own := [("_law_slot", 7)]) (N := N_law) (sc := defScope s_law) (by decide +kernel)) (fun _ _ _ _ _ => (pg_name (i := 7) sc_law.nd rfl (by first | exact Or.inl rfl | exact Or.inr rfl))) (fun _ _ _ _ _ => pts_nil) (fun _ _ _ _ _ => pe_conv (pe_tup (pa_cons (pv 7) (pa_cons pe_int (pa_cons (pe_tup pa_nil) pa_nil)))) (by first | rfl | (dsimp only [Cx.blk]; first | done | rfl)))) pa_nil)) (pa_cons (pv 5) pa_nil))) (by intro _; rfl))) (pss_one (ps_ret pe_bl)) pss_nil)))))))))))
 (pss_one (ps_ret pe_bl)))), ?_⟩)
  · obtain ⟨a, ns, rfl, _⟩ := h; rfl
  obtain ⟨a, ns, rfl, hS, hlen, k⟩ := h
  refine ⟨.ref a, rfl, a, ns, rfl, hS, fun H1 t c hT => ?_⟩
  dsimp only
  refine (?_ : St (tapeW t c) [.raw (.ref a), .raw (.ref t), .no, .no, .no, .no, .no, .no, .no, .no] _ { nx := fun _ => False, rt := fun d => d = .bl true }) [] [] H1 _ H1 ⟨⟨.cons rfl (.cons rfl (.cons trivial (.cons trivial (.cons trivial (.cons trivial (.cons trivial (.cons trivial (.cons trivial (.cons trivial .nil))))))))), List.nodup_nil, (fun l hl => nomatch hl), (fun l hl => nomatch hl), hT⟩, Ex.refl _ _, (fun l hl => nomatch hl)⟩ _ ⟨(fun _ _ _ z => z.elim), (fun _ _ _ z => z.elim), (fun _ _ _ z => z.elim), fun d v H e _ _ r => by subst e; cases r; exact k _⟩
  refine st_seq (st_for (evi_rng1 (ev_int ⟨3, rfl, by decide, by decide, fun i G => ∃ e2 e3 e4 e5 e6 e7 e8 e9 : Ent, ownOf e2 = none ∧ ownOf e3 = none ∧ ownOf e4 = none ∧ ownOf e5 = none ∧ ownOf e6 = none ∧ ownOf e7 = none ∧ ownOf e8 = none ∧ ownOf e9 = none ∧ G = [.raw (.ref a), .raw (.ref t), e2, e3, e4, e5, e6, e7, e8, e9], ⟨.no, .no, .no, .no, .no, .no, .no, .no, rfl, rfl, rfl, rfl, rfl, rfl, rfl, rfl, rfl⟩, ?_, ?_⟩)))
  · rintro i d G' hd ⟨e2, e3, e4, e5, e6, e7, e8, e9, h2, h3, h4, h5, h6, h7, h8, h9, rfl⟩
    obtain ⟨hi, rfl⟩ := intsUp_of hd
    refine tg_name ?_
    rw [Int.zero_add]
    show St (tapeW t c) [.raw (.ref a), .raw (.ref t), .d (.int (i : Nat)), e3, e4, e5, e6, e7, e8, e9] _ _
    repeat walk_at "pd"
    refine pick_ok 13 rfl (by decide) (by decide) fun r hr => ?_
    refine st_cut (fun G' => ∃ m : Nat, m ≤ 60 ∧ G' = [.raw (.ref a), .raw (.ref t), .d (.int (i : Nat)), .d (.int (m : Nat)), e4, e5, e6, e7, e8, e9]) ?_ ?_
    · repeat walk_at "pd"
      refine pick_ok 12 rfl (by decide) (by decide) fun r2 hr2 => ?_
      repeat walk_at "pd"
      refine opd_eq rfl rfl ⟨_, rfl, fun _ => ?_, fun _ => ?_⟩
      · repeat walk_at "pd"
        refine pick_ok 48 rfl (by decide) (by decide) fun r3 hr3 => ?_
        refine opd_plusI ?_
        exact ⟨13 + r3, by omega, by push_cast; rfl⟩
      · repeat walk_at "pd"
        exact ⟨r, by omega, rfl⟩
    rintro G' ⟨m, hm, rfl⟩
    repeat walk_at "pd"
    intro ms hms0 hms
    show St (tapeW t c) [.raw (.ref a), .raw (.ref t), .d (.int (i : Nat)), .d (.int (m : Nat)), .d (.lst (natsD ms)), e5, e6, e7, e8, e9] _ _
    refine st_seq (st_asg (EvL.ev (evl_lc (evi_rng1 (ev_var (i := 3) rfl ⟨(m : Int), rfl, by omega, by omega, by rw [intsUp_len]; omega, fun j acc => ∃ ss : List Nat, acc = natsD ss ∧ ss.length = j, ⟨[], rfl, rfl⟩, ?_, ?_⟩)))))
    · rintro j d acc hd ⟨ss, rfl, hl⟩ _
      obtain ⟨hj, rfl⟩ := intsUp_of hd
      refine tgc_name (by simp) ?_
      show _ = _ ∧ EvT (tapeW t c) [.raw (.ref a), .raw (.ref t), .d (.int (i : Nat)), .d (.int (m : Nat)), .d (.lst (natsD ms)), e5, e6, e7, e8, .d (.int (0 + (j : Nat)))] _ _
      refine ⟨by show owned [e5, e6, e7, e8] = owned [e5, e6, e7, e8, e9]; unfold owned; simp only [List.filterMap_cons, h5, h6, h7, h8, h9], ?_⟩
      repeat walk_at "pd"
      refine cd_len (.inl rfl) ?_
      rw [natsD_len]
      repeat walk_at "pd"
      refine pick_ok ms.length rfl (by omega) (by omega) fun x hx => ?_
      refine opd_ix (d := .int (ms[x] : Nat)) (atI_of (natsD_get (List.getElem?_eq_getElem hx))) ?_
      exact ⟨ss ++ [ms[x]], by rw [natsD_snoc], by rw [List.length_append]; show ss.length + 1 = _; omega⟩
    rintro acc ⟨ss, rfl, hsl⟩
    rw [intsUp_len, Int.toNat_natCast] at hsl
    show St (tapeW t c) [.raw (.ref a), .raw (.ref t), .d (.int (i : Nat)), .d (.int (m : Nat)), .d (.lst (natsD ms)), .d (.lst (natsD ss)), e6, e7, e8, e9] _ _
    repeat walk_at "pd"
    rename_i l
    refine st_for (evi_lst (ev_var (i := 5) rfl ⟨natsD ss, rfl, fun j G => ∃ (sc : List Tr) (e7 e8 e9 : Ent), ownOf e7 = none ∧ ownOf e8 = none ∧ ownOf e9 = none ∧ G = [.raw (.ref a), .raw (.ref t), .d (.int (i : Nat)), .d (.int (m : Nat)), .d (.lst (natsD ms)), .d (.lst (natsD ss)), .own l (sc.map trD), e7, e8, e9] ∧ slotsN sc = ss.take j ∧ ScOk sc, ⟨[], e7, e8, e9, h7, h8, h9, rfl, rfl, ScOk.nil⟩, ?_, ?_⟩))
    · rintro j d G' hd ⟨sc, e7, e8, e9, h7, h8, h9, rfl, hsc, ok⟩
      obtain ⟨x, hx, rfl⟩ := natsD_of hd
      have hj := (List.getElem?_eq_some_iff.mp hx).1
      have hscl : sc.length = j := by have := congrArg List.length hsc; rw [slotsN_len, List.length_take] at this; omega
      refine tg_name ?_
      show St (tapeW t c) [.raw (.ref a), .raw (.ref t), .d (.int (i : Nat)), .d (.int (m : Nat)), .d (.lst (natsD ms)), .d (.lst (natsD ss)), .own l (sc.map trD), .d (.int (x : Nat)), e8, e9] _ _
      refine st_seq (st_asg (EvL.ev (evl_lc (evi_rng1 (ev_call (eva_cons (eve_raw (i := 1) rfl (eva_d (ev_int (eva_nil ⟨rfl, pick_ok 5 rfl (by decide) (by decide) fun r hr => ⟨_, rfl, by omega, by omega, by rw [intsUp_len]; omega, fun j acc => ∃ row : List Int, acc = row.map D.int ∧ row.length = j, ⟨[], rfl, rfl⟩, ?_, ?_⟩⟩))))))))))
      · rintro q d acc hd ⟨row, rfl, hl⟩ _
        obtain ⟨hq, rfl⟩ := intsUp_of hd
        refine tgc_name (by simp) ?_
        show _ = _ ∧ EvT (tapeW t c) [.raw (.ref a), .raw (.ref t), .d (.int (i : Nat)), .d (.int (m : Nat)), .d (.lst (natsD ms)), .d (.lst (natsD ss)), .own l (sc.map trD), .d (.int (x : Nat)), e8, .d (.int (0 + (q : Nat)))] _ _
        refine ⟨by show [l] ++ owned [e8] = [l] ++ owned [e8, e9]; unfold owned; simp only [List.filterMap_cons, h8, h9], ?_⟩
        repeat walk_at "pd"
        intro z
        exact ⟨row ++ [z], by rw [List.map_append]; rfl, by rw [List.length_append]; show row.length + 1 = _; omega⟩
      · rintro acc ⟨row, rfl, hrl⟩
        rw [intsUp_len] at hrl
        show St (tapeW t c) [.raw (.ref a), .raw (.ref t), .d (.int (i : Nat)), .d (.int (m : Nat)), .d (.lst (natsD ms)), .d (.lst (natsD ss)), .own l (sc.map trD), .d (.int (x : Nat)), .d (.lst (row.map D.int)), e9] _ _
        refine st_app (l := l) (ds := sc.map trD) rfl (by rw [List.length_map]; omega) ?_
        repeat walk_at "pd"
        intro z
        repeat walk_at "pd"
        refine cd_tupL rfl ?_
        repeat walk_at "pd"
        refine ⟨sc ++ [(x, z, row)], _, _, _, rfl, rfl, h9, by rw [List.map_append]; rfl, ?_, ok.snoc (by omega) (by show row.length < _; omega)⟩
        rw [snoc_take hx, ← hsc]; unfold slotsN; rw [List.map_append]; rfl
    · rintro G' ⟨sc, e7, e8, e9, h7, h8, h9, rfl, hsc, ok⟩
      rw [natsD_len, List.take_length] at hsc
      have hscl : sc.length = ss.length := by rw [← hsc, slotsN_len]
      refine st_freeze 6 rfl ?_
      show St (tapeW t c) [.raw (.ref a), .raw (.ref t), .d (.int (i : Nat)), .d (.int (m : Nat)), .d (.lst (natsD ms)), .d (.lst (natsD ss)), .d (.lst (sc.map trD)), e7, e8, e9] _ _
      repeat walk_at "pd"
      refine cd_tupL rfl ?_
      repeat walk_at "pd"
      refine right_ok sc rfl (by rw [hsc]) ok (by omega) ?_
      repeat walk_at "pd"
      refine EvL.ev (evl_listRev (Ev.b (ev_var (i := 6) rfl ⟨_, rfl, ?_⟩)))
      repeat walk_at "pd"
      refine cd_tupL rfl ?_
      repeat walk_at "pd"
      refine EvL.ev (evl_listRev (Ev.b (ev_var (i := 5) rfl ⟨_, rfl, ?_⟩)))
      repeat walk_at "pd"
      have ok2 : ScOk sc.reverse := ⟨by rw [List.length_reverse]; exact ok.len, fun t ht => ok.row t (List.mem_reverse.mp ht)⟩
      refine right_ok sc.reverse (by unfold scD; rw [List.map_reverse]) (by rw [natsD_rev, ← hsc]; unfold slotsN; rw [List.map_reverse]) ok2 (by rw [List.length_reverse]; omega) ?_
      repeat walk_at "pd"
      refine EvL.ev (evl_lc (evi_lst (ev_var (i := 5) rfl ⟨natsD ss, rfl, by rw [natsD_len]; omega, fun j acc => acc = ((ss.take j).map fun s => ((s, 0, []) : Tr)).map trD, rfl, ?_, ?_⟩)))
      · rintro j d acc hd rfl _
        obtain ⟨x, hx, rfl⟩ := natsD_of hd
        refine tgc_name (by simp) ?_
        show _ = _ ∧ EvT (tapeW t c) [.raw (.ref a), .raw (.ref t), .d (.int (i : Nat)), .d (.int (m : Nat)), .d (.lst (natsD ms)), .d (.lst (natsD ss)), .d (.lst (sc.map trD)), .d (.int (x : Nat)), e8, e9] _ _
        refine ⟨by show owned [e8, e9] = owned [e7, e8, e9]; unfold owned; simp only [List.filterMap_cons, h7], ?_⟩
        repeat walk_at "pd"
        rw [snoc_take hx, List.map_append, List.map_append]; rfl
      · rintro acc rfl
        rw [natsD_len, List.take_length]
        repeat walk_at "pd"
        refine cd_tupL rfl ?_
        repeat walk_at "pd"
        refine right_ok (ss.map fun s => ((s, 0, []) : Tr)) rfl (by rw [slots_zero]) ⟨by rw [List.length_map]; omega, fun t ht => ?_⟩ (by rw [List.length_map]; omega) ?_
        · obtain ⟨s, _, rfl⟩ := List.mem_map.mp ht
          exact Nat.zero_lt_succ _
        repeat walk_at "pd"
        exact ⟨_, _, _, _, _, _, _, _, rfl, rfl, rfl, rfl, rfl, h7, h8, h9, rfl⟩
  · rintro G' ⟨e2, e3, e4, e5, e6, e7, e8, e9, h2, h3, h4, h5, h6, h7, h8, h9, rfl⟩
    repeat walk_at "pd"

end
end Lw

namespace Lw
open PySem L2 RZ Pd PyProof.Rows
theorem all_mk {l : PySem.W.OpenLaw} {w : World} {K : PySem.W.Frag} {h : Heap} {mg : Str → Option Value} {fa f0 f1 f2 f3 f4 f5 f6 f7 f8 f9 f10 f11 f12 : Addr} (X : K.In h) (G : h.Ns mainGlobals mg) (hfa : mg "law" = some (.ref fa))
    {od0 an0 : Option Addr} {sl0 : Array (Option Value)} {oc0 kV0 dc0 pm0 cd0 ct0 : Value} {od1 an1 : Option Addr} {sl1 : Array (Option Value)} {oc1 kV1 dc1 pm1 cd1 ct1 : Value} {od2 an2 : Option Addr} {sl2 : Array (Option Value)} {oc2 kV2 dc2 pm2 cd2 ct2 : Value} {od3 an3 : Option Addr} {sl3 : Array (Option Value)} {oc3 kV3 dc3 pm3 cd3 ct3 : Value} {od4 an4 : Option Addr} {sl4 : Array (Option Value)} {oc4 kV4 dc4 pm4 cd4 ct4 : Value} {od5 an5 : Option Addr} {sl5 : Array (Option Value)} {oc5 kV5 dc5 pm5 cd5 ct5 : Value} {od6 an6 : Option Addr} {sl6 : Array (Option Value)} {oc6 kV6 dc6 pm6 cd6 ct6 : Value} {od7 an7 : Option Addr} {sl7 : Array (Option Value)} {oc7 kV7 dc7 pm7 cd7 ct7 : Value} {od8 an8 : Option Addr} {sl8 : Array (Option Value)} {oc8 kV8 dc8 pm8 cd8 ct8 : Value} {od9 an9 : Option Addr} {sl9 : Array (Option Value)} {oc9 kV9 dc9 pm9 cd9 ct9 : Value} {od10 an10 : Option Addr} {sl10 : Array (Option Value)} {oc10 kV10 dc10 pm10 cd10 ct10 : Value} {od11 an11 : Option Addr} {sl11 : Array (Option Value)} {oc11 kV11 dc11 pm11 cd11 ct11 : Value} {od12 an12 : Option Addr} {sl12 : Array (Option Value)} {oc12 kV12 dc12 pm12 cd12 ct12 : Value} 
    (a0 : PySem.W.nsIn K mainGlobals "is_integer" = some (some (.ref f0)))
    (l0 : K.lookup f0 = some ⟨oc0, od0, .func (PySem.W.fnOf "is_integer" "is_integer" (defArgs s_is_integer) (defBody s_is_integer) (defScope s_is_integer) .none kV0 dc0 pm0 an0 cd0 ct0), sl0⟩)
    (c0 : PySem.W.codeIn K cd0 "is_integer" = true)
    (k0 : PySem.W.keepIn K (.ref f0) = true)
    (a1 : PySem.W.nsIn K mainGlobals "is_triple" = some (some (.ref f1)))
    (l1 : K.lookup f1 = some ⟨oc1, od1, .func (PySem.W.fnOf "is_triple" "is_triple" (defArgs s_is_triple) (defBody s_is_triple) (defScope s_is_triple) .none kV1 dc1 pm1 an1 cd1 ct1), sl1⟩)
    (c1 : PySem.W.codeIn K cd1 "is_triple" = true)
    (k1 : PySem.W.keepIn K (.ref f1) = true)
    (a2 : PySem.W.nsIn K mainGlobals "is_any_scheme" = some (some (.ref f2)))
    (l2 : K.lookup f2 = some ⟨oc2, od2, .func (PySem.W.fnOf "is_any_scheme" "is_any_scheme" (defArgs s_is_any_scheme) (defBody s_is_any_scheme) (defScope s_is_any_scheme) .none kV2 dc2 pm2 an2 cd2 ct2), sl2⟩)
    (c2 : PySem.W.codeIn K cd2 "is_any_scheme" = true)
    (k2 : PySem.W.keepIn K (.ref f2) = true)
    (a3 : PySem.W.nsIn K mainGlobals "check_scheme" = some (some (.ref f3)))
    (l3 : K.lookup f3 = some ⟨oc3, od3, .func (PySem.W.fnOf "check_scheme" "check_scheme" (defArgs s_check_scheme) (defBody s_check_scheme) (defScope s_check_scheme) .none kV3 dc3 pm3 an3 cd3 ct3), sl3⟩)
    (c3 : PySem.W.codeIn K cd3 "check_scheme" = true)
    (k3 : PySem.W.keepIn K (.ref f3) = true)
    (a4 : PySem.W.nsIn K mainGlobals "slots_of" = some (some (.ref f4)))
    (l4 : K.lookup f4 = some ⟨oc4, od4, .func (PySem.W.fnOf "slots_of" "slots_of" (defArgs s_slots_of) (defBody s_slots_of) (defScope s_slots_of) .none kV4 dc4 pm4 an4 cd4 ct4), sl4⟩)
    (c4 : PySem.W.codeIn K cd4 "slots_of" = true)
    (k4 : PySem.W.keepIn K (.ref f4) = true)
    (a5 : PySem.W.nsIn K mainGlobals "many_slots" = some (some (.ref f5)))
    (l5 : K.lookup f5 = some ⟨oc5, od5, .func (PySem.W.fnOf "many_slots" "many_slots" (defArgs s_many_slots) (defBody s_many_slots) (defScope s_many_slots) .none kV5 dc5 pm5 an5 cd5 ct5), sl5⟩)
    (c5 : PySem.W.codeIn K cd5 "many_slots" = true)
    (k5 : PySem.W.keepIn K (.ref f5) = true)
    (a6 : PySem.W.nsIn K mainGlobals "_law_tape" = some (some (.ref f6)))
    (l6 : K.lookup f6 = some ⟨oc6, od6, .func (PySem.W.fnOf "_law_tape" "_law_tape" (defArgs s_law_tape) (defBody s_law_tape) (defScope s_law_tape) .none kV6 dc6 pm6 an6 cd6 ct6), sl6⟩)
    (c6 : PySem.W.codeIn K cd6 "_law_tape" = true)
    (k6 : PySem.W.keepIn K (.ref f6) = true)
    (a7 : PySem.W.nsIn K mainGlobals "_law_pick" = some (some (.ref f7)))
    (l7 : K.lookup f7 = some ⟨oc7, od7, .func (PySem.W.fnOf "_law_pick" "_law_pick" (defArgs s_law_pick) (defBody s_law_pick) (defScope s_law_pick) .none kV7 dc7 pm7 an7 cd7 ct7), sl7⟩)
    (c7 : PySem.W.codeIn K cd7 "_law_pick" = true)
    (k7 : PySem.W.keepIn K (.ref f7) = true)
    (a8 : PySem.W.nsIn K mainGlobals "_law_great" = some (some (.ref f8)))
    (l8 : K.lookup f8 = some ⟨oc8, od8, .func (PySem.W.fnOf "_law_great" "_law_great" (defArgs s_law_great) (defBody s_law_great) (defScope s_law_great) .none kV8 dc8 pm8 an8 cd8 ct8), sl8⟩)
    (c8 : PySem.W.codeIn K cd8 "_law_great" = true)
    (k8 : PySem.W.keepIn K (.ref f8) = true)
    (a9 : PySem.W.nsIn K mainGlobals "_law_menu" = some (some (.ref f9)))
    (l9 : K.lookup f9 = some ⟨oc9, od9, .func (PySem.W.fnOf "_law_menu" "_law_menu" (defArgs s_law_menu) (defBody s_law_menu) (defScope s_law_menu) .none kV9 dc9 pm9 an9 cd9 ct9), sl9⟩)
    (c9 : PySem.W.codeIn K cd9 "_law_menu" = true)
    (k9 : PySem.W.keepIn K (.ref f9) = true)
    (a10 : PySem.W.nsIn K mainGlobals "_law_unlike" = some (some (.ref f10)))
    (l10 : K.lookup f10 = some ⟨oc10, od10, .func (PySem.W.fnOf "_law_unlike" "_law_unlike" (defArgs s_law_unlike) (defBody s_law_unlike) (defScope s_law_unlike) .none kV10 dc10 pm10 an10 cd10 ct10), sl10⟩)
    (c10 : PySem.W.codeIn K cd10 "_law_unlike" = true)
    (k10 : PySem.W.keepIn K (.ref f10) = true)
    (a11 : PySem.W.nsIn K mainGlobals "_law_is_right" = some (some (.ref f11)))
    (l11 : K.lookup f11 = some ⟨oc11, od11, .func (PySem.W.fnOf "_law_is_right" "_law_is_right" (defArgs s_law_is_right) (defBody s_law_is_right) (defScope s_law_is_right) .none kV11 dc11 pm11 an11 cd11 ct11), sl11⟩)
    (c11 : PySem.W.codeIn K cd11 "_law_is_right" = true)
    (k11 : PySem.W.keepIn K (.ref f11) = true)
    (a12 : PySem.W.nsIn K mainGlobals "law" = some (some (.ref f12)))
    (l12 : K.lookup f12 = some ⟨oc12, od12, .func (PySem.W.fnOf "law" "law" (defArgs s_law) (defBody s_law) (defScope s_law) .none kV12 dc12 pm12 an12 cd12 ct12), sl12⟩)
    (c12 : PySem.W.codeIn K cd12 "law" = true)
    (k12 : PySem.W.keepIn K (.ref f12) = true)
    (zb_abs : PySem.W.nsIn K mainGlobals "abs" = some none)
    (zb_all : PySem.W.nsIn K mainGlobals "all" = some none)
    (zb_bool : PySem.W.nsIn K mainGlobals "bool" = some none)
    (zb_int : PySem.W.nsIn K mainGlobals "int" = some none)
    (zb_isinstance : PySem.W.nsIn K mainGlobals "isinstance" = some none)
    (zb_len : PySem.W.nsIn K mainGlobals "len" = some none)
    (zb_list : PySem.W.nsIn K mainGlobals "list" = some none)
    (zb_range : PySem.W.nsIn K mainGlobals "range" = some none)
    (zb_reversed : PySem.W.nsIn K mainGlobals "reversed" = some none)
    (zb_set : PySem.W.nsIn K mainGlobals "set" = some none)
    (zb_tuple : PySem.W.nsIn K mainGlobals "tuple" = some none) :
    ∃ fd : FuncData, (∀ (s : Shared) (v : Value), BindsTo s fd ⟨[v], []⟩ [("_law_script", v)]) ∧ ∀ base : Heap, K.In base → base.Ns mainGlobals mg → FnOk l.prog w K mg base CX0 8 fa fd ["_law_script"] (sp_law K) := by
  have e := hfa.symm.trans (PySem.W.mg_of X G a12)
  cases e
  have T : Txt K mg := {
    z_abs := PySem.W.mg_none_of X G zb_abs,
    z_all := PySem.W.mg_none_of X G zb_all,
    z_bool := PySem.W.mg_none_of X G zb_bool,
    z_int := PySem.W.mg_none_of X G zb_int,
    z_isinstance := PySem.W.mg_none_of X G zb_isinstance,
    z_len := PySem.W.mg_none_of X G zb_len,
    z_list := PySem.W.mg_none_of X G zb_list,
    z_range := PySem.W.mg_none_of X G zb_range,
    z_reversed := PySem.W.mg_none_of X G zb_reversed,
    z_set := PySem.W.mg_none_of X G zb_set,
    z_tuple := PySem.W.mg_none_of X G zb_tuple }
  refine ⟨PySem.W.fnOf "law" "law" (defArgs s_law) (defBody s_law) (defScope s_law) .none kV12 dc12 pm12 an12 cd12 ct12, fun s v => .of_eq rfl, fun base _ _ => ?_⟩
  have H_is_integer : Has l.prog w K mg base 1 "is_integer" ["thing"] (sp_is_integer K) := ⟨f0, _, PySem.W.mg_of X G a0, k0, ((fun_mk (st := s_is_integer) l0 c0 k0).binds (ps := ["thing"]) fun _ _ _ _ _ _ us hl => match us, hl with | [_], _ => rfl), ok_is_integer (fun_mk (st := s_is_integer) l0 c0 k0) T⟩
  have H_is_triple : Has l.prog w K mg base 2 "is_triple" ["thing"] (sp_is_triple K) := ⟨f1, _, PySem.W.mg_of X G a1, k1, ((fun_mk (st := s_is_triple) l1 c1 k1).binds (ps := ["thing"]) fun _ _ _ _ _ _ us hl => match us, hl with | [_], _ => rfl), ok_is_triple (fun_mk (st := s_is_triple) l1 c1 k1) T H_is_integer⟩
  have H_is_any_scheme : Has l.prog w K mg base 3 "is_any_scheme" ["thing"] (sp_is_any_scheme K) := ⟨f2, _, PySem.W.mg_of X G a2, k2, ((fun_mk (st := s_is_any_scheme) l2 c2 k2).binds (ps := ["thing"]) fun _ _ _ _ _ _ us hl => match us, hl with | [_], _ => rfl), ok_is_any_scheme (fun_mk (st := s_is_any_scheme) l2 c2 k2) T H_is_triple⟩
  have H_check_scheme : Has l.prog w K mg base 4 "check_scheme" ["thing"] (sp_check_scheme K) := ⟨f3, _, PySem.W.mg_of X G a3, k3, ((fun_mk (st := s_check_scheme) l3 c3 k3).binds (ps := ["thing"]) fun _ _ _ _ _ _ us hl => match us, hl with | [_], _ => rfl), ok_check_scheme (fun_mk (st := s_check_scheme) l3 c3 k3) T H_is_any_scheme⟩
  have H_slots_of : Has l.prog w K mg base 5 "slots_of" ["scheme"] (sp_slots_of K) := ⟨f4, _, PySem.W.mg_of X G a4, k4, ((fun_mk (st := s_slots_of) l4 c4 k4).binds (ps := ["scheme"]) fun _ _ _ _ _ _ us hl => match us, hl with | [_], _ => rfl), ok_slots_of (fun_mk (st := s_slots_of) l4 c4 k4) T H_check_scheme⟩
  have H_many_slots : Has l.prog w K mg base 6 "many_slots" ["scheme"] (sp_many_slots K) := ⟨f5, _, PySem.W.mg_of X G a5, k5, ((fun_mk (st := s_many_slots) l5 c5 k5).binds (ps := ["scheme"]) fun _ _ _ _ _ _ us hl => match us, hl with | [_], _ => rfl), ok_many_slots (fun_mk (st := s_many_slots) l5 c5 k5) T H_slots_of⟩
  have H_law_tape : Has l.prog w K mg base 1 "_law_tape" ["_law_script"] (sp_law_tape K) := ⟨f6, _, PySem.W.mg_of X G a6, k6, ((fun_mk (st := s_law_tape) l6 c6 k6).binds (ps := ["_law_script"]) fun _ _ _ _ _ _ us hl => match us, hl with | [_], _ => rfl), ok_law_tape (fun_mk (st := s_law_tape) l6 c6 k6) T⟩
  have H_law_pick : Has l.prog w K mg base 1 "_law_pick" ["_law_tape_here", "_law_many"] (sp_law_pick K) := ⟨f7, _, PySem.W.mg_of X G a7, k7, ((fun_mk (st := s_law_pick) l7 c7 k7).binds (ps := ["_law_tape_here", "_law_many"]) fun _ _ _ _ _ _ us hl => match us, hl with | [_, _], _ => rfl), ok_law_pick (fun_mk (st := s_law_pick) l7 c7 k7) T⟩
  have H_law_great : Has l.prog w K mg base 2 "_law_great" ["_law_tape_here"] (sp_law_great K) := ⟨f8, _, PySem.W.mg_of X G a8, k8, ((fun_mk (st := s_law_great) l8 c8 k8).binds (ps := ["_law_tape_here"]) fun _ _ _ _ _ _ us hl => match us, hl with | [_], _ => rfl), ok_law_great (fun_mk (st := s_law_great) l8 c8 k8) T H_law_pick⟩
  have H_law_menu : Has l.prog w K mg base 3 "_law_menu" ["_law_tape_here"] (sp_law_menu K) := ⟨f9, _, PySem.W.mg_of X G a9, k9, ((fun_mk (st := s_law_menu) l9 c9 k9).binds (ps := ["_law_tape_here"]) fun _ _ _ _ _ _ us hl => match us, hl with | [_], _ => rfl), ok_law_menu (fun_mk (st := s_law_menu) l9 c9 k9) T H_law_pick H_law_great⟩
  have H_law_unlike : Has l.prog w K mg base 1 "_law_unlike" ["_law_slots"] (sp_law_unlike K) := ⟨f10, _, PySem.W.mg_of X G a10, k10, ((fun_mk (st := s_law_unlike) l10 c10 k10).binds (ps := ["_law_slots"]) fun _ _ _ _ _ _ us hl => match us, hl with | [_], _ => rfl), ok_law_unlike (fun_mk (st := s_law_unlike) l10 c10 k10) T⟩
  have H_law_is_right : Has l.prog w K mg base 7 "_law_is_right" ["_law_scheme", "_law_slots"] (sp_law_is_right K) := ⟨f11, _, PySem.W.mg_of X G a11, k11, ((fun_mk (st := s_law_is_right) l11 c11 k11).binds (ps := ["_law_scheme", "_law_slots"]) fun _ _ _ _ _ _ us hl => match us, hl with | [_, _], _ => rfl), ok_law_is_right (fun_mk (st := s_law_is_right) l11 c11 k11) T H_slots_of H_many_slots H_law_unlike⟩
  have r : FnOk l.prog w K mg base CX0 8 fa _ ["_law_script"] (sp_law K) := ok_law (fun_mk (st := s_law) l12 c12 k12) T H_law_tape H_law_pick H_law_menu H_law_great H_law_is_right
  exact r
theorem walk {l : PySem.W.OpenLaw} {q : Program} {loose : List Str} {XP : (Str → Option Value) → Heap → Prop} {YP : World → Heap → Prop} {d : DefRec} {K : Params → PySem.W.Frag} (hn : l.most = some 63) (hdf : d.params.defaults = [])
    (hY : ∀ (w : World) (h : Heap), YP w h → (K w.params).In h)
    (F : ∀ (w : World) (mg : Str → Option Value) (fa : Addr) (h : Heap), (K w.params).In h → h.Ns mainGlobals mg → mg d.name = some (.ref fa) →
      ∃ fd : FuncData, (∀ (s : Shared) (u : Value), BindsTo s fd ⟨[u], []⟩ [("_law_script", u)]) ∧ ∀ base : Heap, (K w.params).In base → base.Ns mainGlobals mg → FnOk l.prog w (K w.params) mg base CX0 8 fa fd ["_law_script"] (sp_law (K w.params))) :
    PySem.W.WalkO q loose XP YP l.row.toRowW d [] (fun f vs => PySem.call f vs) :=
  L2.walk_of (n := 63) (k := 8) (x := "_law_script") (CX := fun _ => CX0) (sp := fun w => sp_law (K w.params)) hn (by decide) hdf ⟨rfl, by decide, by decide⟩ hY F (fun _ _ a ns hl _ hS => ⟨a, ns, rfl, hS, hl, fun _ => rfl⟩) fun _ _ _ _ _ z => z
end Lw
open PySem PySem.W PyProof.Rows in
set_option maxRecDepth 100000 in
set_option maxHeartbeats 0 in
theorem PySem.Challenge.cw_latekinds_k15_slots_of_a_scheme_holds : PySem.Challenge.rw_latekinds_k15_slots_of_a_scheme.Holds := by
  w_on; o_law; k_head; (case hw => w_witness2)
  k_fill
  refine Lw.walk (l := PySem.Challenge.rw_latekinds_k15_slots_of_a_scheme) rfl rfl (fun w h Y => PySem.W.kIn_of Y) ?F
  case F =>
    intro w mg fa h KX G hmg
    refine' Lw.all_mk KX G hmg ?a0 ?l0 ?c0 ?k0 ?a1 ?l1 ?c1 ?k1 ?a2 ?l2 ?c2 ?k2 ?a3 ?l3 ?c3 ?k3 ?a4 ?l4 ?c4 ?k4 ?a5 ?l5 ?c5 ?k5 ?a6 ?l6 ?c6 ?k6 ?a7 ?l7 ?c7 ?k7 ?a8 ?l8 ?c8 ?k8 ?a9 ?l9 ?c9 ?k9 ?a10 ?l10 ?c10 ?k10 ?a11 ?l11 ?c11 ?k11 ?a12 ?l12 ?c12 ?k12 ?zb_abs ?zb_all ?zb_bool ?zb_int ?zb_isinstance ?zb_len ?zb_list ?zb_range ?zb_reversed ?zb_set ?zb_tuple
    (case a0 => k_is)
    (case l0 => k_is)
    (case c0 => k_is)
    (case k0 => k_is)
    (case a1 => k_is)
    (case l1 => k_is)
    (case c1 => k_is)
    (case k1 => k_is)
    (case a2 => k_is)
    (case l2 => k_is)
    (case c2 => k_is)
    (case k2 => k_is)
    (case a3 => k_is)
    (case l3 => k_is)
    (case c3 => k_is)
    (case k3 => k_is)
    (case a4 => k_is)
    (case l4 => k_is)
    (case c4 => k_is)
    (case k4 => k_is)
    (case a5 => k_is)
    (case l5 => k_is)
    (case c5 => k_is)
    (case k5 => k_is)
    (case a6 => k_is)
    (case l6 => k_is)
    (case c6 => k_is)
    (case k6 => k_is)
    (case a7 => k_is)
    (case l7 => k_is)
    (case c7 => k_is)
    (case k7 => k_is)
    (case a8 => k_is)
    (case l8 => k_is)
    (case c8 => k_is)
    (case k8 => k_is)
    (case a9 => k_is)
    (case l9 => k_is)
    (case c9 => k_is)
    (case k9 => k_is)
    (case a10 => k_is)
    (case l10 => k_is)
    (case c10 => k_is)
    (case k10 => k_is)
    (case a11 => k_is)
    (case l11 => k_is)
    (case c11 => k_is)
    (case k11 => k_is)
    (case a12 => k_is)
    (case l12 => k_is)
    (case c12 => k_is)
    (case k12 => k_is)
    (case zb_abs => k_is)
    (case zb_all => k_is)
    (case zb_bool => k_is)
    (case zb_int => k_is)
    (case zb_isinstance => k_is)
    (case zb_len => k_is)
    (case zb_list => k_is)
    (case zb_range => k_is)
    (case zb_reversed => k_is)
    (case zb_set => k_is)
    (case zb_tuple => k_is)
