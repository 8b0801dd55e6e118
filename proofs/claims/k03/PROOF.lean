import PyProof.Rows.All
import Wide.All
import OpenK.AllK
import Wide.FinOn
import KE.RegKIsAll
import HandS.ForMost
import HandS.Conv
import HandS.TupAny
import HandS.TupMul
import HandS.Zip
import HandS.IsInst
import HandS.SortInts
import HandS.WideBits
import HandS.Walk
import HandS.ForExc
import HandS.Text
import KE.GoesMore
import HandS.SetFor
import HandS.Strs
import HandS.OwnEq
import HandS.RevTup
import HandS.TupLe
import HandS.Wide
import HandS.ExcInit
import HandS.ExcIs
import HandS.Style
import KE.Datum
import KE.SortData
import HandS.RevRange
import HandS.DictComp
import PyProof.TupleOfSeq
import HandS.ExcValue
import PySem.Challenge.RW_latekinds_k03_whole_books_in_other_order
set_option Elab.async false
set_option linter.all false
set_option maxRecDepth 100000
set_option maxHeartbeats 4000000
/-! Pd: readings over data. Data D stands for what a value is; Ent for what a slot holds; Ev, St are readings told of data alone. -/
namespace Pd
open PySem L2

inductive D where
  | non | bl (b : Bool) | int (i : Int) | str (x : Str) | tup (ds : List D) | lst (ds : List D) | dct | rg (lo hi : Int) | obj (C : Addr) (ns : List Str) (ds : List D)

mutual
inductive Rep (M : Addr → Prop) (H : Hp) : V → D → Prop
  | non : Rep M H .non .non
  | bl (b : Bool) : Rep M H (.bl b) (.bl b)
  | int (i : Int) : Rep M H (.int i) (.int i)
  | str (x : Str) : Rep M H (.str x) (.str x)
  | tup {a : Addr} {vs : List V} {ds : List D} : Rd H a (.tup vs) → RepAll M H vs ds → Rep M H (.ref a) (.tup ds)
  | lst {a : Addr} {vs : List V} {ds : List D} : ¬ M a → H a = some (.lst vs) → RepAll M H vs ds → Rep M H (.ref a) (.lst ds)
  | dct {a : Addr} {kvs : List (Key × V)} : H a = some (.dK kvs) → Rep M H (.ref a) .dct
  | rg {a : Addr} {lo hi : Int} : H a = some (.rng lo hi) → Rep M H (.ref a) (.rg lo hi)
  | obj {a C dx : Addr} {fs : List (Str × V)} {ns : List Str} {vs : List V} {ds : List D} : H a = some (.ins C dx fs) → fs = ns.zip vs → ns.length = vs.length → RepAll M H vs ds → Rep M H (.ref a) (.obj C ns ds)
inductive RepAll (M : Addr → Prop) (H : Hp) : List V → List D → Prop
  | nil : RepAll M H [] []
  | cons {v : V} {vs : List V} {d : D} {ds : List D} : Rep M H v d → RepAll M H vs ds → RepAll M H (v :: vs) (d :: ds)
end

/-- no list, no dict with keys of ints and texts -/
def Fix : HO → Prop
  | .lst _ => False
  | .dK _ => False
  | _ => True
/-- only lists and dicts at places of M may have changed; nothing is lost -/
structure Ex (M : Addr → Prop) (H H' : Hp) : Prop where
  kp : ∀ a o, H a = some o → (M a → Fix o) → H' a = some o
  th : ∀ a o, H a = some o → ∃ o', H' a = some o'
  dk : ∀ a kvs, H a = some (.dK kvs) → ∃ kvs', H' a = some (.dK kvs')
theorem Ex.refl (M : Addr → Prop) (H : Hp) : Ex M H H := ⟨fun _ _ h _ => h, fun _ _ h => ⟨_, h⟩, fun _ _ h => ⟨_, h⟩⟩
theorem Ex.trans {M : Addr → Prop} {H H1 H2 : Hp} (a : Ex M H H1) (b : Ex M H1 H2) : Ex M H H2 := ⟨fun x o h k => b.kp x o (a.kp x o h k) k, fun x o h => by
  obtain ⟨o1, h1⟩ := a.th x o h; exact b.th x o1 h1, fun x o h => by
  obtain ⟨o1, h1⟩ := a.dk x o h; exact b.dk x o1 h1⟩
theorem Ex.weak {M M' : Addr → Prop} {H H' : Hp} (h : ∀ a, M a → M' a) (e : Ex M H H') : Ex M' H H' := ⟨fun a o q k => e.kp a o q fun m => k (h a m), e.th, e.dk⟩
theorem Ex.new {M : Addr → Prop} {H : Hp} {p : Addr} {o : HO} (h : H p = none) : Ex M H (upd H p o) := ⟨fun a u e _ => by
  rw [upd_ne (ne_of_none e h)]; exact e, fun a u e => ⟨u, by rw [upd_ne (ne_of_none e h)]; exact e⟩, fun a u e => ⟨u, by rw [upd_ne (ne_of_none e h)]; exact e⟩⟩
theorem Ex.mut {M : Addr → Prop} {H : Hp} {p : Addr} {o : HO} {xs : List V} (m : M p) (h : H p = some (.lst xs)) : Ex M H (upd H p o) := ⟨fun a u e k => by
  by_cases z : a = p
  · subst z; rw [h] at e; cases e; exact absurd (k m) (fun z => z)
  · rw [upd_ne z]; exact e, fun a u e => by
  by_cases z : a = p
  · subst z; exact ⟨_, upd_same⟩
  · rw [upd_ne z]; exact ⟨_, e⟩, fun a u e => by
  by_cases z : a = p
  · subst z; rw [h] at e; cases e
  · rw [upd_ne z]; exact ⟨_, e⟩⟩
theorem Ex.mutK {M : Addr → Prop} {H : Hp} {p : Addr} {xs ys : List (Key × V)} (m : M p) (h : H p = some (.dK xs)) : Ex M H (upd H p (.dK ys)) := ⟨fun a u e k => by
  by_cases z : a = p
  · subst z; rw [h] at e; cases e; exact absurd (k m) (fun z => z)
  · rw [upd_ne z]; exact e, fun a u e => by
  by_cases z : a = p
  · subst z; exact ⟨_, upd_same⟩
  · rw [upd_ne z]; exact ⟨_, e⟩, fun a u e => by
  by_cases z : a = p
  · subst z; exact ⟨_, upd_same⟩
  · rw [upd_ne z]; exact ⟨_, e⟩⟩
/-- a change at a place that H does not know -/
theorem Ex.mutN {M : Addr → Prop} {H H' : Hp} {p : Addr} {o : HO} (e : Ex M H H') (h : H p = none) : Ex M H (upd H' p o) := ⟨fun a u q k => by
  rw [upd_ne (ne_of_none q h)]; exact e.kp a u q k, fun a u q => by
  rw [upd_ne (ne_of_none q h)]; exact e.th a u q, fun a u q => by
  rw [upd_ne (ne_of_none q h)]; exact e.dk a u q⟩
theorem Ex.none {M : Addr → Prop} {H H' : Hp} {p : Addr} (e : Ex M H H') (hp : H' p = Option.none) : H p = Option.none := by
  cases q : H p with
  | none => rfl
  | some o =>
    obtain ⟨o', z⟩ := e.th p o q
    rw [hp] at z; cases z

theorem _root_.L2.Rd.keep {M : Addr → Prop} {H H' : Hp} {a : Addr} {vs : List V} (h : Rd H a (.tup vs)) (e : Ex M H H') : Rd H' a (.tup vs) := h.imp (fun z => e.kp _ _ z fun _ => trivial) fun ⟨o, z⟩ => ⟨o, e.kp _ _ z fun _ => trivial⟩
mutual
theorem Rep.mono {M M' : Addr → Prop} {H H' : Hp} (e : Ex M H H') (hM : ∀ a, M a → M' a) : ∀ {v : V} {d : D}, Rep M' H v d → Rep M' H' v d
  | _, _, .non => .non
  | _, _, .bl b => .bl b
  | _, _, .int i => .int i
  | _, _, .str x => .str x
  | _, _, .tup h r => .tup (h.imp (fun z => e.kp _ _ z fun _ => trivial) fun ⟨o, z⟩ => ⟨o, e.kp _ _ z fun _ => trivial⟩) (RepAll.mono e hM r)
  | _, _, .lst n h r => .lst n (e.kp _ _ h fun m => absurd (hM _ m) n) (RepAll.mono e hM r)
  | _, _, .dct h => by
    obtain ⟨k, q⟩ := e.dk _ _ h
    exact .dct q
  | _, _, .rg h => .rg (e.kp _ _ h fun _ => trivial)
  | _, _, .obj h q l r => .obj (e.kp _ _ h fun _ => trivial) q l (RepAll.mono e hM r)
theorem RepAll.mono {M M' : Addr → Prop} {H H' : Hp} (e : Ex M H H') (hM : ∀ a, M a → M' a) : ∀ {vs : List V} {ds : List D}, RepAll M' H vs ds → RepAll M' H' vs ds
  | _, _, .nil => .nil
  | _, _, .cons r t => .cons (Rep.mono e hM r) (RepAll.mono e hM t)
end
mutual
theorem Rep.less {M M' : Addr → Prop} {H : Hp} (hM : ∀ a, M a → M' a) : ∀ {v : V} {d : D}, Rep M' H v d → Rep M H v d
  | _, _, .non => .non
  | _, _, .bl b => .bl b
  | _, _, .int i => .int i
  | _, _, .str x => .str x
  | _, _, .tup h r => .tup h (RepAll.less hM r)
  | _, _, .lst n h r => .lst (fun m => n (hM _ m)) h (RepAll.less hM r)
  | _, _, .dct h => .dct h
  | _, _, .rg h => .rg h
  | _, _, .obj h q l r => .obj h q l (RepAll.less hM r)
theorem RepAll.less {M M' : Addr → Prop} {H : Hp} (hM : ∀ a, M a → M' a) : ∀ {vs : List V} {ds : List D}, RepAll M' H vs ds → RepAll M H vs ds
  | _, _, .nil => .nil
  | _, _, .cons r t => .cons (Rep.less hM r) (RepAll.less hM t)
end
theorem RepAll.length {M : Addr → Prop} {H : Hp} : ∀ {vs : List V} {ds : List D}, RepAll M H vs ds → vs.length = ds.length
  | _, _, .nil => rfl
  | _, _, .cons _ t => by rw [List.length_cons, List.length_cons, RepAll.length t]
theorem RepAll.get {M : Addr → Prop} {H : Hp} : ∀ {vs : List V} {ds : List D} {i : Nat} {d : D}, RepAll M H vs ds → ds[i]? = some d → ∃ v, vs[i]? = some v ∧ Rep M H v d
  | _, _, _, _, .nil, e => by simp at e
  | _, _, 0, _, .cons r _, e => by simp at e; subst e; exact ⟨_, rfl, r⟩
  | _, _, i + 1, d, .cons _ t, e => by
    obtain ⟨v, h, r⟩ := RepAll.get (i := i) (d := d) t (by simpa using e)
    exact ⟨v, by simpa using h, r⟩
theorem RepAll.getV {M : Addr → Prop} {H : Hp} : ∀ {vs : List V} {ds : List D} {i : Nat} {v : V}, RepAll M H vs ds → vs[i]? = some v → ∃ d, ds[i]? = some d ∧ Rep M H v d
  | _, _, _, _, .nil, e => by simp at e
  | _, _, 0, _, .cons r _, e => by simp at e; subst e; exact ⟨_, rfl, r⟩
  | _, _, i + 1, v, .cons _ t, e => by
    obtain ⟨d, h, r⟩ := RepAll.getV (i := i) (v := v) t (by simpa using e)
    exact ⟨d, by simpa using h, r⟩
theorem RepAll.append {M : Addr → Prop} {H : Hp} : ∀ {vs us : List V} {ds es : List D}, RepAll M H vs ds → RepAll M H us es → RepAll M H (vs ++ us) (ds ++ es)
  | _, _, _, _, .nil, s => s
  | _, _, _, _, .cons r t, s => .cons r (RepAll.append t s)
theorem RepAll.take {M : Addr → Prop} {H : Hp} : ∀ {vs : List V} {ds : List D} (n : Nat), RepAll M H vs ds → RepAll M H (vs.take n) (ds.take n)
  | _, _, 0, _ => .nil
  | _, _, _ + 1, .nil => .nil
  | _, _, n + 1, .cons r t => .cons r (RepAll.take n t)
theorem RepAll.drop {M : Addr → Prop} {H : Hp} : ∀ {vs : List V} {ds : List D} (n : Nat), RepAll M H vs ds → RepAll M H (vs.drop n) (ds.drop n)
  | _, _, 0, r => r
  | _, _, _ + 1, .nil => .nil
  | _, _, n + 1, .cons _ t => RepAll.drop n t
theorem RepAll.set {M : Addr → Prop} {H : Hp} {v : V} {d : D} (r : Rep M H v d) : ∀ {vs : List V} {ds : List D} (i : Nat), RepAll M H vs ds → RepAll M H (vs.set i v) (ds.set i d)
  | _, _, _, .nil => .nil
  | _, _, 0, .cons _ t => .cons r t
  | _, _, i + 1, .cons q t => .cons q (RepAll.set r i t)
theorem RepAll.ints {M : Addr → Prop} {H : Hp} : ∀ {vs : List V} {ns : List Int}, RepAll M H vs (ns.map D.int) → vs = ns.map V.int
  | _, [], .nil => rfl
  | _, _ :: _, .cons r t => by cases r; rw [List.map_cons, RepAll.ints t]
theorem RepAll.of_ints {M : Addr → Prop} {H : Hp} : ∀ (ns : List Int), RepAll M H (ns.map V.int) (ns.map D.int)
  | [] => .nil
  | n :: ns => .cons (.int n) (RepAll.of_ints ns)
theorem RepAll.bls {M : Addr → Prop} {H : Hp} : ∀ {vs : List V} {ns : List Bool}, RepAll M H vs (ns.map D.bl) → vs = ns.map V.bl
  | _, [], .nil => rfl
  | _, _ :: _, .cons r t => by cases r; rw [List.map_cons, RepAll.bls t]

/-- what a slot holds: nothing told, data, a list of the def's own at l, a bare value -/
inductive Ent where
  | no | d (d : D) | own (l : Addr) (ds : List D) | odk (l : Addr) (ns : List Int) (ds : List D) | raw (v : V) | frz (p : Addr) (o : Obj) (ns : List Nat)
def ownOf : Ent → Option Addr
  | .own l _ => some l
  | .odk l _ _ => some l
  | _ => none
def owned (G : List Ent) : List Addr := G.filterMap ownOf
/-- the world: the places whose lists may change by calls, what always holds of them -/
structure Wd where
  M : Addr → Prop
  inv : Hp → Prop
  lst : ∀ H a, inv H → M a → ∃ xs, H a = some (.lst xs)
  dep : ∀ H H', inv H → (∀ a o, M a → H a = some o → H' a = some o) → inv H'
/-- no place -/
def Wd.none : Wd := ⟨fun _ => False, fun _ => True, fun _ _ _ m => m.elim, fun _ _ _ _ => trivial⟩
def mo (W : Wd) (L : List Addr) : Addr → Prop := fun a => W.M a ∨ a ∈ L
/-- the items of a dict with keys of ints -/
def kvI (ns : List Int) (vs : List V) : List (Key × V) := (ns.map Sum.inl).zip vs
def EntOk (M : Addr → Prop) (H : Hp) : Option V → Ent → Prop
  | _, .no => True
  | x, .d d => ∃ v, x = some v ∧ Rep M H v d
  | x, .own l ds => x = some (.ref l) ∧ ∃ vs, H l = some (.lst vs) ∧ RepAll M H vs ds
  | x, .odk l ns ds => x = some (.ref l) ∧ ns.length = ds.length ∧ ∃ vs, H l = some (.dK (kvI ns vs)) ∧ RepAll M H vs ds
  | x, .raw v => x = some v
  | x, .frz p o ns => x = some (.ref p) ∧ o.dict = none ∧ H p = some (.frz o (.tup (ns.map fun (k : Nat) => V.int (k : Int))))
inductive EntsOk (M : Addr → Prop) (H : Hp) : L2.St → List Ent → Prop
  | nil : EntsOk M H [] []
  | cons {x : Option V} {σ : L2.St} {e : Ent} {G : List Ent} : EntOk M H x e → EntsOk M H σ G → EntsOk M H (x :: σ) (e :: G)
theorem EntOk.mono {M M' : Addr → Prop} {H H' : Hp} {x : Option V} {e : Ent} (ex : Ex M H H') (hM : ∀ a, M a → M' a) (ho : ∀ l, ownOf e = some l → ¬ M l) (h : EntOk M' H x e) : EntOk M' H' x e := by
  cases e with
  | no => trivial
  | d d => obtain ⟨v, q, r⟩ := h; exact ⟨v, q, r.mono ex hM⟩
  | own l ds => obtain ⟨q, vs, e1, r⟩ := h; exact ⟨q, vs, ex.kp _ _ e1 fun m => absurd m (ho l rfl), r.mono ex hM⟩
  | odk l ns ds => obtain ⟨q, hl, vs, e1, r⟩ := h; exact ⟨q, hl, vs, ex.kp _ _ e1 fun m => absurd m (ho l rfl), r.mono ex hM⟩
  | raw v => exact h
  | frz p o ns => exact ⟨h.1, h.2.1, ex.kp _ _ h.2.2 fun _ => trivial⟩
theorem owned_cons {e : Ent} {G : List Ent} {l : Addr} (h : ownOf e = some l ∨ l ∈ owned G) : l ∈ owned (e :: G) := by
  unfold owned; rw [List.filterMap_cons]
  rcases h with h | h
  · rw [h]; exact List.mem_cons_self ..
  · cases z : ownOf e with
    | none => exact h
    | some b => exact List.mem_cons_of_mem _ h
theorem EntsOk.mono {M M' : Addr → Prop} {H H' : Hp} (ex : Ex M H H') (hM : ∀ a, M a → M' a) {σ : L2.St} {G : List Ent} (ho : ∀ l ∈ owned G, ¬ M l) (k : EntsOk M' H σ G) : EntsOk M' H' σ G := by
  induction k with
  | nil => exact .nil
  | cons h t ih => exact .cons (h.mono ex hM fun l q => ho l (owned_cons (.inl q))) (ih fun l q => ho l (owned_cons (.inr q)))
theorem EntsOk.length {M : Addr → Prop} {H : Hp} : ∀ {σ : L2.St} {G : List Ent}, EntsOk M H σ G → σ.length = G.length
  | _, _, .nil => rfl
  | _, _, .cons _ t => by rw [List.length_cons, List.length_cons, t.length]
theorem EntsOk.get {M : Addr → Prop} {H : Hp} : ∀ {σ : L2.St} {G : List Ent} {i : Nat} {e : Ent}, EntsOk M H σ G → G[i]? = some e → ∃ x, σ[i]? = some x ∧ EntOk M H x e
  | _, _, _, _, .nil, e => by simp at e
  | _, _, 0, _, .cons r _, e => by simp at e; subst e; exact ⟨_, rfl, r⟩
  | _, _, i + 1, e, .cons _ t, q => by
    obtain ⟨v, h, r⟩ := EntsOk.get (i := i) (e := e) t (by simpa using q)
    exact ⟨v, by simpa using h, r⟩
theorem EntsOk.set {M : Addr → Prop} {H : Hp} {x : Option V} {e : Ent} (r : EntOk M H x e) : ∀ {σ : L2.St} {G : List Ent} (i : Nat), EntsOk M H σ G → EntsOk M H (σ.set i x) (G.set i e)
  | _, _, _, .nil => .nil
  | _, _, 0, .cons _ t => .cons r t
  | _, _, i + 1, .cons q t => .cons q (EntsOk.set r i t)
/-- the state of a def: σ, H are told by G -/
structure Env (W : Wd) (X : List Addr) (H : Hp) (σ : L2.St) (G : List Ent) : Prop where
  ok : EntsOk (mo W (X ++ owned G)) H σ G
  nd : (owned G).Nodup
  ap : ∀ l ∈ owned G, ¬ W.M l ∧ l ∉ X
  xs : ∀ l ∈ X, ¬ W.M l ∧ ∃ o, H l = some o
  inv : W.inv H
theorem Env.mono {W : Wd} {X : List Addr} {H H' : Hp} {σ : L2.St} {G : List Ent} (E : Env W X H σ G) (ex : Ex W.M H H') (inv : W.inv H') : Env W X H' σ G :=
  ⟨E.ok.mono ex (fun _ m => .inl m) fun l h => (E.ap l h).1, E.nd, E.ap, fun l h => ⟨(E.xs l h).1, by obtain ⟨o, q⟩ := (E.xs l h).2; exact ex.th l o q⟩, inv⟩

/-! ### readings of expressions -/
def Ev (W : Wd) (G : List Ent) (te : TE) (K : D → Prop) : Prop := ∀ X σ H, Env W X H σ G → ∀ Q : VK, (∀ d v H', K d → Ex W.M H H' → W.inv H' → Rep (mo W (X ++ owned G)) H' v d → Q v H') → te σ H Q
/-- what may be read as a list: data, or a list of the def's own -/
def RepB (Mw M : Addr → Prop) (H : Hp) (v : V) (d : D) : Prop := Rep M H v d ∨ ∃ a vs ds, v = .ref a ∧ d = .lst ds ∧ ¬ Mw a ∧ H a = some (.lst vs) ∧ RepAll M H vs ds
def EvB (W : Wd) (G : List Ent) (te : TE) (K : D → Prop) : Prop := ∀ X σ H, Env W X H σ G → ∀ Q : VK, (∀ d v H', K d → Ex W.M H H' → W.inv H' → RepB W.M (mo W (X ++ owned G)) H' v d → Q v H') → te σ H Q
def EvT (W : Wd) (G : List Ent) (tt : TT) (K : Bool → Prop) : Prop := ∀ X σ H, Env W X H σ G → ∀ Q : Bool → Hp → Prop, (∀ b H', K b → Ex W.M H H' → W.inv H' → Q b H') → tt σ H Q
def EntV (M : Addr → Prop) (H : Hp) : V → Ent → Prop
  | v, .d d => Rep M H v d
  | v, .raw u => v = u
  | _, .frz _ _ _ => False
  | v, .own a ds => v = .ref a ∧ ∃ vs, H a = some (.lst vs) ∧ RepAll M H vs ds
  | _, .odk _ _ _ => False
  | _, .no => True
inductive EntVs (M : Addr → Prop) (H : Hp) : List V → List Ent → Prop
  | nil : EntVs M H [] []
  | cons {v : V} {vs : List V} {e : Ent} {es : List Ent} : EntV M H v e → EntVs M H vs es → EntVs M H (v :: vs) (e :: es)
/-- an argument: data or a bare value -/
def EvE (W : Wd) (G : List Ent) (te : TE) (K : Ent → Prop) : Prop := ∀ X σ H, Env W X H σ G → ∀ Q : VK, (∀ e v H', K e → (∀ a ds, e = .own a ds → a ∈ owned G) → Ex W.M H H' → W.inv H' → EntV (mo W (X ++ owned G)) H' v e → Q v H') → te σ H Q
def EvA (W : Wd) (G : List Ent) (ta : TA) (K : List Ent → Prop) : Prop := ∀ X σ H, Env W X H σ G → ∀ Q : List V → Hp → Prop, (∀ es vs H', K es → (∀ a ds, Ent.own a ds ∈ es → a ∈ owned G) → Ex W.M H H' → W.inv H' → EntVs (mo W (X ++ owned G)) H' vs es → Q vs H') → ta σ H Q

section
variable {W : Wd} {G : List Ent} {ta tb te : TE} {t u : TT} {K : D → Prop}
theorem Ev.mono {K' : D → Prop} (h : Ev W G te K) (k : ∀ d, K d → K' d) : Ev W G te K' := fun X σ H E Q q => h X σ H E Q fun d v H' x => q d v H' (k d x)
theorem EvT.mono {K K' : Bool → Prop} (h : EvT W G t K) (k : ∀ d, K d → K' d) : EvT W G t K' := fun X σ H E Q q => h X σ H E Q fun d H' x => q d H' (k d x)
theorem Ev.b (h : Ev W G te K) : EvB W G te K := fun X σ H E Q q => h X σ H E Q fun d v H' k e i r => q d v H' k e i (.inl r)
theorem Ev.e {K : Ent → Prop} (h : Ev W G te fun d => K (.d d)) : EvE W G te K := fun X σ H E Q q => h X σ H E Q fun d v H' k e i r => q (.d d) v H' k (fun _ _ z => nomatch z) e i r
theorem ev_var {i : Nat} {d : D} (h : G[i]? = some (.d d)) (k : K d) : Ev W G (tVar i) K := fun X σ H E Q q => by
  obtain ⟨x, e, r⟩ := E.ok.get h
  obtain ⟨v, rfl, r⟩ := r
  exact ⟨v, e, q d v H k (Ex.refl _ _) E.inv r⟩
theorem mem_owned {i : Nat} {l : Addr} {ds : List D} (h : G[i]? = some (.own l ds)) : l ∈ owned G := by
  unfold owned
  exact List.mem_filterMap.mpr ⟨_, List.mem_of_getElem? h, rfl⟩
theorem evb_own {i : Nat} {l : Addr} {ds : List D} (h : G[i]? = some (.own l ds)) (k : K (.lst ds)) : EvB W G (tVar i) K := fun X σ H E Q q => by
  obtain ⟨x, e, r⟩ := E.ok.get h
  obtain ⟨rfl, vs, e1, r⟩ := r
  exact ⟨_, e, q _ _ H k (Ex.refl _ _) E.inv (.inr ⟨l, vs, ds, rfl, rfl, (E.ap l (mem_owned h)).1, e1, r⟩)⟩
theorem eve_raw {i : Nat} {v : V} {K : Ent → Prop} (h : G[i]? = some (.raw v)) (k : K (.raw v)) : EvE W G (tVar i) K := fun X σ H E Q q => by
  obtain ⟨x, e, r⟩ := E.ok.get h
  cases r
  exact ⟨_, e, q (.raw v) v H k (fun _ _ z => nomatch z) (Ex.refl _ _) E.inv rfl⟩
theorem eve_own {i : Nat} {l : Addr} {ds : List D} {K : Ent → Prop} (h : G[i]? = some (.own l ds)) (k : K (.own l ds)) : EvE W G (tVar i) K := fun X σ H E Q q => by
  obtain ⟨x, e, r⟩ := E.ok.get h
  obtain ⟨rfl, vs, e1, r⟩ := r
  exact ⟨_, e, q (.own l ds) _ H k (fun a ds' z => by cases z; exact mem_owned h) (Ex.refl _ _) E.inv ⟨rfl, vs, e1, r⟩⟩
theorem ev_int {i : Int} (k : K (.int i)) : Ev W G (tC (.int i)) K := fun X σ H E Q q => q _ _ H k (Ex.refl _ _) E.inv (.int i)
theorem ev_bl {b : Bool} (k : K (.bl b)) : Ev W G (tC (.bl b)) K := fun X σ H E Q q => q _ _ H k (Ex.refl _ _) E.inv (.bl b)
theorem ev_str {x : Str} (k : K (.str x)) : Ev W G (tC (.str x)) K := fun X σ H E Q q => q _ _ H k (Ex.refl _ _) E.inv (.str x)
theorem ev_non (k : K .non) : Ev W G (tC .non) K := fun X σ H E Q q => q _ _ H k (Ex.refl _ _) E.inv .non
theorem eve_c {v : V} {K : Ent → Prop} (k : K (.raw v)) : EvE W G (tC v) K := fun X σ H E Q q => q (.raw v) v H k (fun _ _ z => nomatch z) (Ex.refl _ _) E.inv rfl

/-! arguments -/
theorem eva_nil {K : List Ent → Prop} (k : K []) : EvA W G tNil K := fun X σ H E Q q => q [] [] H k (fun _ _ z => nomatch z) (Ex.refl _ _) E.inv .nil
theorem EntV.mono {M M' : Addr → Prop} {H H' : Hp} {v : V} {e : Ent} (ex : Ex M H H') (hM : ∀ a, M a → M' a) (ho : ∀ l ds, e = .own l ds → ¬ M l) (h : EntV M' H v e) : EntV M' H' v e := by
  cases e with
  | no => trivial
  | d d => exact Rep.mono ex hM h
  | own l ds => obtain ⟨q, vs, e1, r⟩ := h; exact ⟨q, vs, ex.kp _ _ e1 fun m => absurd m (ho l ds rfl), r.mono ex hM⟩
  | odk l ns ds => exact h.elim
  | raw v => exact h
  | frz _ _ _ => exact h.elim
theorem EntVs.mono {M M' : Addr → Prop} {H H' : Hp} (ex : Ex M H H') (hM : ∀ a, M a → M' a) : ∀ {vs : List V} {es : List Ent}, (∀ l ds, Ent.own l ds ∈ es → ¬ M l) → EntVs M' H vs es → EntVs M' H' vs es
  | _, _, _, .nil => .nil
  | _, _, ho, .cons h t => .cons (h.mono ex hM fun l ds q => ho l ds (by rw [q]; exact List.mem_cons_self ..)) (t.mono ex hM fun l ds q => ho l ds (List.mem_cons_of_mem _ q))
theorem eva_cons {tr : TA} {K : List Ent → Prop} (h : EvE W G ta fun e => EvA W G tr fun es => K (e :: es)) : EvA W G (tCons ta tr) K := fun X σ H E Q q =>
  h X σ H E _ fun e v H1 k ho ex i r => k X σ H1 (E.mono ex i) _ fun es vs H2 k2 ho2 ex2 i2 r2 => q (e :: es) (v :: vs) H2 k2 (fun a ds z => by
    rcases List.mem_cons.mp z with z | z
    · exact ho a ds z.symm
    · exact ho2 a ds z) (ex.trans ex2) i2 (.cons (EntV.mono ex2 (fun _ m => .inl m) (fun l ds z => (E.ap l (ho l ds z)).1) r) r2)
/-! operators -/
/-- a two-place operation of data (lists may be the def's own) -/
def OpD (r : R2) (x y : D) (K : D → Prop) : Prop := ∀ (Mw M : Addr → Prop) (v u : V) (H : Hp), RepB Mw M H v x → RepB Mw M H u y → (∀ a, M a → ∃ o, H a = some o) → ∀ Q : VK, (∀ d z H', K d → (∀ M' : Addr → Prop, Ex M' H H') → Rep M H' z d → Q z H') → r v u H Q
/-- a call upon data -/
def CallD (r : List V → Hp → VK → Prop) (es : List Ent) (K : D → Prop) : Prop := ∀ (M : Addr → Prop) (vs : List V) (H : Hp), EntVs M H vs es → (∀ a, M a → ∃ o, H a = some o) → ∀ Q : VK, (∀ d z H', K d → (∀ M' : Addr → Prop, Ex M' H H') → Rep M H' z d → Q z H') → r vs H Q
theorem inv_same {W : Wd} {H H' : Hp} (i : W.inv H) (e : ∀ M : Addr → Prop, Ex M H H') : W.inv H' := W.dep H H' i fun a o _ q => (e fun _ => False).kp a o q fun m => m.elim
theorem mo_there {W : Wd} {H : Hp} {X : List Addr} {σ : L2.St} {G : List Ent} (E : Env W X H σ G) : ∀ a, mo W (X ++ owned G) a → ∃ o, H a = some o := fun a m => by
  rcases m with m | m
  · obtain ⟨xs, e⟩ := W.lst H a E.inv m; exact ⟨_, e⟩
  rcases List.mem_append.mp m with m | m
  · exact (E.xs a m).2
  · unfold owned at m
    obtain ⟨e, he, z⟩ := List.mem_filterMap.mp m
    cases e with
    | own l ds =>
      cases z
      obtain ⟨i, hi⟩ := List.getElem?_of_mem he
      obtain ⟨x, _, r⟩ := E.ok.get hi
      obtain ⟨_, vs, e1, _⟩ := r
      exact ⟨_, e1⟩
    | odk l ns ds =>
      cases z
      obtain ⟨i, hi⟩ := List.getElem?_of_mem he
      obtain ⟨x, _, r⟩ := E.ok.get hi
      obtain ⟨_, _, vs, e1, _⟩ := r
      exact ⟨_, e1⟩
    | no => cases z
    | d d => cases z
    | raw v => cases z
    | frz _ _ _ => cases z
theorem RepB.mono {W : Wd} {X : List Addr} {H H' : Hp} {G : List Ent} {v : V} {d : D} (ex : Ex W.M H H') (h : RepB W.M (mo W (X ++ owned G)) H v d) : RepB W.M (mo W (X ++ owned G)) H' v d := by
  rcases h with h | ⟨a, vs, ds, e1, e2, n, e3, r⟩
  · exact .inl (h.mono ex fun _ m => .inl m)
  · exact .inr ⟨a, vs, ds, e1, e2, n, ex.kp a _ e3 fun m => absurd m n, r.mono ex fun _ m => .inl m⟩
theorem ev_opB {r : R2} (h : EvB W G ta fun x => EvB W G tb fun y => OpD r x y K) : Ev W G (tOp r ta tb) K := fun X σ H E Q q =>
  h X σ H E _ fun x v H1 k e1 i1 r1 => k X σ H1 (E.mono e1 i1) _ fun y u H2 k2 e2 i2 r2 => by
    have E2 := (E.mono e1 i1).mono e2 i2
    exact k2 W.M (mo W (X ++ owned G)) v u H2 (r1.mono e2) r2 (mo_there E2) Q fun d z H' k3 ex r3 => q d z H' k3 ((e1.trans e2).trans (ex _)) (inv_same i2 ex) r3
theorem ev_op {r : R2} (h : Ev W G ta fun x => Ev W G tb fun y => OpD r x y K) : Ev W G (tOp r ta tb) K :=
  ev_opB fun X σ H E Q q => h X σ H E _ fun d v H' k => q d v H' (fun X σ H E Q q => k X σ H E _ fun d v H' k e i r => q d v H' k e i (.inl r)) |> fun f e i r => f e i (.inl r)
theorem ev_cb {r : List V → Hp → VK → Prop} {t : TA} (h : EvA W G t fun es => CallD r es K) : Ev W G (tCB r t) K := fun X σ H E Q q =>
  h X σ H E _ fun es vs H1 k ho e1 i1 r1 => k (mo W (X ++ owned G)) vs H1 r1 (mo_there (E.mono e1 i1)) Q fun d z H' k3 ex r3 => q d z H' k3 (e1.trans (ex _)) (inv_same i1 ex) r3
theorem RepB.int {Mw M : Addr → Prop} {H : Hp} {v : V} {i : Int} (h : RepB Mw M H v (.int i)) : v = .int i := by
  rcases h with h | ⟨_, _, _, _, e, _⟩
  · cases h; rfl
  · cases e
theorem RepB.bl {Mw M : Addr → Prop} {H : Hp} {v : V} {i : Bool} (h : RepB Mw M H v (.bl i)) : v = .bl i := by
  rcases h with h | ⟨_, _, _, _, e, _⟩
  · cases h; rfl
  · cases e
theorem RepB.str {Mw M : Addr → Prop} {H : Hp} {v : V} {i : Str} (h : RepB Mw M H v (.str i)) : v = .str i := by
  rcases h with h | ⟨_, _, _, _, e, _⟩
  · cases h; rfl
  · cases e
theorem RepB.non {Mw M : Addr → Prop} {H : Hp} {v : V} (h : RepB Mw M H v .non) : v = .non := by
  rcases h with h | ⟨_, _, _, _, e, _⟩
  · cases h; rfl
  · cases e
theorem RepB.tup {Mw M : Addr → Prop} {H : Hp} {v : V} {ds : List D} (h : RepB Mw M H v (.tup ds)) : ∃ a vs, v = .ref a ∧ Rd H a (.tup vs) ∧ RepAll M H vs ds := by
  rcases h with h | ⟨_, _, _, _, e, _⟩
  · cases h with | tup h r => exact ⟨_, _, rfl, h, r⟩
  · cases e
theorem RepB.lst {Mw M : Addr → Prop} {H : Hp} {v : V} {ds : List D} (h : RepB Mw M H v (.lst ds)) : ∃ a vs, v = .ref a ∧ H a = some (.lst vs) ∧ RepAll M H vs ds := by
  rcases h with h | ⟨a, vs, _, rfl, e, _, h, r⟩
  · cases h with | lst n h r => exact ⟨_, _, rfl, h, r⟩
  · cases e; exact ⟨a, vs, rfl, h, r⟩
theorem OpD.int {g : Int → Int → V} {i j : Int} {d : D} (hd : ∀ M H, Rep M H (g i j) d) (k : K d) : OpD (rI0 g) (.int i) (.int j) K := fun Mw M v u H r1 r2 th Q q => by
  rw [r1.int, r2.int]
  exact ⟨i, j, rfl, rfl, q d _ H k (fun _ => Ex.refl _ _) (hd M H)⟩
theorem OpD.intC {C : Int → Int → Prop} {g : Int → Int → V} {i j : Int} {d : D} (hc : C i j) (hd : ∀ M H, Rep M H (g i j) d) (k : K d) : OpD (rI C g) (.int i) (.int j) K := fun Mw M v u H r1 r2 th Q q => by
  rw [r1.int, r2.int]
  exact ⟨i, j, rfl, rfl, hc, q d _ H k (fun _ => Ex.refl _ _) (hd M H)⟩
end
end Pd

namespace Pd
open PySem L2

/-! ### statements -/
structure Ok (W : Wd) (X N : List Addr) (H0 H : Hp) (σ : L2.St) (G : List Ent) : Prop where
  env : Env W X H σ G
  ex : Ex (mo W N) H0 H
  nw : ∀ l ∈ owned G, H0 l = none ∨ l ∈ N
theorem Ex.up {W : Wd} {N : List Addr} {H H' : Hp} (e : Ex W.M H H') : Ex (mo W N) H H' := e.weak fun _ m => .inl m
theorem Ok.mono {W : Wd} {X N : List Addr} {H0 H H' : Hp} {σ : L2.St} {G : List Ent} (o : Ok W X N H0 H σ G) (ex : Ex W.M H H') (inv : W.inv H') : Ok W X N H0 H' σ G :=
  ⟨o.env.mono ex inv, o.ex.trans ex.up, o.nw⟩
theorem Ok.base {W : Wd} {X : List Addr} {H : Hp} {σ : L2.St} {G : List Ent} (e : Env W X H σ G) : Ok W X (owned G) H H σ G := ⟨e, Ex.refl _ _, fun _ h => .inr h⟩
theorem Ok.exb {W : Wd} {X N : List Addr} {H0 H H' : Hp} {σ : L2.St} {G : List Ent} (o : Ok W X N H0 H σ G) (ex : Ex (mo W (owned G)) H H') : Ex (mo W N) H0 H' := ⟨fun a u q k =>
  ex.kp a u (o.ex.kp a u q k) fun m => by
    rcases m with m | m
    · exact k (.inl m)
    · rcases o.nw a m with z | z
      · rw [z] at q; cases q
      · exact k (.inr z), fun a u q => by
  obtain ⟨u1, q1⟩ := o.ex.th a u q
  exact ex.th a u1 q1, fun a u q => by
  obtain ⟨u1, q1⟩ := o.ex.dk a u q
  exact ex.dk a u1 q1⟩
theorem Ok.back {W : Wd} {X N : List Addr} {H0 H H' : Hp} {σ σ' : L2.St} {G G' : List Ent} (o : Ok W X N H0 H σ G) (i : Ok W X (owned G) H H' σ' G') : Ok W X N H0 H' σ' G' := by
  refine ⟨i.env, o.exb i.ex, fun l hl => ?_⟩
  rcases i.nw l hl with z | z
  · exact .inl (o.ex.none z)
  · exact o.nw l z
/-- what an exception carries: nothing, or fields by name -/
def ExR (M : Addr → Prop) (H : Hp) (d : Option Addr) (fs : List (Str × D)) : Prop := (d = none ∧ fs = []) ∨ ∃ dd vs, d = some dd ∧ fs ≠ [] ∧ H dd = some (.xd ((fs.map (·.1)).zip vs)) ∧ RepAll M H vs (fs.map (·.2))
theorem ExR.less {M M' : Addr → Prop} {H : Hp} {d : Option Addr} {fs : List (Str × D)} (hM : ∀ a, M a → M' a) (h : ExR M' H d fs) : ExR M H d fs := by
  rcases h with h | ⟨dd, vs, e, n, q, r⟩
  · exact .inl h
  · exact .inr ⟨dd, vs, e, n, q, r.less hM⟩
structure Post where
  nx : List Ent → Prop
  rt : D → Prop
  bk : List Ent → Prop := fun _ => False
  ct : List Ent → Prop := fun _ => False
  ex : List Ent → Addr → List (Str × D) → Prop := fun _ _ _ => False
  wx : WX := fun _ _ _ _ => False
  rl : List D → Prop := fun _ => False
structure Meets (W : Wd) (X N : List Addr) (H0 : Hp) (E : Post) (D : Ends) : Prop where
  nx : ∀ G σ H, E.nx G → Ok W X N H0 H σ G → D.nx σ H
  bk : ∀ G σ H, E.bk G → Ok W X N H0 H σ G → D.bk σ H
  ct : ∀ G σ H, E.ct G → Ok W X N H0 H σ G → D.ct σ H
  rt : ∀ d v H, E.rt d → Ex (mo W N) H0 H → W.inv H → Rep (mo W X) H v d → D.rt v H
  ex : ∀ G C fs d σ H, E.ex G C fs → Ok W X N H0 H σ G → ExR (mo W (X ++ owned G)) H d fs → E.wx (.ref C) d σ H
  rl : ∀ ds p vs H, E.rl ds → (H0 p = none ∨ p ∈ N) → Ex (mo W N) H0 H → W.inv H → H p = some (.lst vs) → ¬ W.M p → p ∉ X → RepAll (fun a => a = p ∨ mo W X a) H vs ds → D.rt (.ref p) H
def St (W : Wd) (G : List Ent) (ts : TS) (E : Post) : Prop := ∀ X N H0 σ H, Ok W X N H0 H σ G → ∀ D : Ends, Meets W X N H0 E D → ts D σ H

theorem owned_set {G : List Ent} {i : Nat} {e : Ent} (he : ownOf e = none) : (owned (G.set i e)).Sublist (owned G) := by
  induction G generalizing i with
  | nil => simp
  | cons x G ih =>
    cases i with
    | zero =>
      show (List.filterMap ownOf (e :: G)).Sublist (List.filterMap ownOf (x :: G))
      rw [List.filterMap_cons, he, List.filterMap_cons]
      cases ownOf x with
      | none => exact List.Sublist.refl _
      | some b => exact List.sublist_cons_self _ _
    | succ i =>
      show (List.filterMap ownOf (x :: G.set i e)).Sublist (List.filterMap ownOf (x :: G))
      rw [List.filterMap_cons, List.filterMap_cons]
      cases ownOf x with
      | none => exact ih
      | some b => exact List.Sublist.cons₂ b ih
theorem EntOk.less {M M' : Addr → Prop} {H : Hp} {x : Option V} {e : Ent} (hM : ∀ a, M a → M' a) (h : EntOk M' H x e) : EntOk M H x e := by
  cases e with
  | no => trivial
  | d d => obtain ⟨v, q, r⟩ := h; exact ⟨v, q, r.less hM⟩
  | own l ds => obtain ⟨q, vs, e1, r⟩ := h; exact ⟨q, vs, e1, r.less hM⟩
  | odk l ns ds => obtain ⟨q, hl, vs, e1, r⟩ := h; exact ⟨q, hl, vs, e1, r.less hM⟩
  | raw v => exact h
  | frz p o ns => exact h
theorem EntsOk.less {M M' : Addr → Prop} {H : Hp} (hM : ∀ a, M a → M' a) {σ : L2.St} {G : List Ent} (h : EntsOk M' H σ G) : EntsOk M H σ G := by
  induction h with
  | nil => exact .nil
  | cons h t ih => exact .cons (h.less hM) ih
theorem mo_sub {W : Wd} {L L' : List Addr} (h : ∀ a ∈ L, a ∈ L') : ∀ a, mo W L a → mo W L' a := fun a m => m.imp id (h a)
/-- a slot gets data -/
theorem Ok.put {W : Wd} {X N : List Addr} {H0 H : Hp} {σ : L2.St} {G : List Ent} {i : Nat} {d : D} {v : V} (o : Ok W X N H0 H σ G) (r : Rep (mo W (X ++ owned G)) H v d) : Ok W X N H0 H (σ.set i (some v)) (G.set i (.d d)) := by
  have s := owned_set (G := G) (i := i) (e := .d d) rfl
  have sub : ∀ a, mo W (X ++ owned (G.set i (.d d))) a → mo W (X ++ owned G) a := mo_sub (List.append_subset.mpr ⟨List.subset_append_left _ _, fun a h => List.mem_append_right _ (s.subset h)⟩)
  refine ⟨⟨(EntsOk.set (x := some v) (e := .d d) ⟨v, rfl, r⟩ i o.env.ok).less sub, s.nodup o.env.nd, fun l h => o.env.ap l (s.subset h), o.env.xs, o.env.inv⟩, o.ex, fun l h => o.nw l (s.subset h)⟩
theorem Ok.putNo {W : Wd} {X N : List Addr} {H0 H : Hp} {σ : L2.St} {G : List Ent} {i : Nat} {x : Option V} (o : Ok W X N H0 H σ G) : Ok W X N H0 H (σ.set i x) (G.set i .no) := by
  have s := owned_set (G := G) (i := i) (e := .no) rfl
  have sub : ∀ a, mo W (X ++ owned (G.set i .no)) a → mo W (X ++ owned G) a := mo_sub (List.append_subset.mpr ⟨List.subset_append_left _ _, fun a h => List.mem_append_right _ (s.subset h)⟩)
  exact ⟨⟨(EntsOk.set (x := x) (e := .no) trivial i o.env.ok).less sub, s.nodup o.env.nd, fun l h => o.env.ap l (s.subset h), o.env.xs, o.env.inv⟩, o.ex, fun l h => o.nw l (s.subset h)⟩
theorem Ok.putRaw {W : Wd} {X N : List Addr} {H0 H : Hp} {σ : L2.St} {G : List Ent} {i : Nat} {v : V} (o : Ok W X N H0 H σ G) : Ok W X N H0 H (σ.set i (some v)) (G.set i (.raw v)) := by
  have s := owned_set (G := G) (i := i) (e := .raw v) rfl
  have sub : ∀ a, mo W (X ++ owned (G.set i (.raw v))) a → mo W (X ++ owned G) a := mo_sub (List.append_subset.mpr ⟨List.subset_append_left _ _, fun a h => List.mem_append_right _ (s.subset h)⟩)
  exact ⟨⟨(EntsOk.set (x := some v) (e := .raw v) rfl i o.env.ok).less sub, s.nodup o.env.nd, fun l h => o.env.ap l (s.subset h), o.env.xs, o.env.inv⟩, o.ex, fun l h => o.nw l (s.subset h)⟩

section
variable {W : Wd} {G : List Ent} {te ta tb : TE} {tt : TT} {t u : TS} {E : Post}
theorem st_seq (h : St W G t { E with nx := fun G' => St W G' u E }) : St W G (tSeq t u) E := fun X N H0 σ H o D m =>
  h X N H0 σ H o _ ⟨fun G' σ' H' q o' => q X N H0 σ' H' o' D m, m.bk, m.ct, m.rt, m.ex, m.rl⟩
theorem st_cut (M : List Ent → Prop) (h : St W G t { E with nx := M }) (k : ∀ G', M G' → St W G' u E) : St W G (tSeq t u) E :=
  st_seq (E := E) fun X N H0 σ H o D m => h X N H0 σ H o D ⟨fun G' σ' H' q o' => m.nx G' σ' H' (k G' q) o', m.bk, m.ct, m.rt, m.ex, m.rl⟩
theorem st_next (h : E.nx G) : St W G tNext E := fun X N H0 σ H o D m => m.nx G σ H h o
theorem st_brk (h : E.bk G) : St W G tBreak E := fun X N H0 σ H o D m => m.bk G σ H h o
theorem st_cont (h : E.ct G) : St W G tCont E := fun X N H0 σ H o D m => m.ct G σ H h o
theorem st_asg {i : Nat} (h : Ev W G te fun d => E.nx (G.set i (.d d))) : St W G (tAsg te (gName i)) E := fun X N H0 σ H o D m =>
  h X σ H o.env _ fun d v H' k ex inv r => m.nx _ _ H' k ((o.mono ex inv).put r)
theorem st_asgE {i : Nat} (h : EvE W G te fun e => ∃ v, e = .raw v ∧ E.nx (G.set i (.raw v))) : St W G (tAsg te (gName i)) E := fun X N H0 σ H o D m =>
  h X σ H o.env _ fun e v H' k _ ex inv r => by
    obtain ⟨u, rfl, k⟩ := k
    cases r
    exact m.nx _ _ H' k (o.mono ex inv).putRaw
theorem st_ret (h : Ev W G te E.rt) : St W G (tRet te) E := fun X N H0 σ H o D m =>
  h X σ H o.env _ fun d v H' k ex inv r => m.rt d v H' k (o.ex.trans ex.up) inv (r.less fun _ q => q.imp id fun z => List.mem_append_left _ z)
theorem st_retOwn {i : Nat} {l : Addr} {ds : List D} (h : G[i]? = some (.own l ds)) (k : E.rt (.lst ds)) : St W G (tRet (tVar i)) E := fun X N H0 σ H o D m => by
  obtain ⟨x, e, r⟩ := o.env.ok.get h
  obtain ⟨rfl, vs, e1, r⟩ := r
  exact ⟨_, e, m.rt _ _ H k o.ex o.env.inv (.lst (fun z => z.elim (o.env.ap l (mem_owned h)).1 (o.env.ap l (mem_owned h)).2) e1 (r.less fun _ q => q.imp id fun z => List.mem_append_left _ z))⟩
theorem st_retOwnL {i : Nat} {l : Addr} {ds : List D} (h : G[i]? = some (.own l ds)) (k : E.rl ds) : St W G (tRet (tVar i)) E := fun X N H0 σ H o D m => by
  obtain ⟨x, e, r⟩ := o.env.ok.get h
  obtain ⟨rfl, vs, e1, r⟩ := r
  exact ⟨_, e, m.rl ds l vs H k (o.nw l (mem_owned h)) o.ex o.env.inv e1 (o.env.ap l (mem_owned h)).1 (o.env.ap l (mem_owned h)).2 (r.less fun a q => by
    rcases q with z | z | z
    · exact .inr (List.mem_append_right _ (by rw [z]; exact mem_owned h))
    · exact .inl z
    · exact .inr (List.mem_append_left _ z))⟩
theorem st_retN (h : E.rt .non) : St W G tRetN E := fun X N H0 σ H o D m => m.rt .non .non H h o.ex o.env.inv .non
theorem st_if (h : EvT W G tt fun b => (b = true → St W G t E) ∧ (b = false → St W G u E)) : St W G (tIfS tt t u) E := fun X N H0 σ H o D m =>
  h X σ H o.env _ fun b H' k ex inv => by
    cases b with
    | true => exact k.1 rfl X N H0 σ H' (o.mono ex inv) D m
    | false => exact k.2 rfl X N H0 σ H' (o.mono ex inv) D m
theorem st_drop (h : Ev W G te fun _ => E.nx G) : St W G (tDrop te) E := fun X N H0 σ H o D m =>
  h X σ H o.env _ fun d v H' k ex inv r => m.nx _ _ H' k (o.mono ex inv)
theorem St.mono {E' : Post} (h : St W G t E) (nx : ∀ G, E.nx G → E'.nx G) (rt : ∀ d, E.rt d → E'.rt d) (bk : ∀ G, E.bk G → E'.bk G) (ct : ∀ G, E.ct G → E'.ct G) (ex : ∀ G C fs, E.ex G C fs → E'.ex G C fs := by intro _ _ _ z; exact z) (wx : E'.wx = E.wx := by rfl) (rl : ∀ ds, E.rl ds → E'.rl ds := by intro _ z; exact z) : St W G t E' := fun X N H0 σ H o D m =>
  h X N H0 σ H o D ⟨fun G σ H k => m.nx G σ H (nx G k), fun G σ H k => m.bk G σ H (bk G k), fun G σ H k => m.ct G σ H (ct G k), fun d v H k => m.rt d v H (rt d k), fun G C fs d σ H k o r => by rw [← wx]; exact m.ex G C fs d σ H (ex G C fs k) o r, fun ds p vs H k => m.rl ds p vs H (rl ds k)⟩
/-- what is told of a slot may be forgotten, an own list frozen -/
theorem Ok.freeze {X N : List Addr} {H0 H : Hp} {σ : L2.St} {i : Nat} {l : Addr} {ds : List D} (o : Ok W X N H0 H σ G) (h : G[i]? = some (.own l ds)) : Ok W X N H0 H σ (G.set i (.d (.lst ds))) := by
  obtain ⟨x, e, r⟩ := o.env.ok.get h
  obtain ⟨rfl, vs, e1, r⟩ := r
  have s := owned_set (G := G) (i := i) (e := .d (.lst ds)) rfl
  have sub : ∀ a, mo W (X ++ owned (G.set i (.d (.lst ds)))) a → mo W (X ++ owned G) a := mo_sub (List.append_subset.mpr ⟨List.subset_append_left _ _, fun a h => List.mem_append_right _ (s.subset h)⟩)
  have nl : l ∉ owned (G.set i (.d (.lst ds))) := by
    have nd := o.env.nd
    clear s sub e o r e1
    induction G generalizing i with
    | nil => simp at h
    | cons x G ih =>
      cases i with
      | zero =>
        have hx : x = .own l ds := by simpa using h
        subst hx
        unfold owned at nd
        rw [List.filterMap_cons] at nd
        have nd2 : (l :: G.filterMap ownOf).Nodup := nd
        have q := (List.nodup_cons.mp nd2).1
        show l ∉ List.filterMap ownOf (Ent.d (.lst ds) :: G)
        rw [List.filterMap_cons]
        exact q
      | succ i =>
        have h' : G[i]? = some (.own l ds) := by simpa using h
        have hm : l ∈ owned G := mem_owned h'
        show l ∉ List.filterMap ownOf (x :: G.set i (.d (.lst ds)))
        unfold owned at nd
        rw [List.filterMap_cons] at nd
        rw [List.filterMap_cons]
        cases hx : ownOf x with
        | none => rw [hx] at nd; exact ih h' nd
        | some b =>
          rw [hx] at nd
          have nd2 : (b :: G.filterMap ownOf).Nodup := nd
          obtain ⟨n1, n2⟩ := List.nodup_cons.mp nd2
          intro z
          rcases List.mem_cons.mp z with z | z
          · subst z; exact n1 hm
          · exact ih h' n2 z
  have en := EntsOk.set (x := some (.ref l)) (e := .d (.lst ds)) (M := mo W (X ++ owned (G.set i (.d (.lst ds))))) (H := H) ⟨_, rfl, .lst (fun m => m.elim (o.env.ap l (mem_owned h)).1 fun z => (List.mem_append.mp z).elim (o.env.ap l (mem_owned h)).2 nl) e1 (r.less sub)⟩ i (o.env.ok.less sub)
  have es : σ.set i (some (.ref l)) = σ := by
    refine List.ext_getElem? fun j => ?_
    by_cases hj : i = j
    · subst hj
      have hl : i < σ.length := (List.getElem?_eq_some_iff.mp e).1
      rw [List.getElem?_set_self hl, e]
    · rw [List.getElem?_set_ne hj]
  rw [es] at en
  exact ⟨⟨en, s.nodup o.env.nd, fun b q => o.env.ap b (s.subset q), o.env.xs, o.env.inv⟩, o.ex, fun b q => o.nw b (s.subset q)⟩
theorem st_freeze (i : Nat) {l : Addr} {ds : List D} (h : G[i]? = some (.own l ds)) (k : St W (G.set i (.d (.lst ds))) t E) : St W G t E := fun X N H0 σ H o D m => k X N H0 σ H (o.freeze h) D m
end

/-! ### new lists -/
/-- a reading that makes a new list -/
def EvL (W : Wd) (G : List Ent) (te : TE) (K : List D → Prop) : Prop := ∀ X σ H, Env W X H σ G → ∀ Q : VK, (∀ ds p vs H', K ds → H p = none → Ex W.M H H' → W.inv H' → H' p = some (.lst vs) → ¬ W.M p → RepAll (fun a => a = p ∨ mo W (X ++ owned G) a) H' vs ds → Q (.ref p) H') → te σ H Q
theorem owned_setOwn {G : List Ent} {i : Nat} {l : Addr} {ds : List D} : ∀ b ∈ owned (G.set i (.own l ds)), b = l ∨ b ∈ owned G := by
  intro b hb
  unfold owned at hb ⊢
  obtain ⟨e, he, z⟩ := List.mem_filterMap.mp hb
  rcases List.mem_or_eq_of_mem_set he with q | q
  · exact .inr (List.mem_filterMap.mpr ⟨e, q, z⟩)
  · subst q; cases z; exact .inl rfl
theorem nodup_setOwn {G : List Ent} {i : Nat} {l : Addr} {ds : List D} (nd : (owned G).Nodup) (nl : l ∉ owned G) : (owned (G.set i (.own l ds))).Nodup := by
  induction G generalizing i with
  | nil => simp [owned]
  | cons x G ih =>
    unfold owned at nd nl
    rw [List.filterMap_cons] at nd nl
    cases i with
    | zero =>
      show (List.filterMap ownOf (Ent.own l ds :: G)).Nodup
      rw [List.filterMap_cons]
      cases hx : ownOf x with
      | none =>
        rw [hx] at nd nl
        exact List.nodup_cons.mpr ⟨nl, nd⟩
      | some b =>
        rw [hx] at nd nl
        have nd2 : (b :: G.filterMap ownOf).Nodup := nd
        exact List.nodup_cons.mpr ⟨fun z => nl (List.mem_cons_of_mem _ z), (List.nodup_cons.mp nd2).2⟩
    | succ i =>
      show (List.filterMap ownOf (x :: G.set i (.own l ds))).Nodup
      rw [List.filterMap_cons]
      cases hx : ownOf x with
      | none => rw [hx] at nd nl; exact ih nd nl
      | some b =>
        rw [hx] at nd nl
        have nd2 : (b :: G.filterMap ownOf).Nodup := nd
        obtain ⟨n1, n2⟩ := List.nodup_cons.mp nd2
        refine List.nodup_cons.mpr ⟨fun z => ?_, ih n2 fun z => nl (List.mem_cons_of_mem _ z)⟩
        rcases owned_setOwn b z with q | q
        · subst q; exact nl (List.mem_cons_self ..)
        · exact n1 q
theorem mutSub {W : Wd} {X : List Addr} {G : List Ent} {i : Nat} {l : Addr} {ds : List D} (a : Addr) (m : mo W (X ++ owned (G.set i (.own l ds))) a) : a = l ∨ mo W (X ++ owned G) a := by
  rcases m with m | m
  · exact .inr (.inl m)
  · rcases List.mem_append.mp m with m | m
    · exact .inr (.inr (List.mem_append_left _ m))
    · rcases owned_setOwn a m with z | z
      · exact .inl z
      · exact .inr (.inr (List.mem_append_right _ z))
mutual
theorem Rep.avoid {M M' : Addr → Prop} {H : Hp} {p : Addr} (hp : ∀ xs, H p ≠ some (.lst xs)) (hM : ∀ a, M' a → a = p ∨ M a) : ∀ {v : V} {d : D}, Rep M H v d → Rep M' H v d
  | _, _, .non => .non
  | _, _, .bl b => .bl b
  | _, _, .int i => .int i
  | _, _, .str x => .str x
  | _, _, .tup h r => .tup h (RepAll.avoid hp hM r)
  | _, _, .lst n h r => .lst (fun m => by
      rcases hM _ m with z | z
      · rw [z] at h; exact hp _ h
      · exact n z) h (RepAll.avoid hp hM r)
  | _, _, .dct h => .dct h
  | _, _, .rg h => .rg h
  | _, _, .obj h q l r => .obj h q l (RepAll.avoid hp hM r)
theorem RepAll.avoid {M M' : Addr → Prop} {H : Hp} {p : Addr} (hp : ∀ xs, H p ≠ some (.lst xs)) (hM : ∀ a, M' a → a = p ∨ M a) : ∀ {vs : List V} {ds : List D}, RepAll M H vs ds → RepAll M' H vs ds
  | _, _, .nil => .nil
  | _, _, .cons r t => .cons (Rep.avoid hp hM r) (RepAll.avoid hp hM t)
end
mutual
/-- behind a change at a place that is avoided -/
theorem Rep.upd' {M M' : Addr → Prop} {H H' : Hp} {p : Addr} (hk : ∀ a o, a ≠ p → H a = some o → H' a = some o) (hp : ∀ o, H p = some o → ∃ xs, o = .lst xs) (hM : ∀ a, M' a → a = p ∨ M a) (ha : M p) : ∀ {v : V} {d : D}, Rep M H v d → Rep M' H' v d
  | _, _, .non => .non
  | _, _, .bl b => .bl b
  | _, _, .int i => .int i
  | _, _, .str x => .str x
  | _, _, .tup h r => .tup (h.imp (fun h => hk _ _ (fun z => by rw [z] at h; obtain ⟨xs, e⟩ := hp _ h; cases e) h) fun ⟨o, h⟩ => ⟨o, hk _ _ (fun z => by rw [z] at h; obtain ⟨xs, e⟩ := hp _ h; cases e) h⟩) (RepAll.upd' hk hp hM ha r)
  | _, _, .lst n h r => .lst (fun m => by
      rcases hM _ m with z | z
      · rw [z] at n; exact n ha
      · exact n z) (hk _ _ (fun z => by rw [z] at n; exact n ha) h) (RepAll.upd' hk hp hM ha r)
  | _, _, .dct h => .dct (hk _ _ (fun z => by rw [z] at h; obtain ⟨xs, e⟩ := hp _ h; cases e) h)
  | _, _, .rg h => .rg (hk _ _ (fun z => by rw [z] at h; obtain ⟨xs, e⟩ := hp _ h; cases e) h)
  | _, _, .obj h q l r => .obj (hk _ _ (fun z => by rw [z] at h; obtain ⟨xs, e⟩ := hp _ h; cases e) h) q l (RepAll.upd' hk hp hM ha r)
theorem RepAll.upd' {M M' : Addr → Prop} {H H' : Hp} {p : Addr} (hk : ∀ a o, a ≠ p → H a = some o → H' a = some o) (hp : ∀ o, H p = some o → ∃ xs, o = .lst xs) (hM : ∀ a, M' a → a = p ∨ M a) (ha : M p) : ∀ {vs : List V} {ds : List D}, RepAll M H vs ds → RepAll M' H' vs ds
  | _, _, .nil => .nil
  | _, _, .cons r t => .cons (Rep.upd' hk hp hM ha r) (RepAll.upd' hk hp hM ha t)
end
section
variable {W : Wd} {G : List Ent} {te ta tb : TE} {E : Post}
theorem new_ne {H : Hp} {W : Wd} {p : Addr} (i : W.inv H) (h : H p = none) : ¬ W.M p := fun m => by
  obtain ⟨xs, e⟩ := W.lst H p i m
  rw [h] at e; cases e
theorem own_neX {X : List Addr} {H : Hp} {σ : L2.St} {p : Addr} (e : Env W X H σ G) (h : H p = none) : p ∉ X ++ owned G := fun m => by
  obtain ⟨o, q⟩ := mo_there e p (.inr m)
  rw [h] at q; cases q
theorem own_ne {X : List Addr} {H : Hp} {σ : L2.St} {p : Addr} (e : Env W X H σ G) (h : H p = none) : p ∉ owned G := fun m => own_neX e h (List.mem_append_right _ m)
theorem EvL.ev {K : D → Prop} (h : EvL W G te fun ds => K (.lst ds)) : Ev W G te K := fun X σ H E Q q =>
  h X σ H E Q fun ds p vs H' k n ex inv e nm r => q _ _ H' k ex inv (.lst (fun m => m.elim nm (own_neX E n)) e (r.less fun _ m => .inr m))
/-- what is told when all but p is as it was, and p, of the def's own or new, holds other items -/
theorem Ok.putOwn {X N : List Addr} {H0 H : Hp} {σ : L2.St} {i : Nat} {l : Addr} {ds : List D} {vs : List V} (o : Ok W X N H0 H σ G) (hl : H l = some (.lst vs)) (h0 : H0 l = none) (nm : ¬ W.M l) (no : l ∉ X ++ owned G) (nv : EntsOk (fun a => a = l ∨ mo W (X ++ owned G) a) H σ G) (rv : RepAll (fun a => a = l ∨ mo W (X ++ owned G) a) H vs ds) :
    Ok W X N H0 H (σ.set i (some (.ref l))) (G.set i (.own l ds)) := by
  refine ⟨⟨(EntsOk.set (x := some (.ref l)) (e := .own l ds) ⟨rfl, vs, hl, rv⟩ i nv).less fun a m => mutSub a m, nodup_setOwn o.env.nd fun z => no (List.mem_append_right _ z), fun b q => ?_, o.env.xs, o.env.inv⟩, o.ex, fun b q => ?_⟩
  · rcases owned_setOwn b q with z | z
    · subst z; exact ⟨nm, fun z => no (List.mem_append_left _ z)⟩
    · exact o.env.ap b z
  · rcases owned_setOwn b q with z | z
    · subst z; exact .inl h0
    · exact o.nw b z
theorem EntOk.widen {M M' : Addr → Prop} {H H' : Hp} {p : Addr} {x : Option V} {e : Ent} (hp : H p = none) (ex : Ex M H H') (hM : ∀ a, M' a → a = p ∨ M a) (no : ownOf e ≠ some p) (hw : ∀ l, ownOf e = some l → ∀ o, H l = some o → H' l = some o) (h : EntOk M H x e) : EntOk M' H' x e := by
  have nl : ∀ xs, H p ≠ some (.lst xs) := fun xs z => by rw [hp] at z; cases z
  have go : ∀ {v : V} {d : D}, Rep M H v d → Rep M' H' v d := fun r => by
    have r1 : Rep (fun a => a = p ∨ M a) H _ _ := Rep.avoid (p := p) nl (fun a m => m) r
    have ex1 : Ex (fun a => a = p ∨ M a) H H' := ex.weak fun _ m => .inr m
    exact (Rep.mono ex1 (fun _ m => m) r1).less hM
  have goA : ∀ {v : List V} {d : List D}, RepAll M H v d → RepAll M' H' v d := fun r => by
    have r1 : RepAll (fun a => a = p ∨ M a) H _ _ := RepAll.avoid (p := p) nl (fun a m => m) r
    have ex1 : Ex (fun a => a = p ∨ M a) H H' := ex.weak fun _ m => .inr m
    exact (RepAll.mono ex1 (fun _ m => m) r1).less hM
  cases e with
  | no => trivial
  | d d => obtain ⟨v, q, r⟩ := h; exact ⟨v, q, go r⟩
  | own l ds => obtain ⟨q, vs, e1, r⟩ := h; exact ⟨q, vs, hw l rfl _ e1, goA r⟩
  | odk l ns ds => obtain ⟨q, hl, vs, e1, r⟩ := h; exact ⟨q, hl, vs, hw l rfl _ e1, goA r⟩
  | raw v => exact h
  | frz b o ns => exact ⟨h.1, h.2.1, ex.kp _ _ h.2.2 fun _ => trivial⟩
theorem EntsOk.widen {M M' : Addr → Prop} {H H' : Hp} {p : Addr} (hp : H p = none) (ex : Ex M H H') (hM : ∀ a, M' a → a = p ∨ M a) {σ : L2.St} {G : List Ent} (h : EntsOk M H σ G) (no : p ∉ owned G) (hw : ∀ l ∈ owned G, ∀ o, H l = some o → H' l = some o) : EntsOk M' H' σ G := by
  induction h with
  | nil => exact .nil
  | cons h t ih => exact .cons (h.widen hp ex hM (fun q => no (owned_cons (.inl q))) fun l q => hw l (owned_cons (.inl q))) (ih (fun q => no (owned_cons (.inr q))) fun l q => hw l (owned_cons (.inr q)))
theorem Env.keepOwn {X : List Addr} {H H' : Hp} {σ : L2.St} (e : Env W X H σ G) (ex : Ex W.M H H') : ∀ l ∈ owned G, ∀ o, H l = some o → H' l = some o := fun l hl o q => ex.kp l o q fun m => absurd m (e.ap l hl).1
theorem st_own {i : Nat} (h : EvL W G te fun ds => ∀ l, E.nx (G.set i (.own l ds))) : St W G (tAsg te (gName i)) E := fun X N H0 σ H o D m =>
  h X σ H o.env _ fun ds p vs H' k n ex inv e nm r => by
    have o1 := o.mono ex inv
    have h0 : H0 p = none := o.ex.none n
    exact m.nx _ _ H' (k p) (o1.putOwn e h0 nm (own_neX o.env n) (o.env.ok.widen n ex.up (fun a m => m) (own_ne o.env n) (o.env.keepOwn ex)) r)
/-- an own list at l holds other items -/
theorem Ok.change {X N : List Addr} {H0 H : Hp} {σ : L2.St} {i : Nat} {l : Addr} {ds es : List D} {vs us : List V} (o : Ok W X N H0 H σ G) (h : G[i]? = some (.own l ds)) (hl : H l = some (.lst vs)) (r : RepAll (mo W (X ++ owned G)) H us es) :
    Ok W X N H0 (upd H l (.lst us)) σ (G.set i (.own l es)) := by
  have ml := mem_owned h
  have nW := (o.env.ap l ml).1
  have hk : ∀ a u, a ≠ l → H a = some u → (upd H l (.lst us)) a = some u := fun a u z q => by rw [upd_ne z]; exact q
  have hp : ∀ u, H l = some u → ∃ xs, u = .lst xs := fun u q => by rw [hl] at q; cases q; exact ⟨_, rfl⟩
  have hM : ∀ a, mo W (X ++ owned (G.set i (.own l es))) a → a = l ∨ mo W (X ++ owned G) a := fun a m => mutSub a m
  have ow : owned (G.set i (.own l es)) = owned G := by
    have : ∀ (G : List Ent) (i : Nat), G[i]? = some (.own l ds) → owned (G.set i (.own l es)) = owned G := by
      intro G
      induction G with
      | nil => intro i h; simp at h
      | cons x G ih =>
        intro i h
        cases i with
        | zero =>
          have hx : x = .own l ds := by simpa using h
          subst hx; rfl
        | succ i =>
          show List.filterMap ownOf (x :: G.set i (.own l es)) = List.filterMap ownOf (x :: G)
          rw [List.filterMap_cons, List.filterMap_cons]
          have q : List.filterMap ownOf (G.set i (.own l es)) = List.filterMap ownOf G := ih i (by simpa using h)
          rw [q]
    exact this G i h
  have r' : RepAll (mo W (X ++ owned (G.set i (.own l es)))) (upd H l (.lst us)) us es := RepAll.upd' hk hp hM (.inr (List.mem_append_right _ ml)) r
  refine ⟨⟨?_, by rw [ow]; exact o.env.nd, fun b q => o.env.ap b (by rw [ow] at q; exact q), fun b q => ⟨(o.env.xs b q).1, by rw [upd_ne fun z => (o.env.ap l ml).2 (by rw [← z]; exact q)]; exact (o.env.xs b q).2⟩, W.dep H _ o.env.inv fun a u ma q => by
    rw [upd_ne fun z => nW (by rw [← z]; exact ma)]; exact q⟩, ?_, fun b q => o.nw b (by rw [ow] at q; exact q)⟩
  · -- entries
    rw [ow] at r' ⊢
    have step : ∀ {x : Option V} {e : Ent}, ownOf e ≠ some l → EntOk (mo W (X ++ owned G)) H x e → EntOk (mo W (X ++ owned G)) (upd H l (.lst us)) x e := fun {x e} ne h => by
      have hM2 : ∀ a, mo W (X ++ owned G) a → a = l ∨ mo W (X ++ owned G) a := fun a m => .inr m
      cases e with
      | no => trivial
      | d d => obtain ⟨v, q, r⟩ := h; exact ⟨v, q, Rep.upd' hk hp hM2 (.inr (List.mem_append_right _ ml)) r⟩
      | own b ds => obtain ⟨q, vs, e1, r⟩ := h; exact ⟨q, vs, hk b _ (fun z => ne (by rw [z]; rfl)) e1, RepAll.upd' hk hp hM2 (.inr (List.mem_append_right _ ml)) r⟩
      | odk b ns ds => obtain ⟨q, hn, vs, e1, r⟩ := h; exact ⟨q, hn, vs, hk b _ (fun z => ne (by rw [z]; rfl)) e1, RepAll.upd' hk hp hM2 (.inr (List.mem_append_right _ ml)) r⟩
      | raw v => exact h
      | frz b o ns => exact ⟨h.1, h.2.1, hk b _ (fun z => by have e := h.2.2; rw [z, hl] at e; cases e) h.2.2⟩
    have stepA : ∀ {σ : L2.St} {G' : List Ent}, l ∉ owned G' → EntsOk (mo W (X ++ owned G)) H σ G' → EntsOk (mo W (X ++ owned G)) (upd H l (.lst us)) σ G' := fun {σ G'} ne h => by
      induction h with
      | nil => exact .nil
      | cons h t ih => exact .cons (step (fun q => ne (owned_cons (.inl q))) h) (ih fun q => ne (owned_cons (.inr q)))
    have main : ∀ {σ : L2.St} {G' : List Ent} {i : Nat}, G'[i]? = some (.own l ds) → (owned G').Nodup → EntsOk (mo W (X ++ owned G)) H σ G' → EntsOk (mo W (X ++ owned G)) (upd H l (.lst us)) σ (G'.set i (.own l es)) := fun {σ G' i} hi nd h => by
      induction h generalizing i with
      | nil => simp at hi
      | @cons x σ e G' h t ih =>
        unfold owned at nd
        rw [List.filterMap_cons] at nd
        cases i with
        | zero =>
          have hx : e = .own l ds := by simpa using hi
          subst hx
          obtain ⟨q, vs', e1, r1⟩ := h
          have nd2 : (l :: G'.filterMap ownOf).Nodup := nd
          exact .cons ⟨q, us, upd_same, r'⟩ (stepA (List.nodup_cons.mp nd2).1 t)
        | succ i =>
          have hi' : G'[i]? = some (.own l ds) := by simpa using hi
          have hm : l ∈ owned G' := mem_owned hi'
          cases hx : ownOf e with
          | none =>
            rw [hx] at nd
            exact .cons (step (by rw [hx]; intro z; cases z) h) (ih hi' nd)
          | some b =>
            rw [hx] at nd
            have nd2 : (b :: G'.filterMap ownOf).Nodup := nd
            obtain ⟨n1, n2⟩ := List.nodup_cons.mp nd2
            exact .cons (step (by rw [hx]; intro z; cases z; exact n1 hm) h) (ih hi' n2)
    exact main h o.env.nd o.env.ok
  · rcases o.nw l ml with z | z
    · exact o.ex.mutN z
    · exact o.ex.trans (Ex.mut (.inr z) hl)
theorem small_len {n : Nat} (h : n < 100000) : n < sizeLine := Nat.lt_of_lt_of_le h (by decide)
theorem small_le {n : Nat} (h : n ≤ 100000) : n ≤ sizeLine := Nat.le_trans h (by decide)
theorem Ok.at {X N : List Addr} {H0 H : Hp} {σ : L2.St} {i : Nat} {l : Addr} {ds : List D} (o : Ok W X N H0 H σ G) (h : G[i]? = some (.own l ds)) : σ[i]? = some (some (.ref l)) ∧ ∃ vs, H l = some (.lst vs) ∧ RepAll (mo W (X ++ owned G)) H vs ds := by
  obtain ⟨x, e, r⟩ := o.env.ok.get h
  obtain ⟨rfl, q⟩ := r
  exact ⟨e, q⟩
theorem st_app {K : PySem.W.Frag} {i : Nat} {l : Addr} {ds : List D} (h : G[i]? = some (.own l ds)) (hl : ds.length < 100000) (k : Ev W G te fun d => E.nx (G.set i (.own l (ds ++ [d])))) :
    St W G (tDrop (tBM K "list" rAppend (tVar i) (tCons te tNil))) E := fun X N H0 σ H o D m => by
  obtain ⟨e, vs, e1, r⟩ := o.at h
  refine ⟨_, e, .inl ⟨rfl, _, SqL.of e1⟩, k X σ H o.env _ fun d v H' k' ex inv rd => ?_⟩
  have o1 := o.mono ex inv
  obtain ⟨_, vs', e1', r'⟩ := o1.at h
  refine ⟨l, vs', v, rfl, rfl, e1', small_len (by rw [r'.length]; exact hl), ?_⟩
  exact m.nx _ _ _ k' (o1.change h e1' (r'.append (.cons rd .nil)))
theorem st_setItem {i : Nat} {l : Addr} {ds : List D} {ti : TE} (h : G[i]? = some (.own l ds)) (k : Ev W G te fun d => Ev W G ti fun x => ∃ j : Nat, x = .int (j : Int) ∧ j < ds.length ∧ E.nx (G.set i (.own l (ds.set j d)))) :
    St W G (tAsg te (gSub (tVar i) ti rSetL)) E := fun X N H0 σ H o D m => by
  refine k X σ H o.env _ fun d v H' k' ex inv rd => ?_
  have o1 := o.mono ex inv
  obtain ⟨e, vs, e1, r⟩ := o1.at h
  refine ⟨_, e, k' X σ H' o1.env _ fun x u H2 k2 ex2 inv2 ru => ?_⟩
  obtain ⟨j, rfl, hj, k2⟩ := k2
  cases ru
  have o2 := o1.mono ex2 inv2
  obtain ⟨_, vs', e1', r'⟩ := o2.at h
  refine ⟨l, vs', (j : Int), j, rfl, rfl, e1', ?_, m.nx _ _ _ k2 (o2.change h e1' (RepAll.set (rd.mono ex2 fun _ m => .inl m) j r'))⟩
  unfold ixN
  rw [if_pos (by omega), if_pos (by rw [r'.length]; omega)]
  simp

/-! ### loops -/
mutual
theorem Rep.carry {M M' : Addr → Prop} {H H' : Hp} (e : Ex M H H') (hM : ∀ a, M' a → M a ∨ H a = none) : ∀ {v : V} {d : D}, Rep M H v d → Rep M' H' v d
  | _, _, .non => .non
  | _, _, .bl b => .bl b
  | _, _, .int i => .int i
  | _, _, .str x => .str x
  | _, _, .tup h r => .tup (h.imp (fun z => e.kp _ _ z fun _ => trivial) fun ⟨o, z⟩ => ⟨o, e.kp _ _ z fun _ => trivial⟩) (RepAll.carry e hM r)
  | _, _, .lst n h r => .lst (fun m => (hM _ m).elim n fun z => by rw [z] at h; cases h) (e.kp _ _ h fun m => absurd m n) (RepAll.carry e hM r)
  | _, _, .dct h => by
    obtain ⟨k, q⟩ := e.dk _ _ h
    exact .dct q
  | _, _, .rg h => .rg (e.kp _ _ h fun _ => trivial)
  | _, _, .obj h q l r => .obj (e.kp _ _ h fun _ => trivial) q l (RepAll.carry e hM r)
theorem RepAll.carry {M M' : Addr → Prop} {H H' : Hp} (e : Ex M H H') (hM : ∀ a, M' a → M a ∨ H a = none) : ∀ {vs : List V} {ds : List D}, RepAll M H vs ds → RepAll M' H' vs ds
  | _, _, .nil => .nil
  | _, _, .cons r t => .cons (Rep.carry e hM r) (RepAll.carry e hM t)
end
theorem Ok.sub {X N : List Addr} {H0 H : Hp} {σ : L2.St} (o : Ok W X N H0 H σ G) : ∀ a, mo W (X ++ owned G) a → mo W (X ++ N) a ∨ H0 a = none := fun a m => by
  rcases m with m | m
  · exact .inl (.inl m)
  · rcases List.mem_append.mp m with m | m
    · exact .inl (.inr (List.mem_append_left _ m))
    · exact (o.nw a m).elim .inr fun z => .inl (.inr (List.mem_append_right _ z))
theorem Meets.re {X N : List Addr} {H0 H : Hp} {σ : L2.St} {D : Ends} {nx' : L2.St → Hp → Prop} {I : List Ent → Prop} (m : Meets W X N H0 E D) (o : Ok W X N H0 H σ G)
    (hn : ∀ G' σ' H', I G' → Ok W X (owned G) H H' σ' G' → nx' σ' H') : Meets W X (owned G) H { E with nx := I, ct := I, bk := E.nx } { D with nx := nx', ct := nx', bk := D.nx } where
  nx := fun G' σ' H' k o' => hn G' σ' H' k o'
  bk := fun G' σ' H' k o' => m.nx G' σ' H' k (o.back o')
  ct := fun G' σ' H' k o' => hn G' σ' H' k o'
  rt := fun d v H' k ex inv r => m.rt d v H' k (o.exb ex) inv r
  ex := fun G' C fs d σ' H' k o' r => m.ex G' C fs d σ' H' k (o.back o') r
  rl := fun ds p vs H' k hp ex inv e nM nX r => m.rl ds p vs H' k (hp.elim (fun z => .inl (o.ex.none z)) fun z => o.nw p z) (o.exb ex) inv e nM nX r
/-- a target -/
def Tg (W : Wd) (G : List Ent) (g : TG) (d : D) (K : List Ent → Prop) : Prop := ∀ X N H0 σ H v, Ok W X N H0 H σ G → Rep (mo W (X ++ owned G)) H v d → ∀ Q : L2.St → Hp → Prop, (∀ G' σ', K G' → Ok W X N H0 H σ' G' → Q σ' H) → g v σ H Q
theorem tg_name {i : Nat} {d : D} {K : List Ent → Prop} (k : K (G.set i (.d d))) : Tg W G (gName i) d K := fun X N H0 σ H v o r Q q => q _ _ k (o.put r)
theorem tg_tup2 {K : PySem.W.Frag} {i j : Nat} {x y : D} {KK : List Ent → Prop} (k : KK ((G.set i (.d x)).set j (.d y))) : Tg W G (gTup K 2 (gCons (gName i) (gCons (gName j) gNil))) (.tup [x, y]) KK := fun X N H0 σ H v o r Q q => by
  cases r with
  | tup h r =>
    cases r with
    | cons rx r =>
      cases r with
      | cons ry r =>
        cases r
        have o1 := o.put (i := i) rx
        have s := owned_set (G := G) (i := i) (e := .d x) rfl
        have ry' : Rep (mo W (X ++ owned (G.set i (.d x)))) H _ y := ry.less (mo_sub (List.append_subset.mpr ⟨List.subset_append_left _ _, fun a h => List.mem_append_right _ (s.subset h)⟩))
        exact ⟨_, _, rfl, .inl h, rfl, _, _, rfl, _, _, rfl, rfl, q _ _ k (o1.put ry')⟩
end
end Pd

namespace Pd
open PySem L2 RZ
/-! ### what is walked -/
def EvI (W : Wd) (G : List Ent) (wi : TI) (K : List D → Prop) : Prop := ∀ X σ H, Env W X H σ G → ∀ R : It → Hp → Prop,
  (∀ ds J H' Gd Y, K ds → Ex W.M H H' → W.inv H' → Walk J ds.length Gd Y → (∀ H2, Ex (mo W (owned G)) H' H2 → Gd H2) →
    (∀ i H2 x H3, Ex (mo W (owned G)) H' H2 → i < ds.length → Y i H2 x H3 → (∀ M : Addr → Prop, Ex M H2 H3) ∧ ∃ d, ds[i]? = some d ∧ ∀ M' : Addr → Prop, (∀ a, M' a → mo W (X ++ owned G) a ∨ H' a = none) → Rep M' H3 x d) → R J H') → wi σ H R
section
variable {W : Wd} {G : List Ent} {te ta tb tl : TE} {E : Post} {K : PySem.W.Frag} {KK : List D → Prop}
theorem evi_tup (h : Ev W G tl fun x => ∃ ds, x = .tup ds ∧ KK ds) : EvI W G (iTup K tl) KK := fun X σ H E R q =>
  h X σ H E _ fun x v H' k ex inv r => by
    obtain ⟨ds, rfl, k⟩ := k
    cases r with
    | @tup a vs _ ha r =>
      refine ⟨a, rfl, ⟨vs, .inl ha⟩, q ds (Itt K a) H' (fun H2 => SqT K H2 a vs) (YAt vs) k ex inv (by rw [← r.length]; exact walk_tup) (fun H2 e2 => .inl (ha.keep e2)) fun i H2 x H3 e2 _ y => ?_⟩
      obtain ⟨rfl, y⟩ := y
      obtain ⟨d, hd, rd⟩ := r.getV y
      exact ⟨fun _ => Ex.refl _ _, d, hd, fun M' hM => rd.carry (e2.weak (mo_sub (List.subset_append_right X _))) hM⟩
theorem evi_lst (h : Ev W G tl fun x => ∃ ds, x = .lst ds ∧ KK ds) : EvI W G (iList K tl) KK := fun X σ H E R q =>
  h X σ H E _ fun x v H' k ex inv r => by
    obtain ⟨ds, rfl, k⟩ := k
    cases r with
    | @lst a vs _ nm ha r =>
      refine ⟨a, rfl, ⟨vs, .inl (.inl ha)⟩, q ds (Itl K a) H' (fun H2 => SqL K H2 a vs) (YAt vs) k ex inv (by rw [← r.length]; exact walk_list) (fun H2 e2 => .inl (.inl (e2.kp _ _ ha fun m => absurd (mo_sub (List.subset_append_right X _) _ m) nm))) fun i H2 x H3 e2 _ y => ?_⟩
      obtain ⟨rfl, y⟩ := y
      obtain ⟨d, hd, rd⟩ := r.getV y
      exact ⟨fun _ => Ex.refl _ _, d, hd, fun M' hM => rd.carry (e2.weak (mo_sub (List.subset_append_right X _))) hM⟩
def intsUp (lo : Int) (n : Nat) : List D := (List.range n).map fun i => D.int (lo + (i : Nat))
theorem intsUp_len (lo : Int) (n : Nat) : (intsUp lo n).length = n := by unfold intsUp; rw [List.length_map, List.length_range]
theorem intsUp_get {lo : Int} {n i : Nat} (h : i < n) : (intsUp lo n)[i]? = some (.int (lo + (i : Nat))) := by
  unfold intsUp; rw [List.getElem?_map, List.getElem?_range h]; rfl
theorem intsUp_of {lo : Int} {n i : Nat} {d : D} (h : (intsUp lo n)[i]? = some d) : i < n ∧ d = .int (lo + (i : Nat)) := by
  have hi : i < (intsUp lo n).length := (List.getElem?_eq_some_iff.mp h).1
  rw [intsUp_len] at hi
  rw [intsUp_get hi] at h
  exact ⟨hi, (Option.some.inj h).symm⟩
theorem evi_rng1 (h : Ev W G tl fun x => ∃ n : Int, x = .int n ∧ n < 2 ^ 62 ∧ -(2 ^ 62) ≤ n ∧ KK (intsUp 0 n.toNat)) : EvI W G (iRng1 (tCons tl tNil)) KK := fun X σ H E R q =>
  h X σ H E _ fun x v H' k ex inv r => by
    obtain ⟨n, rfl, h1, h2, k⟩ := k
    cases r
    refine ⟨n, rfl, h2, h1, q _ (Itr 0 n.toNat) H' (fun _ => True) (YFn fun i => .int (0 + (i : Nat))) k ex inv (by rw [intsUp_len]; exact walk_range) (fun _ _ => trivial) fun i H2 x H3 e2 hi y => ?_⟩
    obtain ⟨rfl, rfl⟩ := y
    rw [intsUp_len] at hi
    exact ⟨fun _ => Ex.refl _ _, _, intsUp_get hi, fun _ _ => .int _⟩
theorem evi_rng2 (h : Ev W G ta fun x => Ev W G tb fun y => ∃ a b : Int, x = .int a ∧ y = .int b ∧ -(2 ^ 62) ≤ a ∧ a < 2 ^ 62 ∧ -(2 ^ 62) ≤ b ∧ b < 2 ^ 62 ∧ KK (intsUp a (b - a).toNat)) : EvI W G (iRng2 (tCons ta (tCons tb tNil))) KK := fun X σ H E R q =>
  h X σ H E _ fun x v H1 k ex inv r => k X σ H1 (E.mono ex inv) _ fun y u H' k ex2 inv2 r2 => by
    obtain ⟨a, b, rfl, rfl, h1, h2, h3, h4, k⟩ := k
    cases r; cases r2
    refine ⟨a, b, rfl, ⟨h1, h2, h3, h4⟩, q _ (Itr a (b - a).toNat) H' (fun _ => True) (YFn fun i => .int (a + (i : Nat))) k (ex.trans ex2) inv2 (by rw [intsUp_len]; exact walk_range) (fun _ _ => trivial) fun i H2 x H3 e2 hi y => ?_⟩
    obtain ⟨rfl, rfl⟩ := y
    rw [intsUp_len] at hi
    exact ⟨fun _ => Ex.refl _ _, _, intsUp_get hi, fun _ _ => .int _⟩
def pairsOf : List D → List D → List D
  | x :: xs, y :: ys => .tup [x, y] :: pairsOf xs ys
  | _, _ => []
theorem pairsOf_len : ∀ xs ys : List D, (pairsOf xs ys).length = min xs.length ys.length
  | [], ys => by simp [pairsOf]
  | _ :: _, [] => by simp [pairsOf]
  | x :: xs, y :: ys => by
    have := pairsOf_len xs ys
    simp only [pairsOf, List.length_cons, this]; omega
theorem pairsOf_get : ∀ {xs ys : List D} {i : Nat} {x y : D}, xs[i]? = some x → ys[i]? = some y → (pairsOf xs ys)[i]? = some (.tup [x, y])
  | [], _, _, _, _, h, _ => by simp at h
  | _ :: _, [], _, _, _, _, h => by simp at h
  | a :: xs, b :: ys, 0, x, y, h, h2 => by
    simp at h h2; subst h h2; rfl
  | a :: xs, b :: ys, i + 1, x, y, h, h2 => by
    show (pairsOf xs ys)[i]? = _
    exact pairsOf_get (by simpa using h) (by simpa using h2)
theorem pairsOf_of : ∀ {xs ys : List D} {i : Nat} {d : D}, (pairsOf xs ys)[i]? = some d → ∃ x y, xs[i]? = some x ∧ ys[i]? = some y ∧ d = .tup [x, y]
  | [], _, _, _, h => by simp [pairsOf] at h
  | _ :: _, [], _, _, h => by simp [pairsOf] at h
  | a :: xs, b :: ys, 0, d, h => by
    have e : D.tup [a, b] = d := by simpa [pairsOf] using h
    exact ⟨a, b, rfl, rfl, e.symm⟩
  | a :: xs, b :: ys, i + 1, d, h => by
    have h' : (pairsOf xs ys)[i]? = some d := by simpa [pairsOf] using h
    obtain ⟨x, y, h1, h2, h3⟩ := pairsOf_of h'
    exact ⟨x, y, by simpa using h1, by simpa using h2, h3⟩
theorem pair_rep {M M' : Addr → Prop} {H H2 H3 : Hp} {T : Addr} {x y : V} {dx dy : D} (e2 : Ex M H H2) (nT : H2 T = none) (eH : H3 = upd H2 T (.tup [x, y])) (hM : ∀ a, M' a → M a ∨ H a = none) (rx : Rep M H x dx) (ry : Rep M H y dy) : Rep M' H3 (.ref T) (.tup [dx, dy]) := by
  subst eH
  have e3 : Ex M H (upd H2 T (.tup [x, y])) := e2.trans (Ex.new nT)
  exact .tup (.inl upd_same) (.cons (rx.carry e3 hM) (.cons (ry.carry e3 hM) .nil))
theorem evi_zipL (h : Ev W G ta fun x => Ev W G tb fun y => ∃ xs ys, x = .lst xs ∧ y = .lst ys ∧ KK (pairsOf xs ys)) : EvI W G (iZipA K (tCons ta (tCons tb tNil))) KK := fun X σ H E R q =>
  h X σ H E _ fun x v H1 k ex inv r => k X σ H1 (E.mono ex inv) _ fun y u H' k ex2 inv2 r2 => by
    obtain ⟨xs, ys, rfl, rfl, k⟩ := k
    have r := r.mono ex2 fun _ m => .inl m
    cases r with
    | @lst a vs _ na ha r =>
      cases r2 with
      | @lst b us _ nb hb r2 =>
        refine ⟨a, b, vs, us, rfl, .inl ⟨.inl (.inl ha), .inl (.inl hb), q _ (Itz K a b) H' (fun H2 => SqL K H2 a vs ∧ SqL K H2 b us) (YPair (fun i => vs[i]?) (fun i => us[i]?)) k (ex.trans ex2) inv2 (walk_zip (by rw [pairsOf_len, r.length, r2.length])) (fun H2 e2 => ⟨.inl (.inl (e2.kp _ _ ha fun m => absurd (mo_sub (List.subset_append_right X _) _ m) na)), .inl (.inl (e2.kp _ _ hb fun m => absurd (mo_sub (List.subset_append_right X _) _ m) nb))⟩) fun i H2 z H3 e2 hi y => ?_⟩⟩
        obtain ⟨T, x, y, rfl, nT, eH, hx, hy⟩ := y
        obtain ⟨dx, hdx, rx⟩ := r.getV hx
        obtain ⟨dy, hdy, ry⟩ := r2.getV hy
        exact ⟨fun _ => by rw [eH]; exact Ex.new nT, _, pairsOf_get hdx hdy, fun M' hM => pair_rep (e2.weak (mo_sub (List.subset_append_right X _))) nT eH hM rx ry⟩
theorem walk_zipT {a b : Addr} {xs ys : List V} {n : Nat} (hn : n = min xs.length ys.length) : Walk (ItzT K a b) n (fun H => SqT K H a xs ∧ SqT K H b ys) (YPair (fun i => xs[i]?) (fun i => ys[i]?)) := by
  subst hn
  refine ⟨fun i _ hi q => ?_, fun _ q => ⟨xs, ys, q.1, q.2, by omega⟩, fun i H v H' _ q y => ?_⟩
  · have h1 : i < xs.length := by omega
    have h2 : i < ys.length := by omega
    exact ⟨xs, ys, xs[i], ys[i], q.1, q.2, by simp [h1], by simp [h2]⟩
  · obtain ⟨T, x, z, h1, h2, h3, h4, h5⟩ := y
    exact ⟨T, x, z, h1, h2, h3, h4 xs q.1, h5 ys q.2⟩
theorem evi_zipT (h : Ev W G ta fun x => Ev W G tb fun y => ∃ xs ys, x = .tup xs ∧ y = .tup ys ∧ KK (pairsOf xs ys)) : EvI W G (iZipA K (tCons ta (tCons tb tNil))) KK := fun X σ H E R q =>
  h X σ H E _ fun x v H1 k ex inv r => k X σ H1 (E.mono ex inv) _ fun y u H' k ex2 inv2 r2 => by
    obtain ⟨xs, ys, rfl, rfl, k⟩ := k
    have r := r.mono ex2 fun _ m => .inl m
    cases r with
    | @tup a vs _ ha r =>
      cases r2 with
      | @tup b us _ hb r2 =>
        refine ⟨a, b, vs, us, rfl, .inr ⟨.inl ha, .inl hb, q _ (ItzT K a b) H' (fun H2 => SqT K H2 a vs ∧ SqT K H2 b us) (YPair (fun i => vs[i]?) (fun i => us[i]?)) k (ex.trans ex2) inv2 (walk_zipT (by rw [pairsOf_len, r.length, r2.length])) (fun H2 e2 => ⟨.inl (ha.keep e2), .inl (hb.keep e2)⟩) fun i H2 z H3 e2 hi y => ?_⟩⟩
        obtain ⟨T, x, y, rfl, nT, eH, hx, hy⟩ := y
        obtain ⟨dx, hdx, rx⟩ := r.getV hx
        obtain ⟨dy, hdy, ry⟩ := r2.getV hy
        exact ⟨fun _ => by rw [eH]; exact Ex.new nT, _, pairsOf_get hdx hdy, fun M' hM => pair_rep (e2.weak (mo_sub (List.subset_append_right X _))) nT eH hM rx ry⟩
theorem evi_enumL (h : Ev W G ta fun x => ∃ xs, x = .lst xs ∧ KK (pairsOf (intsUp 0 xs.length) xs)) : EvI W G (iEnum K (tCons ta tNil)) KK := fun X σ H E R q =>
  h X σ H E _ fun x v H' k ex inv r => by
    obtain ⟨xs, rfl, k⟩ := k
    cases r with
    | @lst a vs _ na ha r =>
      have hl : (pairsOf (intsUp 0 xs.length) xs).length = vs.length := by rw [pairsOf_len, intsUp_len, Nat.min_self, r.length]
      refine ⟨a, vs, rfl, .inl (.inl ha), q _ (Ite K a) H' (fun H2 => SqL K H2 a vs) (YPair (fun i => some (.int (i : Nat))) (fun i => vs[i]?)) k ex inv (by rw [hl]; exact walk_enum) (fun H2 e2 => .inl (.inl (e2.kp _ _ ha fun m => absurd (mo_sub (List.subset_append_right X _) _ m) na))) fun i H2 z H3 e2 hi y => ?_⟩
      obtain ⟨T, x, y, rfl, nT, eH, hx, hy⟩ := y
      obtain ⟨dy, hdy, ry⟩ := r.getV hy
      cases hx
      rw [hl, r.length] at hi
      have e0 : (0 : Int) + (i : Nat) = ((i : Nat) : Int) := Int.zero_add _
      exact ⟨fun _ => by rw [eH]; exact Ex.new nT, _, pairsOf_get (intsUp_get hi) hdy, fun M' hM => pair_rep (e2.weak (mo_sub (List.subset_append_right X _))) nT eH hM (by rw [e0]; exact .int _) ry⟩

/-! ### for, comprehensions -/
theorem st_for {wi : TI} {g : TG} {tb : TS} (h : EvI W G wi fun ds => ∃ I : Nat → List Ent → Prop, I 0 G ∧ (∀ i d G', ds[i]? = some d → I i G' → Tg W G' g d fun G2 => St W G2 tb { E with nx := I (i + 1), ct := I (i + 1), bk := E.nx }) ∧ ∀ G', I ds.length G' → E.nx G') :
    St W G (tFor wi g tb) E := fun X N H0 σ H o D m =>
  h X σ H o.env _ fun ds J H' Gd Y k ex inv wk st it => by
    obtain ⟨I, i0, hs, hd⟩ := k
    have o1 := o.mono ex inv
    refine for_it wk (fun i σ' H2 => ∃ G', I i G' ∧ Ok W X (owned G) H' H2 σ' G') ⟨G, i0, Ok.base o1.env⟩ (fun i σ' H2 _ ⟨G', _, o2⟩ => st H2 o2.ex) ?_ ?_
    · rintro i x σ' H2 H3 hi ⟨G', iG, o2⟩ y
      obtain ⟨ex3, d, hd', rd⟩ := it i H2 x H3 o2.ex hi y
      have o3 : Ok W X (owned G) H' H3 σ' G' := o2.mono (ex3 _) (inv_same o2.env.inv ex3)
      refine hs i d G' hd' iG X (owned G) H' σ' H3 x o3 (rd _ o2.sub) _ fun G3 σ3 k3 o3 => ?_
      exact k3 X (owned G) H' σ3 H3 o3 _ (m.re o1 fun G4 σ4 H4 i4 o4 => ⟨G4, i4, o4⟩)
    · rintro σ' H2 ⟨G', iG, o2⟩
      exact m.nx _ _ _ (hd G' iG) (o1.back o2)
/-- entries whose slots are wiped -/
def wipeG (G : List Ent) : List Nat → List Ent
  | [] => G
  | v :: vs => (wipeG G vs).set v .no
theorem Ok.wipe {X N : List Addr} {H0 H : Hp} {σ : L2.St} (o : Ok W X N H0 H σ G) : ∀ vs : List Nat, Ok W X N H0 H (L2.wipe σ vs) (wipeG G vs)
  | [] => o
  | v :: vs => by
    show Ok W X N H0 H ((L2.wipe σ vs).set v none) ((wipeG G vs).set v .no)
    exact (Ok.wipe o vs).putNo
theorem wipe_get (vs : List Nat) : ∀ (σ : L2.St) (i : Nat), (L2.wipe σ vs)[i]? = if i ∈ vs ∧ i < σ.length then some none else σ[i]? := by
  induction vs with
  | nil => intro σ i; simp [L2.wipe]
  | cons v vs ih =>
    intro σ i
    show ((L2.wipe σ vs).set v none)[i]? = _
    by_cases hv : v = i
    · subst hv
      rw [List.getElem?_set, if_pos rfl, L2.wipe_length]
      by_cases hl : v < σ.length
      · rw [if_pos hl, if_pos ⟨List.mem_cons_self .., hl⟩]
      · rw [if_neg hl, if_neg fun z => hl z.2, List.getElem?_eq_none_iff.mpr (by omega)]
    · rw [List.getElem?_set_ne hv, ih σ i]
      have e : (i ∈ v :: vs) ↔ (i ∈ vs) := ⟨fun z => (List.mem_cons.mp z).resolve_left fun q => hv q.symm, fun z => List.mem_cons_of_mem _ z⟩
      simp only [e]
theorem wipe_eq {vs : List Nat} {σ τ : L2.St} (hl : σ.length = τ.length) (h : ∀ i, i ∉ vs → σ[i]? = τ[i]?) : L2.wipe σ vs = L2.wipe τ vs := by
  refine List.ext_getElem? fun i => ?_
  rw [wipe_get, wipe_get, hl]
  by_cases hi : i ∈ vs
  · by_cases hz : i < τ.length
    · rw [if_pos ⟨hi, hz⟩, if_pos ⟨hi, hz⟩]
    · rw [if_neg fun z => hz z.2, if_neg fun z => hz z.2, List.getElem?_eq_none_iff.mpr (by omega), List.getElem?_eq_none_iff.mpr (by omega)]
  · rw [if_neg fun z => hi z.1, if_neg fun z => hi z.1, h i hi]
theorem wipe_idem {vs : List Nat} {σ : L2.St} : L2.wipe (L2.wipe σ vs) vs = L2.wipe σ vs := wipe_eq (L2.wipe_length _ _) fun i hi => by
  rw [wipe_get, if_neg fun z => hi z.1]
theorem wipe_set {vs : List Nat} {σ : L2.St} {j : Nat} {x : Option V} (hj : j ∈ vs) : L2.wipe ((L2.wipe σ vs).set j x) vs = L2.wipe σ vs :=
  (wipe_eq (by simp) fun i hi => List.getElem?_set_ne fun z => hi (by rw [← z]; exact hj)).trans wipe_idem
/-- targets of a comprehension: they change nothing but their own slots -/
def TgC (W : Wd) (G : List Ent) (g : TG) (vs : List Nat) (d : D) (K : List Ent → Prop) : Prop := ∀ X N H0 σ H v, Ok W X N H0 H (L2.wipe σ vs) G → Rep (mo W (X ++ owned G)) H v d → ∀ Q : L2.St → Hp → Prop, (∀ G' σ', K G' → L2.wipe σ' vs = L2.wipe σ vs → Ok W X N H0 H σ' G' → Q σ' H) → g v (L2.wipe σ vs) H Q
theorem tgc_name {vs : List Nat} {i : Nat} {d : D} {K : List Ent → Prop} (hi : i ∈ vs) (k : K (G.set i (.d d))) : TgC W G (gName i) vs d K := fun X N H0 σ H v o r Q q => q _ _ k (wipe_set hi) (o.put r)
theorem wipe_set2 {vs : List Nat} {σ : L2.St} {i j : Nat} {x y : Option V} (hi : i ∈ vs) (hj : j ∈ vs) : L2.wipe (((L2.wipe σ vs).set i x).set j y) vs = L2.wipe σ vs :=
  (wipe_eq (by simp) fun k hk => by rw [List.getElem?_set_ne fun z => hk (by rw [← z]; exact hj), List.getElem?_set_ne fun z => hk (by rw [← z]; exact hi)]).trans wipe_idem
theorem tgc_tup2 {K : PySem.W.Frag} {vs : List Nat} {i j : Nat} {x y : D} {KK : List Ent → Prop} (hi : i ∈ vs) (hj : j ∈ vs) (k : KK ((G.set i (.d x)).set j (.d y))) : TgC W G (gTup K 2 (gCons (gName i) (gCons (gName j) gNil))) vs (.tup [x, y]) KK := fun X N H0 σ H v o r Q q => by
  cases r with
  | tup h r =>
    cases r with
    | cons rx r =>
      cases r with
      | cons ry r =>
        cases r
        have o1 := o.put (i := i) rx
        have s := owned_set (G := G) (i := i) (e := .d x) rfl
        have ry' : Rep (mo W (X ++ owned (G.set i (.d x)))) H _ y := ry.less (mo_sub (List.append_subset.mpr ⟨List.subset_append_left _ _, fun a h => List.mem_append_right _ (s.subset h)⟩))
        exact ⟨_, _, rfl, .inl h, rfl, _, _, rfl, _, _, rfl, rfl, q _ _ k (wipe_set2 hi hj) (o1.put ry')⟩
theorem owned_wipe : ∀ (vs : List Nat) (G : List Ent), (owned (wipeG G vs)).Sublist (owned G)
  | [], G => List.Sublist.refl _
  | v :: vs, G => (owned_set (G := wipeG G vs) (i := v) (e := .no) rfl).trans (owned_wipe vs G)
theorem EntsOk.wipe {M : Addr → Prop} {H : Hp} {σ : L2.St} {G : List Ent} (h : EntsOk M H σ G) : ∀ vs : List Nat, EntsOk M H (L2.wipe σ vs) (wipeG G vs)
  | [] => h
  | v :: vs => EntsOk.set (x := none) (e := .no) trivial v (EntsOk.wipe h vs)
/-- a comprehension: J tells the new list turn by turn -/
theorem evl_lc {wi : TI} {g : TG} {tt : TT} {vs : List Nat} (h : EvI W G wi fun ds => ds.length < 100000 ∧ ∃ J : Nat → List D → Prop, J 0 [] ∧ (∀ i d acc, ds[i]? = some d → J i acc → acc.length ≤ i → TgC W (wipeG G vs) g vs d fun G2 => owned G2 = owned G ∧ EvT W G2 tt fun b => (b = true → Ev W G2 te fun y => J (i + 1) (acc ++ [y])) ∧ (b = false → J (i + 1) acc)) ∧ ∀ acc, J ds.length acc → KK acc) :
    EvL W G (tLc wi g tt te vs) KK := fun X σ H E Q q =>
  h X σ H E _ fun ds It0 H' Gd Y k ex inv wk st it => by
    obtain ⟨hlen, J, j0, hs, hd⟩ := k
    intro Dl hDl
    have E1 := E.mono ex inv
    have nW : ¬ W.M Dl := new_ne inv hDl
    have nO : Dl ∉ X ++ owned G := own_neX E1 hDl
    have sub := owned_wipe vs G
    refine lc_it wk (fun i H2 => ∃ acc us, J i acc ∧ acc.length ≤ i ∧ Ex W.M H' H2 ∧ W.inv H2 ∧ H2 Dl = some (.lst us) ∧ RepAll (fun a => a = Dl ∨ mo W (X ++ owned G) a) H2 us acc)
      ⟨[], [], j0, Nat.le_refl _, Ex.new hDl, W.dep H' _ inv fun a o ma e => by rw [upd_ne fun z => nW (by rw [← z]; exact ma)]; exact e, upd_same, .nil⟩ (fun i H2 _ ⟨_, _, _, _, e2, _⟩ => st H2 e2.up) ?_ ?_
    · rintro i x H2 H3 hi ⟨acc, us, ja, la, e2, inv2, eD, rD⟩ y
      obtain ⟨ex3, d, hd', rd⟩ := it i H2 x H3 e2.up hi y
      have inv3 : W.inv H3 := inv_same inv2 ex3
      have e3 : Ex W.M H' H3 := e2.trans (ex3 _)
      have eD3 : H3 Dl = some (.lst us) := (ex3 fun _ => False).kp _ _ eD fun m => m.elim
      have rD3 : RepAll (fun a => a = Dl ∨ mo W (X ++ owned G) a) H3 us acc := rD.mono (ex3 fun _ => False) fun _ m => m.elim
      have Eb : Env W (Dl :: X) H3 (L2.wipe σ vs) (wipeG G vs) := by
        refine ⟨(E1.ok.wipe vs).widen (M := mo W (X ++ owned G)) (p := Dl) hDl e3.up (fun a m => ?_) (fun z => nO (List.mem_append_right _ (sub.subset z))) (fun l hl o q => e3.kp l o q fun m => absurd m (E1.ap l (sub.subset hl)).1), sub.nodup E1.nd, fun l hl => ⟨(E1.ap l (sub.subset hl)).1, fun z => ?_⟩, fun l hl => ?_, inv3⟩
        · rcases m with m | m
          · exact .inr (.inl m)
          · rcases List.mem_cons.mp m with z | z
            · exact .inl z
            · rcases List.mem_append.mp z with z | z
              · exact .inr (.inr (List.mem_append_left _ z))
              · exact .inr (.inr (List.mem_append_right _ (sub.subset z)))
        · rcases List.mem_cons.mp z with z | z
          · exact nO (List.mem_append_right _ (by rw [← z]; exact sub.subset hl))
          · exact (E1.ap l (sub.subset hl)).2 z
        · rcases List.mem_cons.mp hl with z | z
          · rw [z]; exact ⟨nW, _, eD3⟩
          · obtain ⟨n, o, q⟩ := E1.xs l z
            exact ⟨n, e3.th l o q⟩
      have rx : Rep (mo W (Dl :: X ++ owned (wipeG G vs))) H3 x d := rd _ fun a m => by
        rcases m with m | m
        · exact .inl (.inl m)
        · rcases List.mem_cons.mp m with z | z
          · rw [z]; exact .inr hDl
          · rcases List.mem_append.mp z with z | z
            · exact .inl (.inr (List.mem_append_left _ z))
            · exact .inl (.inr (List.mem_append_right _ (sub.subset z)))
      refine hs i d acc hd' ja la (Dl :: X) _ H3 σ H3 x (Ok.base Eb) rx _ fun G2 σ2 k2 w2 o2 => ⟨w2, ?_⟩
      obtain ⟨ow, k2⟩ := k2
      refine k2 (Dl :: X) σ2 H3 o2.env _ fun b H4 kb ex4 inv4 => ?_
      have E4 := o2.env.mono ex4 inv4
      cases b with
      | true =>
        show te σ2 H4 _
        refine kb.1 rfl (Dl :: X) σ2 H4 E4 _ fun d' v H5 j5 ex5 inv5 r5 => ?_
        have e35 := ex4.trans ex5
        have eD5 : H5 Dl = some (.lst us) := e35.kp _ _ eD3 fun m => absurd m nW
        refine ⟨us, eD5, small_len (by rw [rD.length]; omega), acc ++ [d'], us ++ [v], j5, by rw [List.length_append, List.length_singleton]; omega, (e3.trans e35).mutN hDl, W.dep H5 _ inv5 fun a o ma e => by rw [upd_ne fun z => nW (by rw [← z]; exact ma)]; exact e, upd_same, ?_⟩
        have r5' : Rep (fun a => a = Dl ∨ mo W (X ++ owned G) a) H5 v d' := r5.less fun a m => by
          rw [ow]
          rcases m with m | m
          · rw [m]; exact .inr (List.mem_cons_self ..)
          · exact m.imp id fun z => List.mem_cons_of_mem _ z
        have rD5 : RepAll (fun a => a = Dl ∨ mo W (X ++ owned G) a) H5 us acc := rD3.mono e35 fun _ m => .inr (.inl m)
        exact RepAll.upd' (M := fun a => a = Dl ∨ mo W (X ++ owned G) a) (p := Dl) (fun a o z e => by rw [upd_ne z]; exact e) (fun o e => by rw [eD5] at e; cases e; exact ⟨_, rfl⟩) (fun a m => .inr m) (.inl rfl) (rD5.append (.cons r5' .nil))
      | false =>
        show ∃ acc us, _
        exact ⟨acc, us, kb.2 rfl, by omega, e3.trans ex4, inv4, ex4.kp _ _ eD3 fun m => absurd m nW, rD3.mono ex4 fun _ m => .inr (.inl m)⟩
    · rintro H2 ⟨acc, us, ja, _, e2, inv2, eD, rD⟩
      exact q acc Dl us H2 (hd acc ja) (ex.none hDl) (ex.trans e2) inv2 eD nW rD
end
end Pd

namespace Pd
open PySem L2 RZ
section
variable {W : Wd} {G : List Ent} {te ta tb tc tl : TE} {t u : TT} {E : Post} {K : PySem.W.Frag} {KK : D → Prop} {KB : Bool → Prop}
/-! ### tests -/
theorem evt_test (h : Ev W G te fun d => ∃ b, d = .bl b ∧ KB b) : EvT W G (tTest te) KB := fun X σ H E Q q =>
  h X σ H E _ fun d v H' k ex inv r => by
    obtain ⟨b, rfl, k⟩ := k
    cases r
    exact ⟨b, rfl, q b H' k ex inv⟩
theorem evt_B (h : Ev W G te fun d => ∃ b, d = .bl b ∧ KB b) : EvT W G (tB te) KB := fun X σ H E Q q =>
  h X σ H E _ fun d v H' k ex inv r => by
    obtain ⟨b, rfl, k⟩ := k
    cases r
    exact ⟨b, rfl, q b H' k ex inv⟩
theorem evt_and (h : EvT W G t fun b => (b = true → EvT W G u KB) ∧ (b = false → KB false)) : EvT W G (tAnd t u) KB := fun X σ H E Q q =>
  h X σ H E _ fun b H' k ex inv => by
    cases b with
    | true => exact k.1 rfl X σ H' (E.mono ex inv) Q fun b H2 k2 ex2 inv2 => q b H2 k2 (ex.trans ex2) inv2
    | false => exact q false H' (k.2 rfl) ex inv
theorem evt_or (h : EvT W G t fun b => (b = true → KB true) ∧ (b = false → EvT W G u KB)) : EvT W G (tOr t u) KB := fun X σ H E Q q =>
  h X σ H E _ fun b H' k ex inv => by
    cases b with
    | false => exact k.2 rfl X σ H' (E.mono ex inv) Q fun b H2 k2 ex2 inv2 => q b H2 k2 (ex.trans ex2) inv2
    | true => exact q true H' (k.1 rfl) ex inv
theorem evt_not (h : EvT W G t fun b => KB (!b)) : EvT W G (tNot t) KB := fun X σ H E Q q =>
  h X σ H E _ fun b H' k ex inv => q (!b) H' k ex inv
theorem evt_yes (k : KB true) : EvT W G tYes KB := fun X σ H E Q q => q true H k (Ex.refl _ _) E.inv
/-- truth of data -/
def truD : D → Bool
  | .non => false
  | .bl b => b
  | .int i => i != 0
  | .str x => (x.length : Int) != 0
  | .tup ds => !ds.isEmpty
  | .lst ds => !ds.isEmpty
  | .dct => false
  | .rg _ _ => false
  | .obj _ _ _ => true
def smallD : D → Bool
  | .str x => decide (x.length ≤ 100000)
  | .dct => false
  | .rg _ _ => false
  | .obj _ _ _ => false
  | _ => true
theorem isEmpty_rep {M : Addr → Prop} {H : Hp} {vs : List V} {ds : List D} (r : RepAll M H vs ds) : vs.isEmpty = ds.isEmpty := by cases r <;> rfl
theorem evt_tru (h : EvB W G te fun d => smallD d = true ∧ KB (truD d)) : EvT W G (fun σ H Q => te σ H fun x H' => ∃ k, TruV K x H' k ∧ Q k H') KB := fun X σ H E Q q =>
  h X σ H E _ fun d v H' ⟨hs, k⟩ ex inv r => by
    refine ⟨truD d, ?_, q _ H' k ex inv⟩
    cases d with
    | non => rw [r.non]; rfl
    | bl b => rw [r.bl]; rfl
    | int i => rw [r.int]; rfl
    | str x =>
      rw [r.str]
      exact ⟨small_le (of_decide_eq_true hs), rfl⟩
    | tup ds =>
      obtain ⟨a, vs, rfl, ha, r⟩ := r.tup
      exact .inr (.inl ⟨vs, .inl ha, by rw [isEmpty_rep r]; rfl⟩)
    | lst ds =>
      obtain ⟨a, vs, rfl, ha, r⟩ := r.lst
      exact .inl ⟨vs, .inl (.inl ha), by rw [isEmpty_rep r]; rfl⟩
    | dct => exact absurd hs (by simp [smallD])
    | rg _ _ => exact absurd hs (by simp [smallD])
    | obj _ _ _ => exact absurd hs (by simp [smallD])
theorem ev_andV (h : Ev W G ta fun d => ∃ b, d = .bl b ∧ (b = true → Ev W G tb KK) ∧ (b = false → KK (.bl false))) : Ev W G (tAndV ta tb) KK := fun X σ H E Q q =>
  h X σ H E _ fun d v H' k ex inv r => by
    obtain ⟨b, rfl, k⟩ := k
    cases r
    refine ⟨b, rfl, ?_⟩
    cases b with
    | true => exact k.1 rfl X σ H' (E.mono ex inv) Q fun d v H2 k2 ex2 inv2 r2 => q d v H2 k2 (ex.trans ex2) inv2 r2
    | false => exact q _ _ H' (k.2 rfl) ex inv (.bl false)
theorem ev_orV (h : Ev W G ta fun d => ∃ b, d = .bl b ∧ (b = true → KK (.bl true)) ∧ (b = false → Ev W G tb KK)) : Ev W G (tOrV ta tb) KK := fun X σ H E Q q =>
  h X σ H E _ fun d v H' k ex inv r => by
    obtain ⟨b, rfl, k⟩ := k
    cases r
    refine ⟨b, rfl, ?_⟩
    cases b with
    | false => exact k.2 rfl X σ H' (E.mono ex inv) Q fun d v H2 k2 ex2 inv2 r2 => q d v H2 k2 (ex.trans ex2) inv2 r2
    | true => exact q _ _ H' (k.1 rfl) ex inv (.bl true)
theorem ev_notV (h : Ev W G ta fun d => ∃ b, d = .bl b ∧ KK (.bl (!b))) : Ev W G (tNotV ta) KK := fun X σ H E Q q =>
  h X σ H E _ fun d v H' k ex inv r => by
    obtain ⟨b, rfl, k⟩ := k
    cases r
    exact ⟨b, rfl, q _ _ H' k ex inv (.bl _)⟩
theorem ev_if (h : EvT W G t fun b => (b = true → Ev W G ta KK) ∧ (b = false → Ev W G tb KK)) : Ev W G (tIf t ta tb) KK := fun X σ H E Q q =>
  h X σ H E _ fun b H' k ex inv => by
    cases b with
    | true => exact k.1 rfl X σ H' (E.mono ex inv) Q fun d v H2 k2 ex2 inv2 r2 => q d v H2 k2 (ex.trans ex2) inv2 r2
    | false => exact k.2 rfl X σ H' (E.mono ex inv) Q fun d v H2 k2 ex2 inv2 r2 => q d v H2 k2 (ex.trans ex2) inv2 r2
theorem ev_chain {r r' : R2} (h : Ev W G ta fun x => Ev W G tb fun y => OpD r x y fun z => ∃ b, z = .bl b ∧ (b = true → Ev W G tc fun w => OpD r' y w KK) ∧ (b = false → KK (.bl false))) : Ev W G (tChain r r' ta tb tc) KK := fun X σ H E Q q =>
  h X σ H E _ fun x v H1 k e1 i1 r1 => k X σ H1 (E.mono e1 i1) _ fun y u H2 k2 e2 i2 r2 => by
    have E2 := (E.mono e1 i1).mono e2 i2
    refine k2 W.M (mo W (X ++ owned G)) v u H2 (.inl (r1.mono e2 fun _ m => .inl m)) (.inl r2) (mo_there E2) _ fun d z H' k3 ex r3 => ?_
    obtain ⟨b, rfl, k3⟩ := k3
    cases r3
    refine ⟨b, rfl, ?_⟩
    have E3 := E2.mono (ex _) (inv_same i2 ex)
    cases b with
    | true =>
      refine k3.1 rfl X σ H' E3 _ fun w w' H4 k4 e4 i4 r4 => ?_
      exact k4 W.M (mo W (X ++ owned G)) u w' H4 (.inl ((r2.mono (ex _) fun _ m => .inl m).mono e4 fun _ m => .inl m)) (.inl r4) (mo_there (E3.mono e4 i4)) Q fun d z H5 k5 ex5 r5 => q d z H5 k5 ((((e1.trans e2).trans (ex _)).trans e4).trans (ex5 _)) (inv_same i4 ex5) r5
    | false => exact q _ _ H' (k3.2 rfl) ((e1.trans e2).trans (ex _)) (inv_same i2 ex) (.bl false)
theorem ev_un {r : V → Hp → VK → Prop} (h : Ev W G ta fun x => CallD (fun vs H Q => ∃ v, vs = [v] ∧ r v H Q) [.d x] KK) : Ev W G (tUn r ta) KK := fun X σ H E Q q =>
  h X σ H E _ fun x v H1 k e1 i1 r1 => by
    obtain ⟨_, e, z⟩ := k (mo W (X ++ owned G)) [v] H1 (.cons r1 .nil) (mo_there (E.mono e1 i1)) Q fun d z H' k3 ex r3 => q d z H' k3 (e1.trans (ex _)) (inv_same i1 ex) r3
    cases e
    exact z
theorem und_neg {i : Int} (k : KK (.int (-i))) : CallD (fun vs H Q => ∃ v, vs = [v] ∧ rU (fun i => .int (-i)) v H Q) [.d (.int i)] KK := fun M vs H r th Q q => by
  cases r with
  | cons r t => cases t; cases r; exact ⟨_, rfl, i, rfl, q _ _ H k (fun _ => Ex.refl _ _) (.int _)⟩
theorem und_inv {i : Int} (k : KK (.int (Builtin.bitNot i))) : CallD (fun vs H Q => ∃ v, vs = [v] ∧ rU (fun i => .int (Builtin.bitNot i)) v H Q) [.d (.int i)] KK := fun M vs H r th Q q => by
  cases r with
  | cons r t => cases t; cases r; exact ⟨_, rfl, i, rfl, q _ _ H k (fun _ => Ex.refl _ _) (.int _)⟩

/-! ### displays -/
/-- entries that are data -/
def datas : List Ent → Option (List D)
  | [] => some []
  | .d d :: es => (datas es).map (d :: ·)
  | _ :: _ => none
theorem datas_rep {M : Addr → Prop} {H : Hp} : ∀ {vs : List V} {es : List Ent} {ds : List D}, EntVs M H vs es → datas es = some ds → RepAll M H vs ds
  | _, [], _, .nil, e => by cases e; exact .nil
  | _, .d d :: es, ds, .cons r t, e => by
    unfold datas at e
    cases q : datas es with
    | none => rw [q] at e; cases e
    | some ds' =>
      rw [q] at e
      have e' : d :: ds' = ds := Option.some.inj e
      subst e'
      exact .cons r (datas_rep t q)
  | _, .no :: _, _, .cons _ _, e => by cases e
  | _, .raw _ :: _, _, .cons _ _, e => by cases e
  | _, .own _ _ :: _, _, .cons _ _, e => by cases e
  | _, .odk _ _ _ :: _, _, .cons _ _, e => by cases e
  | _, .frz _ _ _ :: _, _, .cons _ _, e => by cases e
theorem EntVs.length {M : Addr → Prop} {H : Hp} {vs : List V} {es : List Ent} (r : EntVs M H vs es) : vs.length = es.length := by
  induction r with
  | nil => rfl
  | cons _ _ ih => rw [List.length_cons, List.length_cons, ih]
theorem ev_tup {tt : TA} (h : EvA W G tt fun es => ∃ ds, datas es = some ds ∧ es.length ≤ 100000 ∧ KK (.tup ds)) : Ev W G (tTup tt) KK := fun X σ H E Q q =>
  h X σ H E _ fun es vs H' ⟨ds, hd, hl, k⟩ ho ex inv r => ⟨small_le (by rw [r.length]; exact hl), fun p hp =>
    q _ _ _ k (ex.trans (Ex.new hp)) (inv_same inv fun _ => Ex.new hp) (.tup (.inl upd_same) ((datas_rep r hd).mono (Ex.new (M := fun _ => False) hp) fun _ m => m.elim))⟩
theorem RepAll.new {W : Wd} {X : List Addr} {G : List Ent} {σ : L2.St} {H : Hp} {p : Addr} {o : HO} {vs : List V} {ds : List D} (E : Env W X H σ G) (hp : H p = none) (r : RepAll (mo W (X ++ owned G)) H vs ds) : RepAll (fun a => a = p ∨ mo W (X ++ owned G) a) (upd H p o) vs ds :=
  (RepAll.avoid (p := p) (fun xs z => by rw [hp] at z; cases z) (fun a m => m) r).mono (Ex.new (M := fun _ => False) hp) fun _ m => m.elim
/-- a new list laid -/
theorem evl_new {KL : List D → Prop} {X : List Addr} {σ : L2.St} {H H1 : Hp} {Q : VK} {vs : List V} {ds : List D} (E : Env W X H σ G)
    (q : ∀ ds p vs H', KL ds → H p = none → Ex W.M H H' → W.inv H' → H' p = some (.lst vs) → ¬ W.M p → RepAll (fun a => a = p ∨ mo W (X ++ owned G) a) H' vs ds → Q (.ref p) H')
    (ex : Ex W.M H H1) (inv : W.inv H1) (k : KL ds) (r : RepAll (mo W (X ++ owned G)) H1 vs ds) : ∀ p, H1 p = none → Q (.ref p) (upd H1 p (.lst vs)) := fun p hp => by
  have E1 := E.mono ex inv
  exact q ds p vs _ k (ex.none hp) (ex.trans (Ex.new hp)) (inv_same inv fun _ => Ex.new hp) upd_same (new_ne inv hp) (r.new E1 hp)
theorem evl_lst {tt : TA} {KL : List D → Prop} (h : EvA W G tt fun es => ∃ ds, datas es = some ds ∧ es.length ≤ 100000 ∧ KL ds) : EvL W G (tLst tt) KL := fun X σ H E Q q =>
  h X σ H E _ fun es vs H' ⟨ds, hd, hl, k⟩ ho ex inv r => ⟨small_le (by rw [r.length]; exact hl), evl_new E q ex inv k (datas_rep r hd)⟩
theorem eva_d {tr : TA} {KA : List Ent → Prop} (h : Ev W G ta fun d => EvA W G tr fun es => KA (.d d :: es)) : EvA W G (tCons ta tr) KA := eva_cons h.e

/-! ### operations -/
theorem rep_int {M : Addr → Prop} {H : Hp} {i : Int} : Rep M H (.int i) (.int i) := .int i
theorem opd_add {i j : Int} (k : KK (.int (i + j))) : OpD (rI0 fun i j => .int (i + j)) (.int i) (.int j) KK := OpD.int (fun _ _ => .int _) k
theorem opd_sub {i j : Int} (k : KK (.int (i - j))) : OpD (rI0 fun i j => .int (i - j)) (.int i) (.int j) KK := OpD.int (fun _ _ => .int _) k
theorem opd_lt {i j : Int} (k : KK (.bl (decide (i < j)))) : OpD (rI0 fun i j => .bl (decide (i < j))) (.int i) (.int j) KK := OpD.int (fun _ _ => .bl _) k
theorem opd_le {i j : Int} (k : KK (.bl (decide (i ≤ j)))) : OpD (rI0 fun i j => .bl (decide (i ≤ j))) (.int i) (.int j) KK := OpD.int (fun _ _ => .bl _) k
theorem opd_gt {i j : Int} (k : KK (.bl (decide (j < i)))) : OpD (rI0 fun i j => .bl (decide (j < i))) (.int i) (.int j) KK := OpD.int (fun _ _ => .bl _) k
theorem opd_ge {i j : Int} (k : KK (.bl (decide (j ≤ i)))) : OpD (rI0 fun i j => .bl (decide (j ≤ i))) (.int i) (.int j) KK := OpD.int (fun _ _ => .bl _) k
theorem opd_and {i j : Int} (k : KK (.int (Builtin.bitAnd i j))) : OpD (rI0 fun i j => .int (Builtin.bitAnd i j)) (.int i) (.int j) KK := OpD.int (fun _ _ => .int _) k
theorem opd_or {i j : Int} (k : KK (.int (Builtin.bitOr i j))) : OpD (rI0 fun i j => .int (Builtin.bitOr i j)) (.int i) (.int j) KK := OpD.int (fun _ _ => .int _) k
theorem opd_xor {i j : Int} (k : KK (.int (Builtin.bitXor i j))) : OpD (rI0 fun i j => .int (Builtin.bitXor i j)) (.int i) (.int j) KK := OpD.int (fun _ _ => .int _) k
theorem opd_mul {i j : Int} (c : CMul i j) (k : KK (.int (i * j))) : OpD (rI CMul fun i j => .int (i * j)) (.int i) (.int j) KK := OpD.intC c (fun _ _ => .int _) k
theorem opd_mod {i j : Int} (c : 0 < j) (k : KK (.int (i % j))) : OpD (rI (fun _ j => 0 < j) fun i j => .int (i % j)) (.int i) (.int j) KK := OpD.intC c (fun _ _ => .int _) k
theorem opd_div {i j : Int} (c : CDiv i j) (k : KK (.int (i / j))) : OpD (rI CDiv fun i j => .int (i / j)) (.int i) (.int j) KK := OpD.intC c (fun _ _ => .int _) k
theorem opd_pow {i j : Int} (c : CPow i j) (k : KK (.int (i ^ j.toNat))) : OpD (rI CPow fun i j => .int (i ^ j.toNat)) (.int i) (.int j) KK := OpD.intC c (fun _ _ => .int _) k
theorem opd_shl {i j : Int} (c : CPow i j) (k : KK (.int (i * 2 ^ j.toNat))) : OpD (rI CPow fun i j => .int (i * 2 ^ j.toNat)) (.int i) (.int j) KK := OpD.intC c (fun _ _ => .int _) k
theorem opd_shr {i j : Int} (c : 0 ≤ j) (k : KK (.int (i / 2 ^ j.toNat))) : OpD (rI (fun _ j => 0 ≤ j) fun i j => .int (i / 2 ^ j.toNat)) (.int i) (.int j) KK := OpD.intC c (fun _ _ => .int _) k
/-! is None -/
def isNonD : D → Bool
  | .non => true
  | _ => false
theorem isNon_rep {Mw M : Addr → Prop} {H : Hp} {v : V} {x : D} (r1 : RepB Mw M H v x) : decide (v = .non) = isNonD x := by
  cases x with
  | non => rw [r1.non]; rfl
  | bl b => rw [r1.bl]; rfl
  | int i => rw [r1.int]; rfl
  | str i => rw [r1.str]; rfl
  | tup ds => obtain ⟨a, vs, rfl, _⟩ := r1.tup; rfl
  | lst ds => obtain ⟨a, vs, rfl, _⟩ := r1.lst; rfl
  | dct =>
    rcases r1 with r1 | ⟨_, _, _, _, z, _⟩
    · cases r1; rfl
    · cases z
  | rg lo hi =>
    rcases r1 with r1 | ⟨_, _, _, _, z, _⟩
    · cases r1; rfl
    · cases z
  | obj C ns ds =>
    rcases r1 with r1 | ⟨_, _, _, _, z, _⟩
    · cases r1; rfl
    · cases z
theorem opd_isN {x : D} (k : KK (.bl (isNonD x))) : OpD (fun x y H Q => y = V.non ∧ Q (.bl (decide (x = .non))) H) x .non KK := fun Mw M v u H r1 r2 th Q q => by
  refine ⟨r2.non, ?_⟩
  rw [isNon_rep r1]
  exact q _ _ H k (fun _ => Ex.refl _ _) (.bl _)
theorem opd_notN {x : D} (k : KK (.bl (!isNonD x))) : OpD (fun x y H Q => y = V.non ∧ Q (.bl (!decide (x = .non))) H) x .non KK := fun Mw M v u H r1 r2 th Q q => by
  refine ⟨r2.non, ?_⟩
  rw [isNon_rep r1]
  exact q _ _ H k (fun _ => Ex.refl _ _) (.bl _)
/-! == of data -/
mutual
def toP : D → PyData
  | .non => .none
  | .bl b => .bool b
  | .int i => .int i
  | .str x => .str x
  | .tup ds => .tuple (toPs ds)
  | .lst ds => .list (toPs ds)
  | .dct => .dict []
  | .rg _ _ => .dict []
  | .obj _ _ _ => .dict []
def toPs : List D → List PyData
  | [] => []
  | d :: ds => toP d :: toPs ds
end
mutual
def plain : D → Bool
  | .dct => false
  | .rg _ _ => false
  | .obj _ _ _ => false
  | .tup ds => plains ds
  | .lst ds => plains ds
  | .non => true
  | .bl _ => true
  | .int _ => true
  | .str _ => true
def plains : List D → Bool
  | [] => true
  | d :: ds => plain d && plains ds
end
mutual
theorem Rep.dp {M : Addr → Prop} {H : Hp} : ∀ {v : V} {d : D}, Rep M H v d → plain d = true → Dp K H v (toP d)
  | _, _, .non, _ => .non
  | _, _, .bl b, _ => .bl b
  | _, _, .int i, _ => .int i
  | _, _, .str x, _ => .str x
  | _, _, .tup h r, p => .tup (.inl h) (RepAll.dp r (by simpa [plain] using p))
  | _, _, .lst n h r, p => .lst (.inl (.inl h)) (RepAll.dp r (by simpa [plain] using p))
  | _, _, .dct _, p => absurd p (by simp [plain])
  | _, _, .rg _, p => absurd p (by simp [plain])
  | _, _, .obj _ _ _ _, p => absurd p (by simp [plain])
theorem RepAll.dp {M : Addr → Prop} {H : Hp} : ∀ {vs : List V} {ds : List D}, RepAll M H vs ds → plains ds = true → DpAll K H vs (toPs ds)
  | _, _, .nil, _ => .nil
  | _, _, .cons r t, p => .cons (Rep.dp r (by simp [plains] at p; exact p.1)) (RepAll.dp t (by simp [plains] at p; exact p.2))
end
theorem RepB.dp {Mw M : Addr → Prop} {H : Hp} {v : V} {d : D} (r : RepB Mw M H v d) (p : plain d = true) : Dp K H v (toP d) := by
  rcases r with r | ⟨a, vs, ds, rfl, rfl, _, h, r⟩
  · exact r.dp p
  · exact .lst (.inl (.inl h)) (r.dp (by simpa [plain] using p))
def eqD (x y : D) : Bool := PyData.eqv (toP x) (toP y)
def okD (x : D) : Bool := plain x && SeqAt.shaped (toP x)
theorem opd_eq {x y : D} (hx : okD x = true) (hy : okD y = true) (k : KK (.bl (eqD x y))) : OpD (rEqD K) x y KK := fun Mw M v u H r1 r2 th Q q => by
  obtain ⟨p1, s1⟩ := Bool.and_eq_true_iff.mp hx
  obtain ⟨p2, s2⟩ := Bool.and_eq_true_iff.mp hy
  exact ⟨toP x, toP y, r1.dp p1, r2.dp p2, s1, s2, q _ _ H k (fun _ => Ex.refl _ _) (.bl _)⟩
theorem opd_ne {x y : D} (hx : okD x = true) (hy : okD y = true) (k : KK (.bl (!eqD x y))) : OpD (rNeD K) x y KK := fun Mw M v u H r1 r2 th Q q => by
  obtain ⟨p1, s1⟩ := Bool.and_eq_true_iff.mp hx
  obtain ⟨p2, s2⟩ := Bool.and_eq_true_iff.mp hy
  exact ⟨toP x, toP y, r1.dp p1, r2.dp p2, s1, s2, q _ _ H k (fun _ => Ex.refl _ _) (.bl _)⟩
/-! items, parts -/
theorem atI_rep {M : Addr → Prop} {H : Hp} {vs : List V} {ds : List D} {i : Int} {d : D} (r : RepAll M H vs ds) (h : atI ds i = some d) : ∃ v, atI vs i = some v ∧ Rep M H v d := by
  unfold atI at h ⊢
  rw [r.length]
  cases e : ixN ds.length i with
  | none => rw [e] at h; cases h
  | some j =>
    rw [e] at h
    exact r.get h
def ixD : D → Int → Option D
  | .tup ds, i => atI ds i
  | .lst ds, i => atI ds i
  | _, _ => none
theorem opd_ix {x : D} {i : Int} {d : D} (h : ixD x i = some d) (k : KK d) : OpD (rIx K) x (.int i) KK := fun Mw M v u H r1 r2 th Q q => by
  rw [r2.int]
  cases x with
  | tup ds =>
    obtain ⟨a, vs, rfl, ha, r⟩ := r1.tup
    obtain ⟨w, hw, rw'⟩ := atI_rep r h
    exact .inr (.inl ⟨a, vs, i, w, rfl, rfl, .inl ha, hw, q _ _ H k (fun _ => Ex.refl _ _) rw'⟩)
  | lst ds =>
    obtain ⟨a, vs, rfl, ha, r⟩ := r1.lst
    obtain ⟨w, hw, rw'⟩ := atI_rep r h
    exact .inl ⟨a, vs, i, w, rfl, rfl, .inl (.inl ha), hw, q _ _ H k (fun _ => Ex.refl _ _) rw'⟩
  | _ => cases h
theorem atI_of {ds : List D} {j : Nat} {d : D} (h : ds[j]? = some d) : atI ds (j : Int) = some d := by
  have hj := (List.getElem?_eq_some_iff.mp h).1
  unfold atI ixN
  rw [if_pos (by omega), if_pos (by omega)]
  simpa using h
theorem atI_last {ds : List D} {d : D} (h : ds.getLast? = some d) : atI ds (-1) = some d := by
  rw [List.getLast?_eq_getElem?] at h
  have hj := (List.getElem?_eq_some_iff.mp h).1
  unfold atI ixN
  rw [if_neg (by omega), if_pos (by omega)]
  have e : (-1 + (ds.length : Int)).toNat = ds.length - 1 := by omega
  rw [e]
  simpa using h
/-- parts of slices -/
def EvO (W : Wd) (G : List Ent) (to : TO) (K : Option Int → Prop) : Prop := ∀ X σ H, Env W X H σ G → ∀ Q : Option Int → Hp → Prop, (∀ o H', K o → Ex W.M H H' → W.inv H' → Q o H') → to σ H Q
theorem evo_none {KO : Option Int → Prop} (k : KO none) : EvO W G tNoPart KO := fun X σ H E Q q => q none H k (Ex.refl _ _) E.inv
theorem evo_some {KO : Option Int → Prop} (h : Ev W G te fun d => ∃ i, d = .int i ∧ KO (some i)) : EvO W G (tPart te) KO := fun X σ H E Q q =>
  h X σ H E _ fun d v H' k ex inv r => by
    obtain ⟨i, rfl, k⟩ := k
    cases r
    exact ⟨i, rfl, q _ H' k ex inv⟩
def cutD (xs : List D) (lo hi : Option Int) : List D := (xs.drop (HT.sIx xs.length 0 lo)).take (HT.sIx xs.length xs.length hi - HT.sIx xs.length 0 lo)
theorem cut_rep {M : Addr → Prop} {H : Hp} {vs : List V} {ds : List D} {lo hi : Option Int} (r : RepAll M H vs ds) : RepAll M H (cutV vs lo hi) (cutD ds lo hi) := by
  unfold cutV cutD
  rw [r.length]
  exact (r.drop _).take _
theorem cutD_whole {xs : List D} {lo hi : Option Int} (h : HT.sIx xs.length 0 lo = 0 ∧ HT.sIx xs.length xs.length hi = xs.length) : cutD xs lo hi = xs := by
  unfold cutD
  rw [h.1, h.2]
  simp
theorem ev_slT {tlo thi : TO} (h : Ev W G te fun x => ∃ ds, x = .tup ds ∧ EvO W G tlo fun lo => EvO W G thi fun hi => KK (.tup (cutD ds lo hi))) : Ev W G (tSl (rSlA K) te tlo thi) KK := fun X σ H E Q q =>
  h X σ H E _ fun x v H1 k e1 i1 r1 => by
    obtain ⟨ds, rfl, k⟩ := k
    refine k X σ H1 (E.mono e1 i1) _ fun lo H2 k2 e2 i2 => k2 X σ H2 ((E.mono e1 i1).mono e2 i2) _ fun hi H3 k3 e3 i3 => ?_
    have r3 := r1.mono (e2.trans e3) fun _ m => .inl m
    have e := (e1.trans e2).trans e3
    cases r3 with
    | @tup a vs _ ha r =>
      refine ⟨a, vs, rfl, .inl ha, fun hw => ?_, fun _ p hp => ?_⟩
      · rw [r.length] at hw
        have k3 : KK (.tup (cutD ds lo hi)) := k3
        rw [cutD_whole hw] at k3
        exact q _ _ H3 k3 e i3 (.tup ha r)
      · exact q _ _ _ k3 (e.trans (Ex.new hp)) (inv_same i3 fun _ => Ex.new hp) (.tup (.inl upd_same) ((cut_rep r).mono (Ex.new (M := fun _ => False) hp) fun _ m => m.elim))
theorem evl_slL {KL : List D → Prop} {tlo thi : TO} (h : EvB W G te fun x => ∃ ds, x = .lst ds ∧ EvO W G tlo fun lo => EvO W G thi fun hi => KL (cutD ds lo hi)) : EvL W G (tSl (rSlL K) te tlo thi) KL := fun X σ H E Q q =>
  h X σ H E _ fun x v H1 k e1 i1 r1 => by
    obtain ⟨ds, rfl, k⟩ := k
    refine k X σ H1 (E.mono e1 i1) _ fun lo H2 k2 e2 i2 => k2 X σ H2 ((E.mono e1 i1).mono e2 i2) _ fun hi H3 k3 e3 i3 => ?_
    obtain ⟨a, vs, rfl, ha, r⟩ := (r1.mono (e2.trans e3)).lst
    exact ⟨a, vs, rfl, .inl (.inl ha), evl_new E q ((e1.trans e2).trans e3) i3 k3 (cut_rep r)⟩
/-! + of tuples, of lists -/
theorem opd_catT {xs ys : List D} (hl : xs.length + ys.length ≤ 100000) (k : KK (.tup (xs ++ ys))) : OpD (rCatA K) (.tup xs) (.tup ys) KK := fun Mw M v u H r1 r2 th Q q => by
  obtain ⟨a, vs, rfl, ha, r⟩ := r1.tup
  obtain ⟨b, us, rfl, hb, s⟩ := r2.tup
  refine ⟨a, b, vs, us, rfl, rfl, .inl ha, .inl hb, small_le (by rw [r.length, s.length]; exact hl), fun e => ?_, fun _ e => ?_, fun _ _ p hp => ?_⟩
  · subst e; cases r
    exact q _ _ H k (fun _ => Ex.refl _ _) (.tup hb s)
  · subst e; cases s
    rw [List.append_nil] at k
    exact q _ _ H k (fun _ => Ex.refl _ _) (.tup ha r)
  · exact q _ _ _ k (fun _ => Ex.new hp) (.tup (.inl upd_same) ((r.append s).mono (Ex.new (M := fun _ => False) hp) fun _ m => m.elim))
theorem evl_cat {KL : List D → Prop} (h : EvB W G ta fun x => EvB W G tb fun y => ∃ xs ys, x = .lst xs ∧ y = .lst ys ∧ xs.length + ys.length ≤ 100000 ∧ KL (xs ++ ys)) : EvL W G (tOp rCat ta tb) KL := fun X σ H E Q q =>
  h X σ H E _ fun x v H1 k e1 i1 r1 => k X σ H1 (E.mono e1 i1) _ fun y u H2 k2 e2 i2 r2 => by
    obtain ⟨xs, ys, rfl, rfl, hl, k2⟩ := k2
    obtain ⟨a, vs, rfl, ha, r⟩ := (r1.mono e2).lst
    obtain ⟨b, us, rfl, hb, s⟩ := r2.lst
    exact ⟨a, b, vs, us, rfl, rfl, ha, hb, small_le (by rw [r.length, s.length]; exact hl), evl_new E q (e1.trans e2) i2 k2 (r.append s)⟩
theorem rep_flat {M : Addr → Prop} {H : Hp} {vs : List V} {ds : List D} (r : RepAll M H vs ds) : ∀ n, RepAll M H (List.replicate n vs).flatten (List.replicate n ds).flatten
  | 0 => .nil
  | n + 1 => by
    rw [List.replicate_succ, List.replicate_succ, List.flatten_cons, List.flatten_cons]
    exact r.append (rep_flat r n)
/-! `in` -/
def flatD : D → Bool
  | .non => true | .bl _ => true | .int _ => true | .str _ => true | _ => false
def inD (x : D) (xs : List D) : Bool := xs.any fun y => eqD y x
theorem flat_rep {M : Addr → Prop} {H : Hp} {v : V} {d : D} (r : Rep M H v d) (h : flatD d = true) : flatV v = true := by
  cases r <;> first | rfl | cases h
theorem eqV_rep {M : Addr → Prop} {H : Hp} {v u : V} {d e : D} (r : Rep M H v d) (s : Rep M H u e) (h : flatD d = true) (h' : flatD e = true) : eqV v u = eqD d e := by
  cases r <;> cases s <;> first | rfl | cases h | cases h'
theorem in_rep {M : Addr → Prop} {H : Hp} {v : V} {d : D} (r : Rep M H v d) (h : flatD d = true) : ∀ {vs : List V} {ds : List D}, RepAll M H vs ds → ds.all flatD = true → inV v vs = inD d ds ∧ vs.all flatV = true
  | _, _, .nil, _ => ⟨rfl, rfl⟩
  | _, _, .cons (ds := ds) r' t, p => by
    rw [List.all_cons, Bool.and_eq_true] at p
    obtain ⟨h1, h2⟩ := in_rep r h t p.2
    refine ⟨?_, ?_⟩
    · unfold inV inD at h1 ⊢
      rw [List.any_cons, List.any_cons, h1, eqV_rep r' r p.1 h]
    · rw [List.all_cons, flat_rep r' p.1, h2]; rfl
def seqD : D → Option (List D)
  | .tup ds => some ds
  | .lst ds => some ds
  | _ => none
theorem opd_in {neg : Bool} {x y : D} {ds : List D} (hy : seqD y = some ds) (hx : flatD x = true) (hf : ds.all flatD = true) (k : KK (.bl (if neg then !inD x ds else inD x ds))) : OpD (rIn K neg) x y KK := fun Mw M v u H r1 r2 th Q q => by
  have r1' : Rep M H v x := by
    rcases r1 with r1 | ⟨a, vs, ds', rfl, rfl, _, _, _⟩
    · exact r1
    · cases hx
  cases y with
  | tup ds' =>
    cases hy
    obtain ⟨a, vs, rfl, ha, r⟩ := r2.tup
    obtain ⟨h1, h2⟩ := in_rep r1' hx r hf
    exact ⟨a, vs, rfl, .inr (.inl ha), flat_rep r1' hx, h2, by rw [h1]; exact q _ _ H k (fun _ => Ex.refl _ _) (.bl _)⟩
  | lst ds' =>
    cases hy
    obtain ⟨a, vs, rfl, ha, r⟩ := r2.lst
    obtain ⟨h1, h2⟩ := in_rep r1' hx r hf
    exact ⟨a, vs, rfl, .inl (.inl (.inl ha)), flat_rep r1' hx, h2, by rw [h1]; exact q _ _ H k (fun _ => Ex.refl _ _) (.bl _)⟩
  | _ => cases hy
/-! ### fields of data -/
theorem lookup_zip {M : Addr → Prop} {H : Hp} {f : Str} {d : D} : ∀ {ns : List Str} {vs : List V} {ds : List D}, RepAll M H vs ds → (ns.zip ds).lookup f = some d → ∃ v, (ns.zip vs).lookup f = some v ∧ Rep M H v d
  | [], _, _, _, h => by simp at h
  | _ :: _, _, _, .nil, h => by simp at h
  | n :: ns, _, _, .cons (v := v) (d := d') r t, h => by
    rw [List.zip_cons_cons, List.lookup_cons] at h
    rw [List.zip_cons_cons, List.lookup_cons]
    cases e : (f == n) with
    | true => rw [e] at h; cases h; exact ⟨v, rfl, r⟩
    | false => rw [e] at h; exact lookup_zip t h
theorem ev_fld {f : Str} (h : Ev W G te fun x => ∃ C ns ds d, x = .obj C ns ds ∧ Cls K C ∧ NoAttr K C f ∧ (ns.zip ds).lookup f = some d ∧ KK d) : Ev W G (tFld K te f) KK := fun X σ H E Q q =>
  h X σ H E _ fun x v H1 k e1 i1 r1 => by
    obtain ⟨C, ns, ds, d, rfl, c, na, hl, k⟩ := k
    cases r1 with
    | @obj a _ dx fs _ vs _ ha hz hlen r =>
      obtain ⟨w, hw, rw'⟩ := lookup_zip r hl
      exact ⟨a, C, dx, fs, w, rfl, ha, c, na, by rw [hz]; exact hw, q _ _ H1 k e1 i1 rw'⟩
/-! ### while -/
theorem st_while {c : TT} {tb : TS} (h : ∃ (I : Nat → List Ent → Prop) (m0 : Nat), I m0 G ∧ ∀ m G', I m G' → EvT W G' c fun b => (b = true → St W G' tb { E with nx := fun G2 => ∃ m', m' < m ∧ I m' G2, ct := fun G2 => ∃ m', m' < m ∧ I m' G2, bk := E.nx }) ∧ (b = false → E.nx G')) :
    St W G (tWhile c tb) E := fun X N H0 σ H o D m => by
  obtain ⟨I, m0, i0, hs⟩ := h
  refine ⟨fun k σ' H' => ∃ G', I k G' ∧ Ok W X N H0 H' σ' G', ⟨m0, G, i0, o⟩, ?_⟩
  rintro k σ' H' ⟨G', iG, o'⟩
  refine hs k G' iG X σ' H' o'.env _ fun b H2 kb ex inv => ?_
  have o2 := o'.mono ex inv
  cases b with
  | true =>
    refine ⟨fun σ3 H3 => ∃ m', m' < k ∧ ∃ G2, I m' G2 ∧ Ok W X N H0 H3 σ3 G2, fun σ3 H3 ⟨m', h1, G2, h2, h3⟩ => ⟨m', h1, G2, h2, h3⟩, ?_⟩
    exact kb.1 rfl X N H0 σ' H2 o2 _ ⟨fun G3 σ3 H3 ⟨m', h1, h2⟩ o3 => ⟨m', h1, G3, h2, o3⟩, m.nx, fun G3 σ3 H3 ⟨m', h1, h2⟩ o3 => ⟨m', h1, G3, h2, o3⟩, m.rt, m.ex, m.rl⟩
  | false => exact m.nx _ _ _ (kb.2 rfl) o2
/-! ### x += e -/
theorem st_aug {i : Nat} {r : V → V → Hp → VK → Prop} {x : D} (hx : G[i]? = some (.d x)) (h : Ev W G te fun y => OpD r x y fun z => E.nx (G.set i (.d z))) : St W G (tAug i te r) E := fun X N H0 σ H o D m => by
  obtain ⟨xo, e, r1⟩ := o.env.ok.get hx
  obtain ⟨v, rfl, r1⟩ := r1
  refine ⟨v, e, h X σ H o.env _ fun y u H' k ex inv r2 => ?_⟩
  have o1 := o.mono ex inv
  exact k W.M (mo W (X ++ owned G)) v u H' (.inl (r1.mono ex fun _ m => .inl m)) (.inl r2) (mo_there o1.env) _ fun d z H2 k2 ex2 r3 => m.nx _ _ _ k2 ((o1.mono (ex2 _) (inv_same inv ex2)).put r3)
end

/-! ### defs -/
/-- the promise of a def, by entries and what is wanted of the answer -/
def FSp (pre : Wd → List Ent → (D → Prop) → Prop) : Sp := fun vs H Q _ => ∃ W X es K, pre W es K ∧ W.inv H ∧ (∀ l ∈ X, ¬ W.M l ∧ ∃ o, H l = some o) ∧ EntVs (mo W X) H vs es ∧ owned es = [] ∧
  ∀ d v H', K d → Ex W.M H H' → W.inv H' → Rep (mo W X) H' v d → Q v H'
theorem ents_of {M : Addr → Prop} {H : Hp} {vs : List V} {es : List Ent} (r : EntVs M H vs es) (n : Nat) : EntsOk M H (vs.map some ++ List.replicate n none) (es ++ List.replicate n .no) := by
  induction r with
  | nil =>
    induction n with
    | zero => exact .nil
    | succ n ih => exact .cons trivial ih
  | @cons v vs e es h t ih =>
    refine .cons ?_ ih
    cases e with
    | no => trivial
    | d d => exact ⟨v, rfl, h⟩
    | raw u => exact congrArg some (show v = u from h)
    | own a ds => obtain ⟨q, us, e1, r⟩ := h; exact ⟨congrArg some q, us, e1, r⟩
    | odk a ns ds => exact h.elim
    | frz _ _ _ => exact h.elim
theorem owned_append (G G' : List Ent) : owned (G ++ G') = owned G ++ owned G' := List.filterMap_append
theorem owned_rep (n : Nat) : owned (List.replicate n .no) = [] := by
  induction n with
  | zero => rfl
  | succ n ih => exact ih
theorem fn_start {N ps : List Str} {t : TS} {pre : Wd → List Ent → (D → Prop) → Prop} (hb : ∀ W es K, pre W es K → es.length = ps.length ∧ St W (es ++ List.replicate (N.length - es.length) .no) t { nx := fun _ => K .non, rt := K }) {vs : List V} {H : Hp} {Q : VK} {E : XK} (h : FSp pre vs H Q E) :
    t { nx := fun _ H' => Q .non H', rt := Q } (L2.start N vs) H := by
  obtain ⟨W, X, es, K, hp, inv, hX, hv, ho, q⟩ := h
  obtain ⟨hl, hs⟩ := hb W es K hp
  have ow : owned (es ++ List.replicate (N.length - es.length) .no) = [] := by rw [owned_append, ho, owned_rep]; rfl
  have en : Env W X H (L2.start N vs) (es ++ List.replicate (N.length - es.length) .no) := by
    refine ⟨?_, by rw [ow]; exact List.nodup_nil, fun l hl => (by rw [ow] at hl; cases hl), hX, inv⟩
    unfold L2.start
    rw [ow, hv.length, List.append_nil]
    exact ents_of hv _
  refine hs X [] H _ H ⟨en, Ex.refl _ _, fun l hl => (by rw [ow] at hl; cases hl)⟩ _ ⟨fun G σ H' k o => ?_, fun _ _ _ z => z.elim, fun _ _ _ z => z.elim, fun d v H' k ex inv r => q d v H' k (ex.weak ?_) inv r, fun _ _ _ _ _ _ z => z.elim, fun _ _ _ _ z => z.elim⟩
  · exact q .non .non H' k (o.ex.weak fun a m => m.elim id fun z => nomatch z) o.env.inv .non
  · exact fun a m => m.elim id fun z => nomatch z
theorem fn_len {pre : Wd → List Ent → (D → Prop) → Prop} {n : Nat} (hb : ∀ W es K, pre W es K → es.length = n) {vs : List V} {H : Hp} {Q : VK} {E : XK} (h : FSp pre vs H Q E) : vs.length = n := by
  obtain ⟨W, X, es, K, hp, inv, hX, hv, ho, q⟩ := h
  rw [hv.length, hb W es K hp]
section
variable {W : Wd} {G : List Ent} {KK : D → Prop} {pre : Wd → List Ent → (D → Prop) → Prop} {ta : TA} {E : XK}
theorem ev_call (h : EvA W G ta fun es => owned es = [] ∧ pre W es KK) : Ev W G (tCall (FSp pre) [] E ta) KK := fun X σ H E1 Q q =>
  h X σ H E1 _ fun es vs H' ⟨ho, k⟩ _ ex inv r => by
    refine ⟨W, X ++ owned G, es, KK, k, inv, fun l hl => ?_, by rw [List.append_nil]; exact r, ho, fun d v H2 k2 ex2 inv2 r2 => q d v H2 k2 (ex.trans ex2) inv2 r2⟩
    have E2 := E1.mono ex inv
    rcases List.mem_append.mp hl with z | z
    · exact E2.xs l z
    · exact ⟨(E2.ap l z).1, mo_there E2 l (.inr (List.mem_append_right _ z))⟩
end
end Pd

namespace Pd
open PySem L2 RZ PyProof.Rows
/-! ### rules over several kinds at once -/
theorem OpR.or2 {X : Cx} {f : Value → Value → Sem Value} {r r' : R2} (h : OpR X f r) (h' : OpR X f r') : OpR X f (fun x y H Q => r x y H Q ∨ r' x y H Q) := by
  intro pins s σ H x y v u Q I rx ry q
  rcases q with q | q
  · exact h pins s σ H x y v u Q I rx ry q
  · exact h' pins s σ H x y v u Q I rx ry q
def rAddI : R2 := rI0 fun i j => .int (i + j)
def rAddS : R2 := fun x y H Q => ∃ i j, x = .str i ∧ y = .str j ∧ i.length + j.length ≤ sizeLine ∧ Q (.str (i ++ j)) H
/-- + -/
def rPlus (K : PySem.W.Frag) : R2 := fun x y H Q => rAddI x y H Q ∨ rCatA K x y H Q ∨ rCat x y H Q ∨ rAddS x y H Q
theorem op_plus {X : Cx} : OpR X (binaryOp .Add) (rPlus X.K) := OpR.or2 op_add (OpR.or2 op_catA (OpR.or2 op_cat op_add_str))
/-- * -/
def rTimes (K : PySem.W.Frag) : R2 := fun x y H Q => rI CMul (fun i j => .int (i * j)) x y H Q ∨ rRep x y H Q ∨ rRepT K x y H Q
theorem op_times {X : Cx} : OpR X (binaryOp .Mult) (rTimes X.K) := OpR.or2 op_mul (OpR.or2 op_rep op_repT)
/-- any slice -/
def rSl3 (K : PySem.W.Frag) : V → Option Int → Option Int → Hp → VK → Prop := fun x lo hi H Q => rSlA K x lo hi H Q ∨ rSlL K x lo hi H Q
theorem sl_any {X : Cx} : SlR X (rSl3 X.K) := sl_tupA.or sl_list
section
variable {W : Wd} {G : List Ent} {te ta tb tc tl : TE} {t u : TT} {E : Post} {K : PySem.W.Frag} {KK : D → Prop} {KB : Bool → Prop}
theorem opd_plusI {i j : Int} (k : KK (.int (i + j))) : OpD (rPlus K) (.int i) (.int j) KK := fun Mw M v u H r1 r2 th Q q => .inl (opd_add k Mw M v u H r1 r2 th Q q)
theorem opd_plusT {xs ys : List D} (hl : xs.length + ys.length ≤ 100000) (k : KK (.tup (xs ++ ys))) : OpD (rPlus K) (.tup xs) (.tup ys) KK := fun Mw M v u H r1 r2 th Q q => .inr (.inl (opd_catT hl k Mw M v u H r1 r2 th Q q))
theorem fresh_list {M : Addr → Prop} {H : Hp} {p : Addr} {vs : List V} {ds : List D} (th : ∀ a, M a → ∃ o, H a = some o) (hp : H p = none) (r : RepAll M H vs ds) : Rep M (upd H p (.lst vs)) (.ref p) (.lst ds) :=
  .lst (fun m => by obtain ⟨o, e⟩ := th p m; rw [hp] at e; cases e) upd_same (r.mono (Ex.new (M := fun _ => False) hp) fun _ m => m.elim)
theorem opd_plusL {xs ys : List D} (hl : xs.length + ys.length ≤ 100000) (k : KK (.lst (xs ++ ys))) : OpD (rPlus K) (.lst xs) (.lst ys) KK := fun Mw M v u H r1 r2 th Q q => by
  obtain ⟨a, vs, rfl, ha, r⟩ := r1.lst
  obtain ⟨b, us, rfl, hb, s⟩ := r2.lst
  exact .inr (.inr (.inl ⟨a, b, vs, us, rfl, rfl, ha, hb, small_le (by rw [r.length, s.length]; exact hl), fun p hp => q _ _ _ k (fun _ => Ex.new hp) (fresh_list th hp (r.append s))⟩))
theorem opd_timesI {i j : Int} (c : CMul i j) (k : KK (.int (i * j))) : OpD (rTimes K) (.int i) (.int j) KK := fun Mw M v u H r1 r2 th Q q => .inl (opd_mul c k Mw M v u H r1 r2 th Q q)
theorem opd_timesL {xs : List D} {n : Int} (h0 : -(2 ^ 63) ≤ n) (h1 : n < 2 ^ 63) (hl : xs.length * n.toNat ≤ 100000) (k : KK (.lst (List.replicate n.toNat xs).flatten)) : OpD (rTimes K) (.lst xs) (.int n) KK := fun Mw M v u H r1 r2 th Q q => by
  obtain ⟨a, vs, rfl, ha, r⟩ := r1.lst
  rw [r2.int]
  exact .inr (.inl ⟨a, n, vs, rfl, rfl, ha, h0, h1, small_le (by rw [r.length]; exact hl), fun p hp => q _ _ _ k (fun _ => Ex.new hp) (fresh_list th hp (rep_flat r _))⟩)
theorem opd_timesT {xs : List D} {n : Int} (h0 : 2 ≤ n) (h1 : n ≤ 1000) (hl : xs.length ≤ 1000) (hne : xs ≠ []) (k : KK (.tup (List.replicate n.toNat xs).flatten)) : OpD (rTimes K) (.tup xs) (.int n) KK := fun Mw M v u H r1 r2 th Q q => by
  obtain ⟨a, vs, rfl, ha, r⟩ := r1.tup
  rw [r2.int]
  refine .inr (.inr ⟨a, n, vs, rfl, rfl, .inl ha, fun e => ?_, h0, h1, by rw [r.length]; exact hl, fun p hp => q _ _ _ k (fun _ => Ex.new hp) (.tup (.inl upd_same) ((rep_flat r _).mono (Ex.new (M := fun _ => False) hp) fun _ m => m.elim))⟩)
  subst e; cases r; exact hne rfl
/-- slices of data -/
theorem ev_sl {tlo thi : TO} (h : EvB W G te fun x => (∃ ds, x = .tup ds ∧ EvO W G tlo fun lo => EvO W G thi fun hi => KK (.tup (cutD ds lo hi))) ∨ (∃ ds, x = .lst ds ∧ EvO W G tlo fun lo => EvO W G thi fun hi => KK (.lst (cutD ds lo hi)))) : Ev W G (tSl (rSl3 K) te tlo thi) KK := fun X σ H E Q q =>
  h X σ H E _ fun x v H1 k e1 i1 r1 => by
    rcases k with ⟨ds, rfl, k⟩ | ⟨ds, rfl, k⟩
    · refine k X σ H1 (E.mono e1 i1) _ fun lo H2 k2 e2 i2 => k2 X σ H2 ((E.mono e1 i1).mono e2 i2) _ fun hi H3 k3 e3 i3 => ?_
      obtain ⟨a, vs, rfl, ha, r⟩ := (r1.mono (e2.trans e3)).tup
      have e := (e1.trans e2).trans e3
      have k3 : KK (.tup (cutD ds lo hi)) := k3
      refine .inl ⟨a, vs, rfl, .inl ha, fun hw => ?_, fun _ p hp => ?_⟩
      · rw [r.length] at hw
        rw [cutD_whole hw] at k3
        exact q _ _ H3 k3 e i3 (.tup ha r)
      · exact q _ _ _ k3 (e.trans (Ex.new hp)) (inv_same i3 fun _ => Ex.new hp) (.tup (.inl upd_same) ((cut_rep r).mono (Ex.new (M := fun _ => False) hp) fun _ m => m.elim))
    · refine k X σ H1 (E.mono e1 i1) _ fun lo H2 k2 e2 i2 => k2 X σ H2 ((E.mono e1 i1).mono e2 i2) _ fun hi H3 k3 e3 i3 => ?_
      obtain ⟨a, vs, rfl, ha, r⟩ := (r1.mono (e2.trans e3)).lst
      have e := (e1.trans e2).trans e3
      have E3 := ((E.mono e1 i1).mono e2 i2).mono e3 i3
      exact .inr ⟨a, vs, rfl, .inl (.inl ha), fun p hp => q _ _ _ k3 (e.trans (Ex.new hp)) (inv_same i3 fun _ => Ex.new hp) (fresh_list (mo_there E3) hp (cut_rep r))⟩
theorem evl_sl {KL : List D → Prop} {tlo thi : TO} (h : EvB W G te fun x => ∃ ds, x = .lst ds ∧ EvO W G tlo fun lo => EvO W G thi fun hi => KL (cutD ds lo hi)) : EvL W G (tSl (rSl3 K) te tlo thi) KL := fun X σ H E Q q =>
  h X σ H E _ fun x v H1 k e1 i1 r1 => by
    obtain ⟨ds, rfl, k⟩ := k
    refine k X σ H1 (E.mono e1 i1) _ fun lo H2 k2 e2 i2 => k2 X σ H2 ((E.mono e1 i1).mono e2 i2) _ fun hi H3 k3 e3 i3 => ?_
    obtain ⟨a, vs, rfl, ha, r⟩ := (r1.mono (e2.trans e3)).lst
    exact .inr ⟨a, vs, rfl, .inl (.inl ha), evl_new E q ((e1.trans e2).trans e3) i3 k3 (cut_rep r)⟩

/-! ### arguments: data or own lists, told as data -/
/-- what an entry is as data -/
def entD : Ent → Option D
  | .d d => some d
  | .own _ ds => some (.lst ds)
  | _ => none
theorem entV_lst {M : Addr → Prop} {H : Hp} {v : V} {e : Ent} {ds : List D} (r : EntV M H v e) (h : entD e = some (.lst ds)) : ∃ a vs, v = .ref a ∧ H a = some (.lst vs) ∧ RepAll M H vs ds := by
  cases e with
  | d d =>
    cases h
    cases (show Rep M H v (.lst ds) from r) with
    | lst n h r => exact ⟨_, _, rfl, h, r⟩
  | own a ds' =>
    cases h
    obtain ⟨q, vs, e1, r⟩ := r
    exact ⟨a, vs, q, e1, r⟩
  | odk _ _ _ => cases h
  | no => cases h
  | raw v => cases h
  | frz _ _ _ => cases h
theorem entV_tup {M : Addr → Prop} {H : Hp} {v : V} {e : Ent} {ds : List D} (r : EntV M H v e) (h : entD e = some (.tup ds)) : ∃ a vs, v = .ref a ∧ Rd H a (.tup vs) ∧ RepAll M H vs ds := by
  cases e with
  | d d =>
    cases h
    cases (show Rep M H v (.tup ds) from r) with
    | tup h r => exact ⟨_, _, rfl, h, r⟩
  | own a ds' => cases h
  | odk _ _ _ => cases h
  | no => cases h
  | raw v => cases h
  | frz _ _ _ => cases h
theorem vs1 {M : Addr → Prop} {H : Hp} {vs : List V} {e : Ent} (r : EntVs M H vs [e]) : ∃ v, vs = [v] ∧ EntV M H v e := by
  cases r with
  | cons r t => cases t; exact ⟨_, rfl, r⟩
theorem vs2 {M : Addr → Prop} {H : Hp} {vs : List V} {e f : Ent} (r : EntVs M H vs [e, f]) : ∃ v u, vs = [v, u] ∧ EntV M H v e ∧ EntV M H u f := by
  cases r with
  | cons r t =>
    cases t with
    | cons s t => cases t; exact ⟨_, _, rfl, r, s⟩
/-! len -/
def rLen1 (K : PySem.W.Frag) : List V → Hp → VK → Prop := fun xs H Q => ∃ x n, xs = [x] ∧ LenV K x H n ∧ Q (.int n) H
theorem call_len1 {X : Cx} : CallR X (.builtin "len") (rLen1 X.K) := call_len
theorem cd_len {e : Ent} {ds : List D} (h : entD e = some (.lst ds) ∨ entD e = some (.tup ds)) (k : KK (.int ds.length)) : CallD (rLen1 K) [e] KK := fun M vs H r0 th Q q => by
  obtain ⟨v, rfl, r⟩ := vs1 r0
  rcases h with h | h
  · obtain ⟨a, us, rfl, ha, s⟩ := entV_lst r h
    exact ⟨_, us.length, rfl, .inl ⟨us, .inl (.inl ha), rfl⟩, by rw [s.length]; exact q _ _ H k (fun _ => Ex.refl _ _) (.int _)⟩
  · obtain ⟨a, us, rfl, ha, s⟩ := entV_tup r h
    exact ⟨_, us.length, rfl, .inr ⟨us, .inl ha, rfl⟩, by rw [s.length]; exact q _ _ H k (fun _ => Ex.refl _ _) (.int _)⟩
/-! tuple(x), list(x) -/
def rTupOf (K : PySem.W.Frag) : List V → Hp → VK → Prop := fun xs H Q => ∃ p ys, xs = [.ref p] ∧ ((SqL K H p ys ∧ ∀ l, H l = none → Q (.ref l) (upd H l (.tup ys))) ∨ (SqT K H p ys ∧ Q (.ref p) H))
theorem call_tup1 {X : Cx} : CallR X (.type "tuple") (rTupOf X.K) := call_tuple_of
theorem cd_tupL {e : Ent} {ds : List D} (h : entD e = some (.lst ds)) (k : KK (.tup ds)) : CallD (rTupOf K) [e] KK := fun M vs H r0 th Q q => by
  obtain ⟨v, rfl, r⟩ := vs1 r0
  obtain ⟨a, us, rfl, ha, s⟩ := entV_lst r h
  exact ⟨a, us, rfl, .inl ⟨.inl (.inl ha), fun p hp => q _ _ _ k (fun _ => Ex.new hp) (.tup (.inl upd_same) (s.mono (Ex.new (M := fun _ => False) hp) fun _ m => m.elim))⟩⟩
theorem cd_tupT {e : Ent} {ds : List D} (h : entD e = some (.tup ds)) (k : KK (.tup ds)) : CallD (rTupOf K) [e] KK := fun M vs H r0 th Q q => by
  obtain ⟨v, rfl, r⟩ := vs1 r0
  obtain ⟨a, us, rfl, ha, s⟩ := entV_tup r h
  exact ⟨a, us, rfl, .inr ⟨.inl ha, q _ _ _ k (fun _ => Ex.refl _ _) (.tup ha s)⟩⟩
def rLstOf (K : PySem.W.Frag) : List V → Hp → VK → Prop := fun xs H Q => ∃ p ys, xs = [.ref p] ∧ (SqL K H p ys ∨ SqT K H p ys) ∧ ∀ l, H l = none → Q (.ref l) (upd H l (.lst ys))
theorem call_lst1 {X : Cx} : CallR X (.type "list") (rLstOf X.K) := call_list_of
theorem evl_listOf {KL : List D → Prop} {tt : TA} (h : EvA W G tt fun es => ∃ e ds, es = [e] ∧ (entD e = some (.lst ds) ∨ entD e = some (.tup ds)) ∧ KL ds) : EvL W G (tCB (rLstOf K) tt) KL := fun X σ H E Q q =>
  h X σ H E _ fun es vs H' ⟨e, ds, he, hd, k⟩ ho ex inv r0 => by
    subst he
    obtain ⟨v, rfl, r⟩ := vs1 r0
    rcases hd with hd | hd
    · obtain ⟨a, us, rfl, ha, s⟩ := entV_lst r hd
      exact ⟨a, us, rfl, .inl (.inl (.inl ha)), evl_new E q ex inv k s⟩
    · obtain ⟨a, us, rfl, ha, s⟩ := entV_tup r hd
      exact ⟨a, us, rfl, .inr (.inl ha), evl_new E q ex inv k s⟩
/-! all, any of flags -/
theorem cd_all {e : Ent} {bs : List Bool} (h : entD e = some (.lst (bs.map D.bl))) (k : KK (.bl (bs.all id))) : CallD (rAll K) [e] KK := fun M vs H r0 th Q q => by
  obtain ⟨v, rfl, r⟩ := vs1 r0
  obtain ⟨a, us, rfl, ha, s⟩ := entV_lst r h
  have e := RepAll.bls s
  subst e
  exact ⟨a, bs, rfl, .inl (.inl ha), q _ _ H k (fun _ => Ex.refl _ _) (.bl _)⟩
theorem cd_any {e : Ent} {bs : List Bool} (h : entD e = some (.lst (bs.map D.bl))) (k : KK (.bl (bs.any id))) : CallD (rAny K) [e] KK := fun M vs H r0 th Q q => by
  obtain ⟨v, rfl, r⟩ := vs1 r0
  obtain ⟨a, us, rfl, ha, s⟩ := entV_lst r h
  have e := RepAll.bls s
  subst e
  exact ⟨a, bs, rfl, .inl (.inl ha), q _ _ H k (fun _ => Ex.refl _ _) (.bl _)⟩
/-! max, min of two; int, bool -/
def rMax2 : List V → Hp → VK → Prop := fun xs H Q => ∃ i j, xs = [.int i, .int j] ∧ Q (.int (if j > i then j else i)) H
theorem call_max2' {X : Cx} (hc : X.calm = true) : CallR X (.builtin "max") rMax2 := call_max2 hc
theorem cd_max2 {i j : Int} (k : KK (.int (if j > i then j else i))) : CallD rMax2 [.d (.int i), .d (.int j)] KK := fun M vs H r0 th Q q => by
  obtain ⟨v, u, rfl, r, s⟩ := vs2 r0
  cases (show Rep M H v (.int i) from r); cases (show Rep M H u (.int j) from s)
  exact ⟨i, j, rfl, q _ _ H k (fun _ => Ex.refl _ _) (.int _)⟩
def rMin2 : List V → Hp → VK → Prop := fun xs H Q => ∃ i j, xs = [.int i, .int j] ∧ Q (.int (if j < i then j else i)) H
theorem call_min2' {X : Cx} (hc : X.calm = true) : CallR X (.builtin "min") rMin2 := call_min2 hc
theorem cd_min2 {i j : Int} (k : KK (.int (if j < i then j else i))) : CallD rMin2 [.d (.int i), .d (.int j)] KK := fun M vs H r0 th Q q => by
  obtain ⟨v, u, rfl, r, s⟩ := vs2 r0
  cases (show Rep M H v (.int i) from r); cases (show Rep M H u (.int j) from s)
  exact ⟨i, j, rfl, q _ _ H k (fun _ => Ex.refl _ _) (.int _)⟩
def rInt1 : List V → Hp → VK → Prop := fun xs H Q => (∃ i, xs = [.int i] ∧ Q (.int i) H) ∨ ∃ k, xs = [.bl k] ∧ Q (.int (if k then 1 else 0)) H
theorem call_int1' {X : Cx} : CallR X (.type "int") rInt1 := call_int1
theorem cd_int {i : Int} (k : KK (.int i)) : CallD rInt1 [.d (.int i)] KK := fun M vs H r0 th Q q => by
  obtain ⟨v, rfl, r⟩ := vs1 r0
  cases (show Rep M H v (.int i) from r)
  exact .inl ⟨i, rfl, q _ _ H k (fun _ => Ex.refl _ _) (.int _)⟩
def rBool1 : List V → Hp → VK → Prop := fun xs H Q => (∃ i, xs = [.int i] ∧ Q (.bl (i != 0)) H) ∨ ∃ k, xs = [.bl k] ∧ Q (.bl k) H
theorem call_bool1' {X : Cx} : CallR X (.type "bool") rBool1 := call_bool1
theorem cd_boolI {i : Int} (k : KK (.bl (i != 0))) : CallD rBool1 [.d (.int i)] KK := fun M vs H r0 th Q q => by
  obtain ⟨v, rfl, r⟩ := vs1 r0
  cases (show Rep M H v (.int i) from r)
  exact .inl ⟨i, rfl, q _ _ H k (fun _ => Ex.refl _ _) (.bl _)⟩
/-! sorted of ints -/
theorem evl_sortedI {KL : List D → Prop} {tt : TA} (h : EvA W G tt fun es => ∃ e ns, es = [e] ∧ entD e = some (.lst (ns.map D.int)) ∧ ∀ ns' : List Int, ns'.Perm ns → ns'.Pairwise (· ≤ ·) → KL (ns'.map D.int)) : EvL W G (tCB (rSortedI K) tt) KL := fun X σ H E Q q =>
  h X σ H E _ fun es vs H' ⟨e, ns, he, hd, k⟩ ho ex inv r0 => by
    subst he
    obtain ⟨v, rfl, r⟩ := vs1 r0
    obtain ⟨a, us, rfl, ha, s⟩ := entV_lst r hd
    have e := RepAll.ints s
    subst e
    exact ⟨a, ns, rfl, .inl (.inl ha), fun ns' p pm pw hp => evl_new E q ex inv (k ns' pm pw) (RepAll.of_ints ns') p hp⟩
/-! ranges as tuples and lists -/
theorem rgV_rep {M : Addr → Prop} {H : Hp} (a b : Int) : RepAll M H (rgV a b) (intsUp a (b - a).toNat) := by
  unfold rgV intsUp
  generalize List.range (b - a).toNat = l
  induction l with
  | nil => exact .nil
  | cons x l ih => exact .cons (.int _) ih
def EvR (W : Wd) (G : List Ent) (tr : L2.St → Hp → (Int → Int → Hp → Prop) → Prop) (K : Int → Int → Prop) : Prop := ∀ X σ H, Env W X H σ G → ∀ Q : Int → Int → Hp → Prop, (∀ a b H', K a b → Ex W.M H H' → W.inv H' → Q a b H') → tr σ H Q
theorem evr_1 {KR : Int → Int → Prop} (h : Ev W G ta fun x => ∃ n, x = .int n ∧ KR 0 n) : EvR W G (tRg1 ta) KR := fun X σ H E Q q =>
  h X σ H E _ fun d v H' k ex inv r => by
    obtain ⟨n, rfl, k⟩ := k
    cases r
    exact ⟨n, rfl, q _ _ H' k ex inv⟩
theorem evr_2 {KR : Int → Int → Prop} (h : Ev W G ta fun x => Ev W G tb fun y => ∃ a b, x = .int a ∧ y = .int b ∧ KR a b) : EvR W G (tRg2 ta tb) KR := fun X σ H E Q q =>
  h X σ H E _ fun x v H1 k e1 i1 r1 => k X σ H1 (E.mono e1 i1) _ fun y u H2 k2 e2 i2 r2 => by
    obtain ⟨a, b, rfl, rfl, k2⟩ := k2
    cases r1; cases r2
    exact ⟨a, b, rfl, rfl, q _ _ H2 k2 (e1.trans e2) i2⟩
theorem ev_tupRg {tr : L2.St → Hp → (Int → Int → Hp → Prop) → Prop} (h : EvR W G tr fun a b => RgOk a b ∧ KK (.tup (intsUp a (b - a).toNat))) : Ev W G (tTupRg tr) KK := fun X σ H E Q q =>
  h X σ H E _ fun a b H' ⟨ok, k⟩ ex inv => ⟨ok, fun p hp => q _ _ _ k (ex.trans (Ex.new hp)) (inv_same inv fun _ => Ex.new hp) (.tup (.inl upd_same) (rgV_rep a b))⟩
theorem evl_lstRg {KL : List D → Prop} {tr : L2.St → Hp → (Int → Int → Hp → Prop) → Prop} (h : EvR W G tr fun a b => RgOk a b ∧ KL (intsUp a (b - a).toNat)) : EvL W G (tLstRg tr) KL := fun X σ H E Q q =>
  h X σ H E _ fun a b H' ⟨ok, k⟩ ex inv => ⟨ok, evl_new E q ex inv k (rgV_rep a b)⟩
/-! isinstance -/
/-- the built-in type of plain data -/
def tyD : D → Option String
  | .non => some "NoneType"
  | .bl _ => some "bool"
  | .int _ => some "int"
  | .str _ => some "str"
  | .tup _ => some "tuple"
  | .lst _ => some "list"
  | .dct => some "dict"
  | .rg _ _ => none
  | .obj _ _ _ => none
/-- is an object of the class at C one of the class at C' -/
structure ObjC (K : PySem.W.Frag) (C : Addr) : Prop where
  cl : Cls K C
  ha : PySem.W.findIn K (.ref C) "__class__" = some (some (.builtin "object.__class__"))
  hn : PySem.W.specialIn K (.builtin "object.__class__") "__get__" = some (some (.builtin "getset_descriptor.__get__"))
  ht : PySem.W.takesIn K (.builtin "object.__class__") = some true
  hm : PySem.W.mroIn K C (.type "object") = some true
theorem ty_rep {M : Addr → Prop} {H : Hp} {v : V} {d : D} {n : String} (r : Rep M H v d) (h : tyD d = some n) : TyX K H v (.type n) := by
  cases r with
  | non => cases h; exact .base .non
  | bl b => cases h; exact .base (.bl b)
  | int i => cases h; exact .base (.int i)
  | str x => cases h; exact .base (.str x)
  | tup e _ => cases h; exact e.elim (fun e => .base (.tup e)) fun ⟨o, e⟩ => .fTuple e
  | lst _ e _ => cases h; exact .base (.lst e)
  | dct e => cases h; exact .base (.dK e)
  | rg e => cases h
  | obj _ _ _ _ => cases h
theorem cd_isi {d : D} {n T : String} {b : Bool} (h : tyD d = some n) (hk : kitB n T = some b) (k : KK (.bl b)) : CallD (rIsi K) [.d d, .raw (.ty T)] KK := fun M vs H r0 th Q q => by
  obtain ⟨v, u, rfl, r, s⟩ := vs2 r0
  cases (show u = .ty T from s)
  exact ⟨v, .ty T, .type n, .type T, b, rfl, .ty T, ty_rep r h, kit_ty hk, q _ _ H k (fun _ => Ex.refl _ _) (.bl _)⟩
theorem cd_isiOT {C : Addr} {ns : List Str} {ds : List D} {T : String} {b : Bool} (oc : ObjC K C) (hk : PySem.W.kitOne K (.ref C) (.type T) = some b) (k : KK (.bl b)) : CallD (rIsi K) [.d (.obj C ns ds), .raw (.ty T)] KK := fun M vs H r0 th Q q => by
  obtain ⟨v, u, rfl, r, s⟩ := vs2 r0
  cases (show u = .ty T from s)
  cases (show Rep M H v (.obj C ns ds) from r) with
  | obj e _ _ _ => exact ⟨_, .ty T, .ref C, .type T, b, rfl, .ty T, .base (.ins e oc.cl oc.ha oc.hn oc.ht oc.hm), hk, q _ _ H k (fun _ => Ex.refl _ _) (.bl _)⟩
theorem cd_isiOC {C C' : Addr} {ns : List Str} {ds : List D} {b : Bool} (oc : ObjC K C) (hk : PySem.W.kitOne K (.ref C) (.ref C') = some b) (k : KK (.bl b)) : CallD (rIsi K) [.d (.obj C ns ds), .raw (.ref C')] KK := fun M vs H r0 th Q q => by
  obtain ⟨v, u, rfl, r, s⟩ := vs2 r0
  cases (show u = .ref C' from s)
  cases (show Rep M H v (.obj C ns ds) from r) with
  | obj e _ _ _ => exact ⟨_, .ref C', .ref C, .ref C', b, rfl, .own C', .base (.ins e oc.cl oc.ha oc.hn oc.ht oc.hm), hk, q _ _ H k (fun _ => Ex.refl _ _) (.bl _)⟩
theorem cd_isiDC {d : D} {n : String} {C' : Addr} {b : Bool} (h : tyD d = some n) (hk : PySem.W.kitOne K (.type n) (.ref C') = some b) (k : KK (.bl b)) : CallD (rIsi K) [.d d, .raw (.ref C')] KK := fun M vs H r0 th Q q => by
  obtain ⟨v, u, rfl, r, s⟩ := vs2 r0
  cases (show u = .ref C' from s)
  exact ⟨v, .ref C', .type n, .ref C', b, rfl, .own C', ty_rep r h, hk, q _ _ H k (fun _ => Ex.refl _ _) (.bl _)⟩
end
/-! ### a def as its callers see it -/
def Has (P : Program) (w : World) (K : PySem.W.Frag) (mg : Str → Option Value) (base : Heap) (lv : Nat) (x : Str) (ps : List Str) (sp : Sp) : Prop :=
  ∃ f fd, mg x = some (.ref f) ∧ PySem.W.keepIn K (.ref f) = true ∧ Binds K fd ps [] ∧ FnOk P w K mg base CX0 lv f fd ps sp
theorem pe_has {X : Cx} {lv : Nat} {x : Str} {ps : List Str} {sp : Sp} {e : Expr} {es : List Expr} {t : TA} {p pos : Pos} (h : Has X.prog X.w X.K X.mg X.base lv x ps sp) (hr : Room lv X.A) (ha : PA X (e :: es) t) (hg : Gl X x := by rfl)
    (hdb : (x == ("__debug__" : Str)) = false := by decide)
    (he : starEach (e :: es) X.env = (false, eval e X.env) :: starEach es X.env := by rfl) (hpl : (backTo pos (starEach es X.env)).any (·.1) = false := by rfl) : PE X (.Call (.Name x p) (e :: es) [] pos) (tCall sp [] E0 t) := by
  obtain ⟨f, fd, hm, hk, hb, F⟩ := h
  exact pe_call F hr hg hm hk hb .nil pass0 ha hdb he hpl
end Pd

namespace Pd
open PySem L2 RZ PyProof.Rows
theorem hu65 {A : Around} {k : Nat} (hr : Room k A) : A.units + 64 < cLine := by have := hr.un; omega
theorem pe_globI {X : Cx} {x : Str} {i : Int} {pos : Pos} (h : ∃ t, X.mg x = some (.int i t)) (hg : Gl X x := by rfl) (hd : (x == ("__debug__" : Str)) = false := by decide) : PE X (.Name x pos) (tC (.int i)) := by
  obtain ⟨t, h⟩ := h
  exact pe_glob hg h ⟨t, rfl⟩ hd
def rAbs : List V → Hp → VK → Prop := fun xs H Q => ∃ i, xs = [.int i] ∧ Q (.int (if i < 0 then -i else i)) H
theorem call_abs' {X : Cx} : CallR X (.builtin "abs") rAbs := call_abs
/-- arguments whose entries are told one by one -/
theorem eva_one {W : Wd} {G : List Ent} {te : TE} {K : List Ent → Prop} (h : EvE W G te fun e => K [e]) : EvA W G (tCons te tNil) K := eva_cons fun X σ H E Q q => h X σ H E _ fun e v H' k ho ex inv r => q e v H' (eva_nil k) ho ex inv r
/-- isinstance(d, T), T one of the usual built-in types, d no object of a class -/
def isTy (T : String) : D → Bool
  | .non => false
  | .bl _ => T == "bool" || T == "int"
  | .int _ => T == "int"
  | .str _ => T == "str"
  | .tup _ => T == "tuple"
  | .lst _ => T == "list"
  | .dct => T == "dict"
  | .rg _ _ => false
  | .obj _ _ _ => false
def usual : List String := ["int", "bool", "tuple", "list", "str", "dict"]
def tyNames : List String := ["NoneType", "bool", "int", "str", "tuple", "list", "dict"]
theorem kit_table : (tyNames.all fun n => usual.all fun T => kitB n T == some (n == T || (n == "bool" && T == "int"))) = true := by decide +kernel
theorem kit_at {n T : String} (hn : n ∈ tyNames) (hT : T ∈ usual) : kitB n T = some (n == T || (n == "bool" && T == "int")) :=
  eq_of_beq (List.all_eq_true.mp (List.all_eq_true.mp kit_table n hn) T hT)
theorem isTy_eq {d : D} {n T : String} (h : tyD d = some n) (hT : T ∈ usual) : kitB n T = some (isTy T d) := by
  have hT' : T = "int" ∨ T = "bool" ∨ T = "tuple" ∨ T = "list" ∨ T = "str" ∨ T = "dict" := by simpa [usual] using hT
  have hn : n ∈ tyNames := by cases d <;> cases h <;> simp [tyNames]
  rw [kit_at hn hT]
  cases d <;> cases h <;> rcases hT' with rfl | rfl | rfl | rfl | rfl | rfl <;> rfl
section
variable {W : Wd} {G : List Ent} {te ta tb : TE} {KK : D → Prop} {K : PySem.W.Frag}
theorem cd_isT {d : D} {n T : String} (h : tyD d = some n) (hT : T ∈ usual) (k : KK (.bl (isTy T d))) : CallD (rIsi K) [.d d, .raw (.ty T)] KK := cd_isi h (isTy_eq h hT) k
end
end Pd

/-! Masks: bits of numbers that are not negative. -/
namespace Bm
open PySem
theorem and_nn (m n : Nat) : Builtin.bitAnd (m : Int) (n : Int) = ((m &&& n : Nat) : Int) := PyProof.Rows.bitAnd_pp (Int.natCast_nonneg _) (Int.natCast_nonneg _)
theorem or_nn (m n : Nat) : Builtin.bitOr (m : Int) (n : Int) = ((m ||| n : Nat) : Int) := Bits.bitOr_pp (Int.natCast_nonneg _) (Int.natCast_nonneg _)
theorem xor_nn (m n : Nat) : Builtin.bitXor (m : Int) (n : Int) = ((m ^^^ n : Nat) : Int) := Bits.bitXor_pp (Int.natCast_nonneg _) (Int.natCast_nonneg _)
theorem shl_one (k : Nat) : (1 : Int) * 2 ^ ((k : Int)).toNat = ((2 ^ k : Nat) : Int) := by
  rw [Int.one_mul, Int.toNat_natCast]; simp
theorem shr_nn (m k : Nat) : (m : Int) / 2 ^ ((k : Int)).toNat = ((m / 2 ^ k : Nat) : Int) := by
  rw [Int.toNat_natCast]; simp
theorem bit_and1 (m k : Nat) : (m / 2 ^ k) &&& 1 = (if m.testBit k then 1 else 0) := by
  rw [Nat.and_one_is_mod]
  have h := Nat.testBit_eq_decide_div_mod_eq (x := m) (i := k)
  rw [h]
  by_cases q : m / 2 ^ k % 2 = 1
  · simp [q]
  · have q2 : m / 2 ^ k % 2 = 0 := by omega
    simp [q2]
/-- the lowest bit: m - (m &&& (m - 1)) is a power of two -/
theorem low_exists : ∀ m : Nat, 0 < m → ∃ k, m.testBit k = true ∧ (∀ j, j < k → m.testBit j = false) ∧ m - (m &&& (m - 1)) = 2 ^ k := by
  intro m
  induction m using Nat.strongRecOn with
  | _ m ih =>
    intro h
    by_cases ho : m % 2 = 1
    · refine ⟨0, ?_, fun j hj => absurd hj (by omega), ?_⟩
      · simp [Nat.testBit_zero, ho]
      · have e : m &&& (m - 1) = m - 1 := by
          refine Nat.eq_of_testBit_eq fun i => ?_
          rw [Nat.testBit_and]
          cases i with
          | zero => simp [Nat.testBit_zero]; omega
          | succ i =>
            rw [Nat.testBit_succ, Nat.testBit_succ]
            have : (m - 1) / 2 = m / 2 := by omega
            rw [this]; simp
        rw [e]; omega
    · have he : m % 2 = 0 := by omega
      obtain ⟨k, h1, h2, h3⟩ := ih (m / 2) (by omega) (by omega)
      refine ⟨k + 1, by rw [Nat.testBit_succ]; exact h1, fun j hj => ?_, ?_⟩
      · cases j with
        | zero => simp [Nat.testBit_zero]; omega
        | succ j => rw [Nat.testBit_succ]; exact h2 j (by omega)
      · have e : m &&& (m - 1) = 2 * (m / 2 &&& (m / 2 - 1)) := by
          refine Nat.eq_of_testBit_eq fun i => ?_
          rw [Nat.testBit_and]
          cases i with
          | zero =>
            have z1 : m.testBit 0 = false := by simp [Nat.testBit_zero]; omega
            have z2 : (2 * (m / 2 &&& (m / 2 - 1))).testBit 0 = false := by simp [Nat.testBit_zero]
            rw [z1, z2]; rfl
          | succ i =>
            rw [Nat.testBit_succ, Nat.testBit_succ, Nat.testBit_succ]
            have q1 : (m - 1) / 2 = m / 2 - 1 := by omega
            have q2 : 2 * (m / 2 &&& (m / 2 - 1)) / 2 = (m / 2 &&& (m / 2 - 1)) := by omega
            rw [q1, q2, Nat.testBit_and]
        rw [e, Nat.pow_succ]
        have : m / 2 &&& (m / 2 - 1) ≤ m / 2 := Nat.and_le_left
        omega
theorem and_neg (m : Nat) (h : 0 < m) : Builtin.bitAnd (m : Int) (-(m : Int)) = ((m - (m &&& (m - 1)) : Nat) : Int) := by
  unfold Builtin.bitAnd
  have h1 : decide (0 ≤ (m : Int)) = true := by simp
  have h2 : decide (0 ≤ -(m : Int)) = false := by simp; omega
  rw [h1, h2]
  show (m : Int) - (((m : Int).toNat &&& (Builtin.bitNot (-(m : Int))).toNat : Nat) : Int) = _
  have e : (Builtin.bitNot (-(m : Int))).toNat = m - 1 := by unfold Builtin.bitNot; omega
  rw [e, Int.toNat_natCast]
  have : m &&& (m - 1) ≤ m := Nat.and_le_left
  omega
theorem bits_pow (k : Nat) : Builtin.Int.intBits ((2 ^ k : Nat) : Int) = k + 1 := by
  unfold Builtin.Int.intBits
  have : ((2 ^ k : Nat) : Int) ≠ 0 := by have := Nat.two_pow_pos k; omega
  rw [if_neg (by simpa using this), Int.natAbs_natCast, Nat.log2_two_pow]
/-- strictly rising lists of the same members are one -/
theorem rising_ext : ∀ {xs ys : List Nat}, xs.Pairwise (· < ·) → ys.Pairwise (· < ·) → (∀ k, k ∈ xs ↔ k ∈ ys) → xs = ys
  | [], [], _, _, _ => rfl
  | [], y :: ys, _, _, h => absurd ((h y).mpr (List.mem_cons_self ..)) (by simp)
  | x :: xs, [], _, _, h => absurd ((h x).mp (List.mem_cons_self ..)) (by simp)
  | x :: xs, y :: ys, hx, hy, h => by
    obtain ⟨a1, a2⟩ := List.pairwise_cons.mp hx
    obtain ⟨b1, b2⟩ := List.pairwise_cons.mp hy
    have e : x = y := by
      rcases List.mem_cons.mp ((h x).mp (List.mem_cons_self ..)) with z | z
      · exact z
      · rcases List.mem_cons.mp ((h y).mpr (List.mem_cons_self ..)) with w | w
        · exact w.symm
        · have := a1 y w; have := b1 x z; omega
    subst e
    congr 1
    refine rising_ext a2 b2 fun k => ⟨fun z => ?_, fun z => ?_⟩
    · rcases List.mem_cons.mp ((h k).mp (List.mem_cons_of_mem _ z)) with w | w
      · have := a1 k z; omega
      · exact w
    · rcases List.mem_cons.mp ((h k).mpr (List.mem_cons_of_mem _ z)) with w | w
      · have := b1 k z; omega
      · exact w
/-- the places of the bits below n -/
def bitsTo (n m : Nat) : List Nat := (List.range n).filter fun i => m.testBit i
theorem bitsTo_rising (n m : Nat) : (bitsTo n m).Pairwise (· < ·) := List.Pairwise.filter _ List.pairwise_lt_range
theorem mem_bitsTo {n m k : Nat} : k ∈ bitsTo n m ↔ k < n ∧ m.testBit k = true := by
  unfold bitsTo; rw [List.mem_filter, List.mem_range]
def IsBits (l : List Nat) (m : Nat) : Prop := l.Pairwise (· < ·) ∧ ∀ k, k ∈ l ↔ m.testBit k = true
theorem IsBits.eq {l : List Nat} {n m : Nat} (h : IsBits l m) (hm : m < 2 ^ n) : l = bitsTo n m :=
  rising_ext h.1 (bitsTo_rising n m) fun k => by
    rw [h.2, mem_bitsTo]
    refine ⟨fun z => ⟨?_, z⟩, fun z => z.2⟩
    refine Nat.lt_of_not_le fun q => ?_
    have := Nat.testBit_lt_two_pow (Nat.lt_of_lt_of_le hm (Nat.pow_le_pow_right (by decide) q))
    rw [z] at this; cases this
end Bm
namespace Bm
theorem rising_length : ∀ {l : List Nat} {n : Nat}, l.Pairwise (· < ·) → (∀ k ∈ l, k < n) → l.length ≤ n := by
  have key : ∀ (l : List Nat) (lo n : Nat), l.Pairwise (· < ·) → (∀ k ∈ l, lo ≤ k ∧ k < n) → lo + l.length ≤ max lo n := by
    intro l
    induction l with
    | nil => intro lo n _ _; simp; omega
    | cons x l ih =>
      intro lo n hp hb
      obtain ⟨h1, h2⟩ := List.pairwise_cons.mp hp
      have hx := hb x (List.mem_cons_self ..)
      have := ih (x + 1) n h2 fun k hk => ⟨h1 k hk, (hb k (List.mem_cons_of_mem _ hk)).2⟩
      rw [List.length_cons]; omega
  intro l n hp hb
  have := key l 0 n hp fun k hk => ⟨Nat.zero_le _, hb k hk⟩
  omega
theorem testBit_xor_pow (m k j : Nat) : (m ^^^ 2 ^ k).testBit j = (m.testBit j ^^ decide (k = j)) := by
  rw [Nat.testBit_xor, Nat.testBit_two_pow]
theorem xor_pow_lt {m k : Nat} (h : m.testBit k = true) : m ^^^ 2 ^ k < m := by
  have h1 : (m ^^^ 2 ^ k) + 2 ^ k = m := by
    have e := Bits.nat_xor_add_and m (2 ^ k)
    have a : m &&& 2 ^ k = 2 ^ k := by
      refine Nat.eq_of_testBit_eq fun i => ?_
      rw [Nat.testBit_and, Nat.testBit_two_pow]
      by_cases q : k = i
      · subst q; simp [h]
      · simp [q]
    rw [a] at e; omega
  have := Nat.two_pow_pos k
  omega
theorem lt_of_testBit {m n k : Nat} (h : m < 2 ^ n) (b : m.testBit k = true) : k < n := by
  refine Nat.lt_of_not_le fun q => ?_
  have := Nat.testBit_lt_two_pow (Nat.lt_of_lt_of_le h (Nat.pow_le_pow_right (by decide) q))
  rw [b] at this; cases this
end Bm

namespace PySem
open Builtin
section
variable {prog : Program} {w : World} {A : Around} {E : Value → Shared → Prop} {s : Shared}
theorem pd_meets_enumerate_newT (l : Addr) (items : Array Value) (n : Nat) (dd : Option Addr) (sl : Array (Option Value)) :
    Meets (Builtin.«enumerate.__new__» ⟨[.type "enumerate", .ref l], []⟩) (fun _ R s => s.heap.get? l = some { cls := .type "tuple", dict := dd, data := .seq items n, slots := sl } ∧
      R (.ok (.ret (.ref (s.heap.push { cls := .type "tuple_iterator", data := .fields #[.ref l, .int 0 0] }).objs.size)))
        { s with heap := (s.heap.push { cls := .type "tuple_iterator", data := .fields #[.ref l, .int 0 0] }).push { cls := .type "enumerate", data := .fields #[.none, .bool false, .ref s.heap.objs.size, rawInt 0, .none, .none] } }) :=
  .of_wp fun prog w A R s h => by
    obtain ⟨hp, g, d, tk, os⟩ := s; obtain ⟨hl, h⟩ := h
    have hsub := sub_enumerate
    have hL : Heap.IsTuple (Shared.heap ⟨hp, g, d, tk, os⟩) l items := ⟨_, hl, rfl, n, rfl⟩
    wp_walk using wpAny_loadPart' hl
    refine wpAny_stack_any fun st => wpAny_pure ?_
    split
    · rename_i c _ _ _ _ _
      cases (c == Value.type "enumerate")
      · wp_walk using wpAny_loadPart' hl, wpAny_pyIter_tuple hL
        exact ⟨_, rfl, h⟩
      · wp_walk using wpAny_loadPart' hl, wpAny_pyIter_tuple hL
        exact ⟨_, rfl, h⟩
    · wp_walk using wpAny_loadPart' hl, wpAny_pyIter_tuple hL
      exact ⟨_, rfl, h⟩
theorem pd_call_enumerate_tuple {l : Addr} {items : Array Value} {Q : Value → Shared → Prop} (hL : s.heap.IsTuple l items)
    (h : ∀ h', IsEnum h' (s.heap.objs.size + 1) s.heap.objs.size 0 .none → h'.IsTupleIter s.heap.objs.size l 0 → h'.objs.size = s.heap.objs.size + 2 →
      (∀ b o, s.heap.get? b = some o → h'.get? b = some o) → Q (.ref (s.heap.objs.size + 1)) { s with heap := h' }) :
    wpAny (model prog w) A (call (.type "enumerate") [.ref l]) Q E s := by
  obtain ⟨⟨c, dct, dt, sl⟩, hl, hc, n, hd⟩ := hL
  replace hc : c = .type "tuple" := hc
  replace hd : dt = .seq items n := hd
  subst hc hd
  refine callType_new F.called_enumerate (by decide) (F.typeCall_enumerate_1 _) (F.newCall_enumerate_1 _) (fun obj => F.args_object_init_2 obj _) F.entry_enumerate_new
    (pd_meets_enumerate_newT l items n dct sl) ⟨hl, ?_⟩
  have hz : (s.heap.push { cls := .type "tuple_iterator", data := .fields #[.ref l, .int 0 0] }).objs.size = s.heap.objs.size + 1 := Heap.size_push ..
  show _ ∧ _
  rw [hz]
  have he : IsEnum ((s.heap.push { cls := .type "tuple_iterator", data := .fields #[.ref l, .int 0 0] }).push
      { cls := .type "enumerate", data := .fields #[.none, .bool false, .ref s.heap.objs.size, rawInt 0, .none, .none] }) (s.heap.objs.size + 1) s.heap.objs.size 0 .none := by
    have := Heap.get?_push_size (s.heap.push { cls := .type "tuple_iterator", data := .fields #[.ref l, .int 0 0] })
      (o := { cls := .type "enumerate", data := .fields #[.none, .bool false, .ref s.heap.objs.size, rawInt 0, .none, .none] }) rfl
    rw [hz] at this; exact this
  refine ⟨⟨_, he, rfl⟩, h _ he ⟨_, Heap.get?_push_of_some _ (Heap.get?_push_size _ rfl), rfl, rfl⟩ (by rw [Heap.size_push, hz]) fun b o x => Heap.get?_push_of_some _ (Heap.get?_push_of_some _ x)⟩
end
end PySem
namespace L2
open PySem PySem.Spec PyProof.Rows
/-- enumerate of a tuple: each item in a new pair -/
def IteT (K : PySem.W.Frag) (a : Addr) : It :=
  ⟨fun i H => ∃ (xs : List V) (x : V), SqT K H a xs ∧ xs[i]? = some x, fun i H v H' => ∃ T x, v = .ref T ∧ H T = none ∧ H' = upd H T (.tup [.int (i : Nat), x]) ∧ ∀ xs, SqT K H a xs → xs[i]? = some x, fun i H => ∃ xs : List V, SqT K H a xs ∧ xs.length = i⟩
theorem val_type_ne {a b : String} (h : a ≠ b) : Value.type a ≠ Value.type b := fun z => h (by injection z)
theorem turn_enumT {P : Program} {w : World} {K : PySem.W.Frag} {elts : List Expr} {kk : Nat} {tpos : Pos} (a e it : Addr) :
    Turn P w K (.Tuple elts kk tpos) (IteT K a) [e, it] e (fun i h => (∃ old, IsEnum h e it ((i : Nat) : Int) old) ∧ h.IsTupleIter it a i ∧ e ≠ it) where
  mem := by simp
  obj := fun i h st b hb => by
    obtain ⟨⟨old, he⟩, ⟨o, ho, hc, hd⟩, _⟩ := st
    have e' : b = e ∨ b = it := by simpa using hb
    rcases e' with z | z
    · rw [z]; exact ⟨_, he, fun v q => nomatch q⟩
    · rw [z]; exact ⟨o, ho, fun v q => by rw [hd] at q; cases q⟩
  keep := fun i h h' st k => let ⟨⟨old, he⟩, hi, hne⟩ := st; ⟨⟨old, k e (by simp) _ he⟩, hi.at fun o q => k it (by simp) o q, hne⟩
  item := by
    intro X hP hw hK hc i pins s σ H E I hf st hg
    subst hP hw hK
    obtain ⟨⟨old, he⟩, hit, hne⟩ := st
    obtain ⟨xs, x, hq, hx⟩ := hg
    obtain ⟨its, rv, p, hz⟩ := I.tuple hq
    obtain ⟨u, hu, ru⟩ := rv.get hx
    have hel : e < s.heap.objs.size := Heap.lt_size he
    have hil : it < s.heap.objs.size := by obtain ⟨_, q, _⟩ := hit; exact Heap.lt_size q
    have p' : s.heap.IsTuple a its.toArray := p
    have nea : e ≠ a := fun z => by
      obtain ⟨o, ho, hcl, _⟩ := p'
      rw [← z, he] at ho; cases ho; exact val_type_ne (by decide) hcl
    have neit : a ≠ it := fun z => by
      obtain ⟨o, ho, hcl, _⟩ := p'
      obtain ⟨o2, ho2, hc2, _⟩ := hit
      rw [z, ho2] at ho; cases ho; exact val_type_ne (by decide) (hc2.symm.trans hcl)
    have hin : i < its.toArray.size := by
      have := (List.getElem?_eq_some_iff.mp hu).1
      simpa using this
    refine wpAny_pyNext_enum_itemD (Draws.tuple (A := X.A.in1) (I.ok.hd hc) it a neit its.toArray) he ⟨hit, p'⟩ hin hne (by simp [hne, nea]) fun y h' tk hy ho hst' hT hsz hk => ?_
    obtain ⟨hit', _⟩ := hst'
    have ey : y = u := by
      have hu' : its.toArray[i]? = some u := by simpa using hu
      rw [hu'] at hy; exact (Option.some.inj hy).symm
    subst ey
    refine ⟨_, rfl, wpAny_letOwnedTupleGo_enum (s := { s with heap := h', toks := tk + 1 }) ho fun h'' he' sb => ?_⟩
    have hT2 : h''.get? s.heap.objs.size = some { cls := .type "tuple", data := .seq #[.int i tk, y] } := (sb.2 _ (Nat.ne_of_gt hel)).trans hT
    have new : ObjOk X.prog X.w (upd H s.heap.objs.size (.tup [.int (i : Nat), x])) h'' s.heap.objs.size (.tup [.int (i : Nat), x]) :=
      ⟨by show 2 ≤ sizeLine; decide, [.int i tk, y], .cons ⟨_, rfl⟩ (.cons ru .nil), ⟨_, hT2, rfl, _, rfl⟩⟩
    have I1 : Inv X pins σ (upd H s.heap.objs.size (.tup [.int (i : Nat), x])) { s with heap := h'', toks := tk + 1 } :=
      I.turnedNew (ch := [e, it]) (fun b ob hb q => (sb.2 b (fun z => hb (by simp [z]))).trans (hk b ob (fun z => hb (by simp [z])) (fun z => hb (by simp [z])) q)) hf (Nat.le_refl _) new
    refine ⟨.ref s.heap.objs.size, _, I1, rfl, ⟨_, x, rfl, I.hok.fresh (Nat.le_refl _), rfl, fun ys hy => by rw [I.tuple_inj hy hq]; exact hx⟩, ⟨⟨y, ?_⟩, hit'.at fun o q => (sb.2 it (Ne.symm hne)).trans q, hne⟩, fun b hb => ?_⟩
    · have e1 : ((i + 1 : Nat) : Int) = (i : Int) + 1 := by omega
      rw [e1]; exact he'
    · have hb' : b < s.heap.objs.size := by
        have e' : b = e ∨ b = it := by simpa using hb
        rcases e' with z | z
        · rw [z]; exact hel
        · rw [z]; exact hil
      rw [upd_ne (Nat.ne_of_lt hb')]
      exact (hf b hb).1
  done := by
    intro X hP hw hK hc i pins s σ H E I hf st hg
    subst hP hw hK
    obtain ⟨⟨old, he⟩, hit, hne⟩ := st
    obtain ⟨xs, hq, hx⟩ := hg
    obtain ⟨its, rv, p, hz⟩ := I.tuple hq
    obtain ⟨f0, f1, f2, f3, f4, f5⟩ := hf it (by simp)
    have hl := rv.length
    have p' : s.heap.IsTuple a its.toArray := p
    have neit : a ≠ it := fun z => by
      obtain ⟨o, ho, hcl, _⟩ := p'
      obtain ⟨o2, ho2, hc2, _⟩ := hit
      rw [z, ho2] at ho; cases ho; exact val_type_ne (by decide) (hc2.symm.trans hcl)
    subst hx
    have e0 : xs.length = its.toArray.size := by simp [hl]
    rw [e0] at he hit
    exact wpAny_pyNext_enum_endD (Draws.tuple (A := X.A.in1) (I.ok.hd hc) it a neit its.toArray) he ⟨hit, p'⟩ fun h' eb => ⟨rfl, I.turned (t' := s.toks) (fun b o hb q => eb b o hb q) f0 f1 f3 f4 f5⟩
  self := fun A i s Q E st h => let ⟨⟨_, he⟩, _⟩ := st; wpAny_pyIter_enum he h
def iEnumT (K : PySem.W.Frag) (ta : TA) : TI := fun σ H R => ta σ H fun vs H1 => ∃ a xs, vs = [.ref a] ∧ SqT K H1 a xs ∧ R (IteT K a) H1
theorem pi_enumT {X : Cx} {e : Expr} {ta : TA} {p pos tpos : Pos} {elts : List Expr} {kk : Nat} (hg : Gl X "enumerate") (hm : X.mg "enumerate" = none) (ha : PA X [e] ta) (hs : starEach [e] X.env = [(false, eval e X.env)] := by rfl) :
    PI X (.Tuple elts kk tpos) (.Call (.Name "enumerate" p) [e] [] pos) (iEnumT X.K ta) := by
  refine ⟨fun pins s σ H R I h => ?_⟩
  refine Call_ (ld_blt I hg hm boot_enumerate (PyProof.Rows.callWith_type1 (thn (ha.run pos pins s σ H _ I h) fun us s1 ⟨vs, H1, I1, r1, q1⟩ => ?_) hs rfl))
  obtain ⟨a, xs, ex, hq, q⟩ := q1
  subst ex
  cases r1 with
  | cons r rr =>
    cases rr
    cases r
    obtain ⟨its, rv, p', hz⟩ := I1.tuple hq
    refine pd_call_enumerate_tuple (show s1.heap.IsTuple a its.toArray from p') fun h' he hit hsz hk => wpAny_pyIter_enum he ?_
    have I2 : Inv X pins σ H1 { s1 with heap := h' } := I1.kept (t' := s1.toks) hk
    refine ⟨s1.heap.objs.size + 1, [s1.heap.objs.size + 1, s1.heap.objs.size], _, _, H1, rfl, I2, turn_enumT a (s1.heap.objs.size + 1) s1.heap.objs.size, ⟨⟨.none, he⟩, hit, Nat.succ_ne_self _⟩, fun b hb => ?_, q⟩
    have e' : b = s1.heap.objs.size + 1 ∨ b = s1.heap.objs.size := by simpa using hb
    have hle : s1.heap.objs.size ≤ b := by
      rcases e' with z | z
      · rw [z]; exact Nat.le_add_right _ _
      · rw [z]; exact Nat.le_refl _
    exact I1.fpOk hle (I1.hok.fresh hle)
theorem walk_enumT {K : PySem.W.Frag} {a : Addr} {xs : List V} : Walk (IteT K a) xs.length (fun H => SqT K H a xs) (YPair (fun i => some (.int (i : Nat))) (fun i => xs[i]?)) := by
  refine ⟨fun i _ hi q => ⟨xs, xs[i], q, by simp [hi]⟩, fun _ q => ⟨xs, q, rfl⟩, fun i H v H' _ q y => ?_⟩
  obtain ⟨T, x, h1, h2, h3, h4⟩ := y
  exact ⟨T, .int (i : Nat), x, h1, h2, h3, rfl, h4 xs q⟩
end L2
namespace Pd
open PySem L2 RZ
section
variable {W : Wd} {G : List Ent} {ta : TE} {K : PySem.W.Frag} {KK : List D → Prop}
theorem evi_enumT (h : Ev W G ta fun x => ∃ xs, x = .tup xs ∧ KK (pairsOf (intsUp 0 xs.length) xs)) : EvI W G (iEnumT K (tCons ta tNil)) KK := fun X σ H E R q =>
  h X σ H E _ fun x v H' k ex inv r => by
    obtain ⟨xs, rfl, k⟩ := k
    cases r with
    | @tup a vs _ ha r =>
      have hl : (pairsOf (intsUp 0 xs.length) xs).length = vs.length := by rw [pairsOf_len, intsUp_len, Nat.min_self, r.length]
      refine ⟨a, vs, rfl, .inl ha, q _ (IteT K a) H' (fun H2 => SqT K H2 a vs) (YPair (fun i => some (.int (i : Nat))) (fun i => vs[i]?)) k ex inv (by rw [hl]; exact walk_enumT) (fun H2 e2 => .inl (ha.keep e2)) fun i H2 z H3 e2 hi y => ?_⟩
      obtain ⟨T, x, y, rfl, nT, eH, hx, hy⟩ := y
      obtain ⟨dy, hdy, ry⟩ := r.getV hy
      cases hx
      rw [hl, r.length] at hi
      have e0 : (0 : Int) + (i : Nat) = ((i : Nat) : Int) := Int.zero_add _
      exact ⟨fun _ => by rw [eH]; exact Ex.new nT, _, pairsOf_get (intsUp_get hi) hdy, fun M' hM => pair_rep (e2.weak (mo_sub (List.subset_append_right X _))) nT eH hM (by rw [e0]; exact .int _) ry⟩
/-! bit_length -/
theorem ev_bits {to : TE} {KD : D → Prop} (h : Ev W G to fun d => ∃ i : Int, d = .int i ∧ KD (.int (Builtin.Int.intBits i : Nat))) : Ev W G (tBits to) KD := fun X σ H E Q q =>
  h X σ H E _ fun d v H' k ex inv r => by
    obtain ⟨i, rfl, k⟩ := k
    cases r
    exact ⟨i, rfl, q _ _ H' k ex inv (.int _)⟩
end
end Pd

namespace L2
open PySem PySem.Spec PyProof.Rows
abbrev noSet (w : World) : Obj := { cls := .type "set", dict := none, data := .set #[] 0 (.fresh 0 0 (!w.params.followText "set-order")) }
abbrev hpS (w : World) (s : Shared) : Heap := s.heap.push (noSet w)
section
variable {P : Program} {w : World} {A : Around} {E : Value → Shared → Prop} {s : Shared}
theorem pd_set_list {l : Addr} {items : Array Value} (ns : List Int) {Q : Value → Shared → Prop} (hh : A.handled = none) (hl : s.heap.IsList l items) (hit : IntsAre items.toList ns) (hb : ns.length + 1 < scanBound)
    (h : ∀ (h' : Heap) (tk c : Nat), SetR w h' s.heap.objs.size (fun j => decide (j ∈ ns)) c → c ≤ ns.length → (∀ b o, s.heap.get? b = some o → h'.get? b = some o) → Q (.ref s.heap.objs.size) { s with heap := h', toks := tk }) :
    wpAny (model P w) A (call (.type "set") [.ref l]) Q E s := by
  have hisz : items.size = ns.length := by
    have q := IntsAre.length hit
    rw [Array.length_toList] at q
    exact q
  obtain ⟨c, tl, hmro⟩ := F.called_set.mro
  have hmade := F.called_set.made
  have hsub := F.called_set.sub
  refine wpAny_call (codeAny_of_tree ?_)
  show wpAny _ _ (callAny (.type "set") _) _ _ _
  refine wpAny_pure ⟨Code.quiet_builtin _ (by decide +kernel), codeAny_builtin F.entry_type_call ?_⟩
  rw [Around.under_plain (weight_type_call_type "set" [.ref l] []) rfl]
  have h1 := F.called_set.notType
  have h2 := F.called_set.canCreate
  have hct := F.typeCall_set_1 (.ref l)
  repeat (any_goals (first | assumption | wp_step))

  refine codeAny_mono (code_set_led1 (.ref l) (E := E) (Q₁ := fun obj s₁ => obj = .ref s.heap.objs.size ∧ s₁ = { s with heap := hpS w s }) ⟨rfl, rfl⟩) fun r s₁ hr => ?_
  cases r with
  | error e => exact hr
  | ok fl =>
    cases fl with
    | ret obj =>
      obtain ⟨rfl, rfl⟩ := hr
      have hS : (hpS w s).get? s.heap.objs.size = some (noSet w) := Heap.get?_push_size _ rfl
      have hT : Shared.TypeIs { s with heap := hpS w s } (.ref s.heap.objs.size) "set" := ⟨_, hS, rfl⟩
      have hli := F.called_set.init.lookup
      have hbi := F.called_set.init.bind (.ref s.heap.objs.size)
      repeat (any_goals (first | assumption | wp_step))

      refine codeAny_mono (codeAny_call_builtin (R := wants (fun r s₂ => r = .none ∧ ∃ h' tk c, s₂ = { s with heap := h', toks := tk } ∧ SetR w h' s.heap.objs.size (fun j => decide (j ∈ ns)) c ∧ c ≤ ns.length ∧
          (∀ b o, s.heap.get? b = some o → h'.get? b = some o)) E) F.called_set.init.plain F.entry_set_init (check_set_init_1 hT ?_)) fun r₂ s₂ hr₂ => ?_
      · obtain ⟨ol, hol, hcl, nl, hdl⟩ := hl
        obtain ⟨ocls, odict, odata, oslots⟩ := ol
        simp only at hcl hdl
        subst hcl; subst hdl
        have hol' : (hpS w s).get? l = some { cls := .type "list", dict := odict, data := .seq items nl, slots := oslots } := Heap.get?_push_of_some _ hol
        have hsls := F.sub_list_set
        have hslf := F.sub_list_frozenset
        have hne : (Value.type "list" == Value.type "dict") = false := by decide
        have hl1 : (hpS w s).IsList l items := ⟨_, hol', rfl, nl, rfl⟩
        unfold Builtin.«set.__init__» noKeywords Builtin.Frozenset.updateFrom
        generalize hPI : pyIter = PI
        wp_walk
        subst hPI

        refine wpAny_pyIter_list hl1 ?_
        refine wpAny_bind (wpAny_runValue ?_)
        have hlS : l < s.heap.objs.size := Heap.lt_size hol
        have hh3 : A.in1.in1.in1.handled = none := by simp [hh]
        have hz1 : (hpS w s).objs.size = s.heap.objs.size + 1 := Heap.size_push ..
        have hneI : l ≠ (hpS w s).objs.size := by
          rw [Heap.size_push]; exact Nat.ne_of_lt (Nat.lt_succ_of_lt hlS)
        have hSf : s.heap.objs.size ∉ [(hpS w s).objs.size, l] := by
          rw [Heap.size_push]; simp only [List.mem_cons, List.mem_singleton, List.not_mem_nil, or_false, not_or]
          exact ⟨Nat.ne_of_lt (Nat.lt_succ_self _), Nat.ne_of_gt hlS⟩
        have hval : ∀ (i : Nat) (v : Value), items[i]? = some v → ∃ k t, ns[i]? = some k ∧ v = .int k t := fun i v hv => by
          have hi : i < ns.length := by rw [← hisz]; exact (Array.getElem?_eq_some_iff.mp hv).1
          obtain ⟨t, e⟩ := PyProof.Rows.IntsAre.int_at hit i v (by rw [Array.getElem?_toList]; exact hv)
          refine ⟨ns[i], t, List.getElem?_eq_getElem hi, ?_⟩
          rw [e, List.getD_eq_getElem?_getD, List.getElem?_eq_getElem hi] <;> rfl
        refine set_update_ints ((Walks.list hh3 _ l hneI items).toS) s.heap.objs.size
          hSf ns hisz hb hval (items.size - 0) 0 _ (by omega) (Nat.zero_le _)
          ⟨⟨_, Heap.get?_push_size _ rfl, rfl, rfl⟩, (hl1.push _)⟩ ?hS0 ?hR
        case hS0 =>
          have hget : ((hpS w s).push { cls := .type "list_iterator", data := .fields #[.ref l, .int 0 0] }).get? s.heap.objs.size
              = some (noSet w) := Heap.get?_push_of_some _ hS
          exact ⟨0, Nat.le_refl 0, setR_new_at hget⟩
        case hR =>
          intro s' c' hm hc' hS'
          obtain ⟨h', g2, d', tk', os'⟩ := s'
          have eg : g2 = s.gens := hm.gens
          have ed : d' = s.drawn := hm.drawn
          have eo : os' = s.os := hm.os
          subst eg; subst ed; subst eo
          show wpAny _ _ _ _ _ _
          refine wpAny_pure ?_
          show wpAny _ _ (ret Value.none) _ _ _
          rw [hisz] at hc'
          refine wpAny_pure ⟨rfl, h', tk', c', rfl, hS', hc', fun b o e => ?_⟩
          have hb0 : b < s.heap.objs.size := Heap.lt_size e
          have hb1 : b ≠ s.heap.objs.size := Nat.ne_of_lt hb0
          have hb2 : b ≠ (hpS w s).objs.size := by
            rw [Heap.size_push]; exact Nat.ne_of_lt (Nat.lt_succ_of_lt hb0)
          exact hm.heap b o (by simp only [List.mem_cons, List.mem_singleton, List.not_mem_nil, or_false, not_or]; exact ⟨hb1, hb2⟩) (Heap.get?_push_of_some _ (Heap.get?_push_of_some _ e))

      · cases r₂ with
        | error e => exact hr₂
        | ok fl₂ =>
          cases fl₂ with
          | ret r =>
            obtain ⟨rfl, h', tk, c', rfl, hS', hc', hk'⟩ := hr₂
            repeat (any_goals (first | assumption | wp_step))
            exact h _ _ _ hS' hc' hk'
          | _ => exact hr₂.elim
    | _ => exact hr.elim

end
end L2

namespace L2
open PySem PySem.Spec PyProof.Rows
section
variable {X : Cx}
/-- set(xs), a list of fewer than 60 ints -/
def rSetOfL (K : PySem.W.Frag) (w : World) : List V → Hp → VK → Prop := fun xs H Q => ∃ (l : Addr) (ns : List Int), xs = [.ref l] ∧ SqL K H l (ns.map V.int) ∧ ns.length < 60 ∧
  ∀ p c, H p = none → c ≤ ns.length → Q (.ref p) (upd H p (SetO w p (fun j => decide (j ∈ ns)) c))
theorem cr_setOfL (hc : X.calm = true) : CallR X (.type "set") (rSetOfL X.K X.w) := by
  intro pins s σ H xs us Q I r h
  obtain ⟨l, ns, rfl, hq, hlen, q⟩ := h
  obtain ⟨u, rfl, ru⟩ := vals1 r
  cases ru
  obtain ⟨its, rv, p, hz⟩ := I.list hq
  refine pd_set_list ns (I.ok.hd hc) p.isList (ints_of_vals rv) (by unfold scanBound; omega) fun h' tk c R1 hcn k => ?_
  exact ⟨.ref s.heap.objs.size, _, I.laid (t' := tk) k (Nat.le_refl _) (setO_new R1), rfl, q _ _ (I.hok.fresh (Nat.le_refl _)) hcn⟩
end
end L2
namespace Pd
open PySem L2 RZ PyProof.Rows
/-- sorted(set(xs)) -/
theorem pe_sortedSetL {X : Cx} {a : Expr} {ta : TE} {p1 p2 q1 q2 : Pos} (hc : X.calm = true) (hg : Gl X "sorted") (hm : X.mg "sorted" = none) (hg2 : Gl X "set") (hm2 : X.mg "set" = none) (ha : PE X a ta)
    (h1 : starEach [a] X.env = (false, eval a X.env) :: starEach [] X.env := by rfl) (h2 : (backTo q1 (starEach [] X.env)).any (·.1) = false := by rfl)
    (h3 : starEach [(.Call (.Name "set" p1) [a] [] q1 : Expr)] X.env = (false, eval (.Call (.Name "set" p1) [a] [] q1) X.env) :: starEach [] X.env := by rfl) (h4 : (backTo q2 (starEach [] X.env)).any (·.1) = false := by rfl) :
    PE X (.Call (.Name "sorted" p2) [.Call (.Name "set" p1) [a] [] q1] [] q2) (tCB (rSortedSet X.w) (tCons (tCB (rSetOfL X.K X.w) (tCons ta tNil)) tNil)) :=
  pe_callB (cr_sortedSet hc) hg hm (by decide +kernel) (pa_cons (pe_callTy (cr_setOfL hc) hg2 hm2 (by decide +kernel) (pa_cons ha pa_nil h1) (by decide) (by decide) h1 h2) pa_nil h3) (by decide) (by decide) h3 h4
section
variable {W : Wd} {G : List Ent} {te : TE} {K : PySem.W.Frag} {w : World}
theorem evl_sortedSet {KL : List D → Prop} (h : EvB W G te fun d => ∃ ns : List Int, d = .lst (ns.map D.int) ∧ ns.length < 60 ∧ ∀ ms : List Int, ms.Pairwise (· < ·) → (∀ k, k ∈ ms ↔ k ∈ ns) → KL (ms.map D.int)) :
    EvL W G (tCB (rSortedSet w) (tCons (tCB (rSetOfL K w) (tCons te tNil)) tNil)) KL := fun X σ H E Q q =>
  h X σ H E _ fun d v H' k ex inv r => by
    obtain ⟨ns, rfl, hl, k⟩ := k
    obtain ⟨a, us, rfl, ha, s⟩ := r.lst
    have e := RepAll.ints s
    subst e
    refine ⟨a, ns, rfl, .inl (.inl ha), hl, fun p c hp hc => ⟨p, _, c, rfl, upd_same, by omega, fun ms p2 pw hm _ hp2 => ?_⟩⟩
    have ex1 : Ex W.M H' (upd H' p (SetO w p (fun j => decide (j ∈ ns)) c)) := Ex.new hp
    have i1 : W.inv (upd H' p (SetO w p (fun j => decide (j ∈ ns)) c)) := inv_same inv fun _ => Ex.new hp
    exact evl_new E q (ex.trans ex1) i1 (k ms pw fun j => by rw [hm j]; simp) (RepAll.of_ints ms) p2 hp2
end
end Pd

namespace Pd
open PySem L2 RZ PyProof.Rows
/-! ### data without lists -/
mutual
def imm : D → Bool
  | .tup ds => imms ds
  | .lst _ => false
  | .dct => false
  | .rg _ _ => false
  | .obj _ _ _ => false
  | .non => true
  | .bl _ => true
  | .int _ => true
  | .str _ => true
def imms : List D → Bool
  | [] => true
  | d :: ds => imm d && imms ds
end
mutual
theorem Rep.keepT {M M' : Addr → Prop} {H H' : Hp} (k : ∀ a vs, Rd H a (.tup vs) → Rd H' a (.tup vs)) : ∀ {v : V} {d : D}, Rep M H v d → imm d = true → Rep M' H' v d
  | _, _, .non, _ => .non
  | _, _, .bl b, _ => .bl b
  | _, _, .int i, _ => .int i
  | _, _, .str x, _ => .str x
  | _, _, .tup h r, p => .tup (k _ _ h) (RepAll.keepT k r (by simpa [imm] using p))
  | _, _, .lst n h r, p => absurd p (by simp [imm])
  | _, _, .dct _, p => absurd p (by simp [imm])
  | _, _, .rg _, p => absurd p (by simp [imm])
  | _, _, .obj _ _ _ _, p => absurd p (by simp [imm])
theorem RepAll.keepT {M M' : Addr → Prop} {H H' : Hp} (k : ∀ a vs, Rd H a (.tup vs) → Rd H' a (.tup vs)) : ∀ {vs : List V} {ds : List D}, RepAll M H vs ds → imms ds = true → RepAll M' H' vs ds
  | _, _, .nil, _ => .nil
  | _, _, .cons r t, p => .cons (Rep.keepT k r (by simp [imms] at p; exact p.1)) (RepAll.keepT k t (by simp [imms] at p; exact p.2))
end
/-! ### lots of numbers, rows -/
def nT (r : List Nat) : D := .tup (r.map fun (k : Nat) => D.int (k : Int))
def rowsD (rows : List (List Nat)) : D := .tup (rows.map nT)
theorem imm_nT (r : List Nat) : imm (nT r) = true := by
  show imms (r.map fun (k : Nat) => D.int (k : Int)) = true
  induction r with
  | nil => rfl
  | cons a r ih => simpa [imms, imm] using ih
theorem imm_rowsD (rows : List (List Nat)) : imm (rowsD rows) = true := by
  show imms (rows.map nT) = true
  induction rows with
  | nil => rfl
  | cons a r ih => simp only [List.map_cons, imms, imm_nT, ih, Bool.and_self]
/-! ### types of data that may hold objects -/
structure ObjU (K : PySem.W.Frag) (C : Addr) : Prop where
  oc : ObjC K C
  un : ∀ T ∈ usual, PySem.W.kitOne K (.ref C) (.type T) = some false
def TyOk (K : PySem.W.Frag) : D → Prop
  | .obj C _ _ => ObjU K C
  | .rg _ _ => False
  | _ => True
theorem tyD_or {K : PySem.W.Frag} {d : D} (h : TyOk K d) : (∃ n, tyD d = some n) ∨ ∃ C ns ds, d = .obj C ns ds := by
  cases d <;> first | exact .inl ⟨_, rfl⟩ | exact .inr ⟨_, _, _, rfl⟩ | exact h.elim
theorem cd_isTo {K : PySem.W.Frag} {d : D} {T : String} {KK : D → Prop} (h : TyOk K d) (hT : T ∈ usual) (k : KK (.bl (isTy T d))) : CallD (rIsi K) [.d d, .raw (.ty T)] KK := by
  rcases tyD_or h with ⟨n, hn⟩ | ⟨C, ns, ds, rfl⟩
  · exact cd_isT hn hT k
  · have h' : ObjU K C := h
    exact cd_isiOT h'.oc (h'.un T hT) k
theorem TyOk.of {K : PySem.W.Frag} {d : D} {n : String} (h : tyD d = some n) : TyOk K d := by cases d <;> first | trivial | cases h
/-- isinstance(d, (T1, T2, ..)) of usual built-in types -/
theorem kitAny_of {K : PySem.W.Frag} {t : Value} {b : String → Bool} : ∀ {Ts : List String}, (∀ T ∈ Ts, PySem.W.kitOne K t (.type T) = some (b T)) → PySem.W.kitAny K t (Ts.map Value.type) = some (Ts.any b)
  | [], _ => rfl
  | T :: Ts, h => by
    have h1 := h T (List.mem_cons_self ..)
    have ih := kitAny_of (Ts := Ts) fun T' m => h T' (List.mem_cons_of_mem _ m)
    rw [List.map_cons, List.any_cons]
    refine kitAny_cons h1 (fun e => ?_) fun e => ?_
    · rw [e]; exact ih
    · rw [e]; rfl
theorem clsV_list : ∀ Ts : List String, Paired ClsV (Ts.map V.ty) (Ts.map Value.type)
  | [] => .nil
  | T :: Ts => .cons (.ty T) (clsV_list Ts)
theorem cd_isiT {K : PySem.W.Frag} {W : Wd} {G : List Ent} {te : TE} {tt : TA} {KK : D → Prop} (Ts : List String) (hu : ∀ T ∈ Ts, T ∈ usual)
    (htt : tt = (Ts.foldr (fun T r => tCons (tC (.ty T)) r) tNil)) (hl : Ts.length ≤ 10)
    (h : Ev W G te fun d => TyOk K d ∧ KK (.bl (Ts.any fun T => isTy T d))) : Ev W G (tCB (rIsiT K) (tCons te (tCons (tTup tt) tNil))) KK := fun X σ H E Q q =>
  h X σ H E _ fun d v H' ⟨ty, k⟩ ex inv r => by
    subst htt
    have go : ∀ (Us : List String) (σ : L2.St) (H : Hp) (R : List V → Hp → Prop), R (Us.map V.ty) H → (Us.foldr (fun T r => tCons (tC (.ty T)) r) tNil : TA) σ H R := by
      intro Us
      induction Us with
      | nil => intro σ H R h; exact h
      | cons U Us ih => intro σ H R h; exact ih σ H _ h
    refine go Ts σ H' _ ⟨small_le (by rw [List.length_map]; omega), fun p hp => ?_⟩
    have e2 : Ex W.M H' (upd H' p (.tup (Ts.map V.ty))) := Ex.new hp
    have i2 : W.inv (upd H' p (.tup (Ts.map V.ty))) := inv_same inv fun _ => Ex.new hp
    have fin := q (.bl (Ts.any fun T => isTy T d)) _ _ k (ex.trans e2) i2 (.bl _)
    have r2 := r.mono e2 fun _ m => .inl m
    rcases tyD_or ty with ⟨n, hn⟩ | ⟨C, ns, ds, rfl⟩
    · exact ⟨v, p, Ts.map V.ty, .type n, Ts.map Value.type, _, rfl, upd_same, clsV_list Ts, ty_rep r2 hn, kitAny_of (b := fun T => isTy T d) fun T m => kit_ty (isTy_eq hn (hu T m)), fin⟩
    · have ou : ObjU K C := ty
      cases r2 with
      | obj e _ _ _ => exact ⟨_, p, Ts.map V.ty, .ref C, Ts.map Value.type, _, rfl, upd_same, clsV_list Ts, .base (.ins e ou.oc.cl ou.oc.ha ou.oc.hn ou.oc.ht ou.oc.hm), kitAny_of (b := fun T => isTy T (.obj C ns ds)) fun T m => ou.un T (hu T m), fin⟩
end Pd

namespace Pd
open PySem L2 RZ PyProof.Rows
/-! ### objects: made by an own __init__, told by their fields -/
/-- what an own __init__ promises: the fields ns of the object that it fills -/
def FInit (C : Addr) (ns : List Str) (pre : Wd → List Ent → (List D → Prop) → Prop) : Sp := fun vs H Q _ => ∃ (W : Wd) (X : List Addr) (es : List Ent) (K : List D → Prop) (p dx : Addr) (us : List V),
  vs = .ref p :: us ∧ H p = some (.ins C dx []) ∧ pre W es K ∧ W.inv H ∧ ¬ W.M p ∧ p ∉ X ∧ (∀ l ∈ X, ¬ W.M l ∧ ∃ o, H l = some o) ∧ EntVs (mo W X) H us es ∧ owned es = [] ∧
  ∀ H' xs ds, K ds → (∀ H0, H0 p = none → Ex W.M H0 H → Ex W.M H0 H') → W.inv H' → H' p = some (.ins C dx (ns.zip xs)) → xs.length = ns.length → RepAll (mo W X) H' xs ds → Q .non H'
def New (P : Program) (w : World) (K : PySem.W.Frag) (mg : Str → Option Value) (base : Heap) (lv : Nat) (x : Str) (ps : List Str) (C : Addr) (ns : List Str) (pre : Wd → List Ent → (List D → Prop) → Prop) : Prop :=
  ∃ f fd, mg x = some (.ref C) ∧ Mk K C f ∧ Binds K fd ps [] ∧ FnOk P w K mg base CX0 lv f fd ps (FInit C ns pre)
theorem pe_new {X : Cx} {lv : Nat} {x : Str} {ps : List Str} {C : Addr} {ns : List Str} {pre : Wd → List Ent → (List D → Prop) → Prop} {e : Expr} {es : List Expr} {t : TA} {p pos : Pos} (h : New X.prog X.w X.K X.mg X.base lv x ps C ns pre) (hr : Room (lv + 1) X.A) (ha : PA X (e :: es) t) (hg : Gl X x := by rfl)
    (hdb : (x == ("__debug__" : Str)) = false := by decide)
    (he : starEach (e :: es) X.env = (false, eval e X.env) :: starEach es X.env := by rfl) (hpl : (backTo pos (starEach es X.env)).any (·.1) = false := by rfl) : PE X (.Call (.Name x p) (e :: es) [] pos) (tMake C (FInit C ns pre) [] E0 t) := by
  obtain ⟨f, fd, hm, hk, hb, F⟩ := h
  exact pe_make hk F hr hg hm hb .nil pass0 ha hdb he hpl
section
variable {W : Wd} {G : List Ent} {ta te tb : TE} {tt : TA} {KK : D → Prop} {K : PySem.W.Frag}
theorem owned_rev {es : List Ent} (h : owned es = []) : ∀ a ds, Ent.own a ds ∉ es := fun a ds m => by
  have : a ∈ owned es := List.mem_filterMap.mpr ⟨_, m, rfl⟩
  rw [h] at this; cases this
theorem made_ex {H : Hp} {C x dx : Addr} (hx : H x = none) (hdx : H dx = none) (hne : dx ≠ x) (M : Addr → Prop) : Ex M H (upd (upd H dx (.own x)) x (.ins C dx [])) :=
  (Ex.new hdx).trans (Ex.new (by rw [upd_ne hne.symm]; exact hx))
theorem ev_new {C : Addr} {ns : List Str} {pre : Wd → List Ent → (List D → Prop) → Prop} {E : XK} (h : EvA W G tt fun es => owned es = [] ∧ pre W es fun ds => KK (.obj C ns ds)) : Ev W G (tMake C (FInit C ns pre) [] E tt) KK := fun X σ H E1 Q q =>
  h X σ H E1 _ fun es vs H1 ⟨ho, k⟩ _ ex inv r => fun x dx hx hdx hne => by
    have E2 := E1.mono ex inv
    have e2 := made_ex (C := C) hx hdx hne
    refine ⟨W, X ++ owned G, es, _, x, dx, vs, by rw [List.append_nil], upd_same, k, inv_same inv e2, new_ne inv hx, own_neX E2 hx, fun l hl => ?_, r.mono (e2 _) (fun a m => m) fun l ds m => absurd m (owned_rev ho l ds), ho, fun H' us ds k2 ex2 inv2 hp hl r2 => ⟨rfl, q _ _ _ k2 (ex2 H (ex.none hx) (ex.trans (e2 _))) inv2 (.obj hp rfl hl.symm r2)⟩⟩
    have t : ¬ W.M l ∧ ∃ o, H1 l = some o := by
      rcases List.mem_append.mp hl with z | z
      · exact E2.xs l z
      · exact ⟨(E2.ap l z).1, mo_there E2 l (.inr (List.mem_append_right _ z))⟩
    obtain ⟨t1, o, t2⟩ := t
    exact ⟨t1, (e2 fun _ => False).th l o t2⟩
/-- a change at an object that a def has made itself keeps what data says without lists and objects -/
theorem upd_tup {H : Hp} {p : Addr} {o o' : HO} (hp : H p = some o) (hn : ∀ vs, o ≠ .tup vs) (hf : ∀ ob vs, o ≠ .frz ob (.tup vs)) : ∀ a vs, Rd H a (.tup vs) → Rd (upd H p o') a (.tup vs) := fun a vs h => by
  have : a ≠ p := fun z => by
    subst z
    rcases h with h | ⟨ob, h⟩
    · rw [hp] at h; exact hn vs (Option.some.inj h)
    · rw [hp] at h; exact hf ob vs (Option.some.inj h)
  unfold Rd
  rw [upd_ne this]; exact h
theorem inv_ins {W : Wd} {H : Hp} {p : Addr} {o : HO} (i : W.inv H) (n : ¬ W.M p) : W.inv (upd H p o) := W.dep H _ i fun a u m h => by
  have : a ≠ p := fun z => by subst z; exact n m
  rw [upd_ne this]; exact h
/-- tuples are kept -/
def KpT (H H' : Hp) : Prop := ∀ a vs, Rd H a (.tup vs) → Rd H' a (.tup vs)
theorem Ex.kpT {M : Addr → Prop} {H H' : Hp} (e : Ex M H H') : KpT H H' := fun a vs h => h.keep e
theorem KpT.trans {H H1 H2 : Hp} (a : KpT H H1) (b : KpT H1 H2) : KpT H H2 := fun x vs h => b x vs (a x vs h)
theorem KpT.ins {H : Hp} {p C dx : Addr} {fs : List (Str × V)} {o' : HO} (hp : H p = some (.ins C dx fs)) : KpT H (upd H p o') := upd_tup hp (fun vs z => by cases z) fun ob vs z => by cases z
theorem Ex.ins {M : Addr → Prop} {H H' : Hp} {p C dx : Addr} {fs : List (Str × V)} (e : Ex M H H') (hp : H p = some (.ins C dx fs)) : H' p = some (.ins C dx fs) := e.kp p _ hp fun _ => trivial
end
theorem pts_conv {X : Cx} {cs : List Expr} {t t' : TT} (h : PTs X cs t') (e : t' = t) : PTs X cs t := e ▸ h
theorem pe_conv {X : Cx} {c : Expr} {t t' : TE} (h : PE X c t') (e : t' = t) : PE X c t := e ▸ h
theorem owned_c {e : Ent} {G : List Ent} (h : ownOf e = none) : owned (e :: G) = owned G := by
  unfold owned; rw [List.filterMap_cons, h]
/-! ### a range kept -/
def rRange2 : List V → Hp → VK → Prop := fun xs H Q => ∃ i j, xs = [.int i, .int j] ∧ ∀ p, H p = none → Q (.ref p) (upd H p (.rng i j))
theorem cr_rangeAB {X : Cx} : CallR X (.type "range") rRange2 := by
  intro pins s σ H xs us Q I r h
  obtain ⟨i, j, rfl, q⟩ := h
  cases r with
  | cons r rr =>
    cases rr with
    | cons r' rr =>
      cases rr
      obtain ⟨t, rfl⟩ := r
      obtain ⟨t', rfl⟩ := r'
      exact call_range_2 ⟨.ref s.heap.objs.size, upd H s.heap.objs.size (.rng i j), I.laid (t' := s.toks + 1) (fun c o e => Heap.get?_push_of_some _ e) (Nat.le_refl _) (show ObjOk X.prog X.w _ _ _ (.rng i j) from ⟨_, _, _, Heap.get?_push_size _ rfl⟩), rfl, q _ (I.hok.fresh (Nat.le_refl _))⟩
def iRngV (tl : TE) : TI := fun σ H R => tl σ H fun x H1 => ∃ a lo hi, x = .ref a ∧ H1 a = some (.rng lo hi) ∧ (-(2 ^ 62) ≤ lo ∧ lo < 2 ^ 62 ∧ -(2 ^ 62) ≤ hi ∧ hi < 2 ^ 62) ∧ R (Itr lo (hi - lo).toNat) H1
theorem pi_rngV {X : Cx} {tg : Expr} {l : Expr} {tl : TE} (hl : PE X l tl) : PI X tg l (iRngV tl) := by
  refine ⟨fun pins s σ H R I h => ?_⟩
  refine thn (hl.run pins s σ H _ I h) fun x s1 ⟨y, H1, I1, r1, q1⟩ => ?_
  obtain ⟨a, lo, hi, e, hq, ⟨h1, h2, h3, h4⟩, q⟩ := q1
  subst e
  cases r1
  obtain ⟨t, u, v, hz⟩ := I1.hok a _ hq
  refine wpAny_pyIter_range (show IsRange s1.heap a lo hi 1 t u v from hz) (small_one h1 h2 h3 h4) ?_
  refine ⟨s1.heap.objs.size, [s1.heap.objs.size], _, _, H1, rfl, I1.kept (t' := s1.toks) fun b o e => Heap.get?_push_of_some _ e, turn_range _ lo (hi - lo).toNat, ?_, fun b hb => ?_, q⟩
  · have e1 : lo + ((0 : Nat) : Int) * 1 = lo := by simp
    have e2 : (((hi - lo).toNat : Nat) : Int) - ((0 : Nat) : Int) = Builtin.Range.rangeSize lo hi 1 := by rw [rangeSize_one]; split <;> omega
    show IsRangeIter _ _ (lo + ((0 : Nat) : Int) * 1) ((((hi - lo).toNat : Nat) : Int) - ((0 : Nat) : Int)) 1
    rw [e1, e2]
    exact Heap.get?_push_size _ rfl
  · have e : b = s1.heap.objs.size := by simpa using hb
    subst e
    exact I1.fpOk (Nat.le_refl _) (I1.hok.fresh (Nat.le_refl _))
section
variable {W : Wd} {G : List Ent} {tl : TE} {KK : D → Prop} {KL : List D → Prop}
theorem cd_range2 {a b : Int} (k : KK (.rg a b)) : CallD rRange2 [.d (.int a), .d (.int b)] KK := fun M vs H r0 th Q q => by
  obtain ⟨v, u, rfl, r, s⟩ := vs2 r0
  cases (show Rep M H v (.int a) from r); cases (show Rep M H u (.int b) from s)
  exact ⟨a, b, rfl, fun p hp => q _ _ _ k (fun _ => Ex.new hp) (.rg upd_same)⟩
theorem evi_rngV (h : Ev W G tl fun x => ∃ a b : Int, x = .rg a b ∧ -(2 ^ 62) ≤ a ∧ a < 2 ^ 62 ∧ -(2 ^ 62) ≤ b ∧ b < 2 ^ 62 ∧ KL (intsUp a (b - a).toNat)) : EvI W G (iRngV tl) KL := fun X σ H E R q =>
  h X σ H E _ fun x v H1 k ex inv r => by
    obtain ⟨a, b, rfl, h1, h2, h3, h4, k⟩ := k
    cases r with
    | rg hr =>
    refine ⟨_, a, b, rfl, hr, ⟨h1, h2, h3, h4⟩, q _ (Itr a (b - a).toNat) H1 (fun _ => True) (YFn fun i => .int (a + (i : Nat))) k ex inv (by rw [intsUp_len]; exact walk_range) (fun _ _ => trivial) fun i H2 x H3 e2 hi y => ?_⟩
    obtain ⟨rfl, rfl⟩ := y
    rw [intsUp_len] at hi
    exact ⟨fun _ => Ex.refl _ _, _, intsUp_get hi, fun _ _ => .int _⟩
end
end Pd

/-! Books of kinds, told by rows of parents; masks of forebears. -/
namespace Bk
def stepMask (found : List Nat) (k : Nat) (row : List Nat) : Nat := row.foldl (fun m p => m ||| found.getD p 0) (2 ^ k)
def grow (found : List Nat) (row : List Nat) : List Nat := found ++ [stepMask found found.length row]
def masks (rows : List (List Nat)) : List Nat := rows.foldl grow []
theorem masks_snoc (rows : List (List Nat)) (row : List Nat) : masks (rows ++ [row]) = grow (masks rows) row := by
  unfold masks; rw [List.foldl_append]; rfl
theorem grow_length (found : List Nat) (row : List Nat) : (grow found row).length = found.length + 1 := by
  unfold grow; rw [List.length_append]; rfl
theorem fold_length : ∀ (rows : List (List Nat)) (acc : List Nat), (rows.foldl grow acc).length = acc.length + rows.length
  | [], _ => rfl
  | r :: rs, acc => by rw [List.foldl_cons, fold_length rs, grow_length, List.length_cons]; omega
theorem masks_length (rows : List (List Nat)) : (masks rows).length = rows.length := by
  unfold masks; rw [fold_length]; simp
theorem fold_prefix : ∀ (rows : List (List Nat)) (acc : List Nat), acc <+: rows.foldl grow acc
  | [], _ => List.prefix_refl _
  | r :: rs, acc => (List.prefix_append acc _).trans (fold_prefix rs (grow acc r))
theorem masks_prefix (rows more : List (List Nat)) : masks rows <+: masks (rows ++ more) := by
  unfold masks; rw [List.foldl_append]; exact fold_prefix _ _
theorem take_snoc {α : Type} {rows : List α} {i : Nat} {row : α} (h : rows[i]? = some row) : rows.take (i + 1) = rows.take i ++ [row] := by
  rw [List.take_add_one, h]; rfl
theorem masks_take {rows : List (List Nat)} {i : Nat} {row : List Nat} (h : rows[i]? = some row) : masks (rows.take (i + 1)) = grow (masks (rows.take i)) row := by
  rw [take_snoc h, masks_snoc]
theorem getD_prefix {a b : List Nat} (h : a <+: b) {i : Nat} (hi : i < a.length) : b.getD i 0 = a.getD i 0 := by
  obtain ⟨t, rfl⟩ := h
  rw [List.getD_eq_getElem?_getD, List.getD_eq_getElem?_getD, List.getElem?_append_left hi]
/-- the mask of kind x -/
def mask (rows : List (List Nat)) (x : Nat) : Nat := (masks rows).getD x 0
theorem mask_take (rows : List (List Nat)) {i x : Nat} (hi : i ≤ rows.length) (h : x < i) : mask (rows.take i) x = mask rows x := by
  unfold mask
  have p := masks_prefix (rows.take i) (rows.drop i)
  rw [List.take_append_drop] at p
  refine (getD_prefix p ?_).symm
  rw [masks_length, List.length_take]; omega
def RowsOk (rows : List (List Nat)) : Prop := ∀ (k : Nat) (row : List Nat), rows[k]? = some row → ∀ p ∈ row, p < k
theorem RowsOk.take {rows : List (List Nat)} (h : RowsOk rows) (i : Nat) : RowsOk (rows.take i) := fun k row hk => by
  rw [List.getElem?_take] at hk
  by_cases q : k < i
  · rw [if_pos q] at hk; exact h k row hk
  · rw [if_neg q] at hk; cases hk
theorem mask_eq {rows : List (List Nat)} {x : Nat} {row : List Nat} (h : rows[x]? = some row) : mask rows x = stepMask (masks (rows.take x)) x row := by
  have hx := (List.getElem?_eq_some_iff.mp h).1
  rw [← mask_take rows (i := x + 1) hx (Nat.lt_succ_self x)]
  unfold mask
  rw [masks_take h]
  unfold grow
  have hl : (masks (rows.take x)).length = x := by rw [masks_length, List.length_take]; omega
  rw [hl, List.getD_eq_getElem?_getD, List.getElem?_append_right (by omega), hl, Nat.sub_self]
  rfl
theorem fold_testBit (found : List Nat) (p : Nat) : ∀ (row : List Nat) (m : Nat), (row.foldl (fun m q => m ||| found.getD q 0) m).testBit p = (m.testBit p || row.any fun q => (found.getD q 0).testBit p)
  | [], m => by simp
  | q :: row, m => by rw [List.foldl_cons, fold_testBit found p row, Nat.testBit_or, List.any_cons, Bool.or_assoc]
/-- x is a p -/
def isA (rows : List (List Nat)) (x p : Nat) : Bool := (mask rows x).testBit p
theorem any_congr' {α : Type} {f g : α → Bool} : ∀ {l : List α}, (∀ a ∈ l, f a = g a) → l.any f = l.any g
  | [], _ => rfl
  | a :: l, h => by rw [List.any_cons, List.any_cons, h a (List.mem_cons_self ..), any_congr' fun b m => h b (List.mem_cons_of_mem _ m)]
theorem isA_eq {rows : List (List Nat)} (ok : RowsOk rows) {x p : Nat} {row : List Nat} (h : rows[x]? = some row) : isA rows x p = (decide (x = p) || row.any fun q => isA rows q p) := by
  unfold isA
  have hx := (List.getElem?_eq_some_iff.mp h).1
  rw [mask_eq h]
  unfold stepMask
  rw [fold_testBit, Nat.testBit_two_pow]
  congr 1
  refine any_congr' fun q hq => ?_
  show (mask (rows.take x) q).testBit p = _
  rw [mask_take rows (Nat.le_of_lt hx) (ok x row h q hq)]
theorem isA_self {rows : List (List Nat)} (ok : RowsOk rows) {x : Nat} (h : x < rows.length) : isA rows x x = true := by
  rw [isA_eq ok (List.getElem?_eq_getElem h)]; simp
theorem isA_le {rows : List (List Nat)} (ok : RowsOk rows) : ∀ (x p : Nat), x < rows.length → isA rows x p = true → p ≤ x := by
  intro x
  induction x using Nat.strongRecOn with
  | _ x ih =>
    intro p hx h
    rw [isA_eq ok (List.getElem?_eq_getElem hx)] at h
    rcases Bool.or_eq_true_iff.mp h with z | z
    · have := of_decide_eq_true z; omega
    · obtain ⟨q, hq, hp⟩ := List.any_eq_true.mp z
      have hqx := ok x _ (List.getElem?_eq_getElem hx) q hq
      have := ih q hqx p (by omega) hp
      omega
theorem mask_lt {rows : List (List Nat)} (ok : RowsOk rows) {x : Nat} (hx : x < rows.length) : mask rows x < 2 ^ (x + 1) :=
  Nat.lt_pow_two_of_testBit _ fun i hi => by
    refine Bool.eq_false_iff.mpr fun z => ?_
    have := isA_le ok x i hx z
    omega
/-- is_a goes along -/
theorem isA_trans {rows : List (List Nat)} (ok : RowsOk rows) : ∀ (x y z : Nat), x < rows.length → isA rows x y = true → isA rows y z = true → isA rows x z = true := by
  intro x
  induction x using Nat.strongRecOn with
  | _ x ih =>
    intro y z hx h1 h2
    rw [isA_eq ok (List.getElem?_eq_getElem hx)] at h1 ⊢
    rcases Bool.or_eq_true_iff.mp h1 with w | w
    · have := of_decide_eq_true w
      subst this
      rw [isA_eq ok (List.getElem?_eq_getElem hx)] at h2
      exact h2
    · obtain ⟨q, hq, hp⟩ := List.any_eq_true.mp w
      have hqx := ok x _ (List.getElem?_eq_getElem hx) q hq
      refine Bool.or_eq_true_iff.mpr (.inr (List.any_eq_true.mpr ⟨q, hq, ih q hqx y z (by omega) hp h2⟩))
end Bk

namespace Pd
open PySem L2 RZ PyProof.Rows
/-! ### == of lots and rows -/
theorem toPs_map {α : Type} (f : α → D) : ∀ l : List α, toPs (l.map f) = l.map fun a => toP (f a)
  | [] => rfl
  | a :: l => by rw [List.map_cons, List.map_cons, toPs, toPs_map f l]
theorem lay_all {α : Type} (f : α → PyData) (h : ∀ a, (f a).canLay0 = true) : ∀ l : List α, PyData.canLayAll0 (l.map f) = true
  | [] => rfl
  | a :: l => by rw [List.map_cons, PyData.canLayAll0, h a, lay_all f h l]; rfl
theorem depth_all {α : Type} (f : α → PyData) (n : Nat) (h : ∀ a, (f a).depth ≤ n) : ∀ l : List α, PyData.depthAll (l.map f) ≤ n
  | [] => Nat.zero_le _
  | a :: l => by
    rw [List.map_cons, PyData.depthAll]
    exact Nat.max_le.mpr ⟨h a, depth_all f n h l⟩
theorem plains_map {α : Type} (f : α → D) (h : ∀ a, plain (f a) = true) : ∀ l : List α, plains (l.map f) = true
  | [] => rfl
  | a :: l => by rw [List.map_cons, plains, h a, plains_map f h l]; rfl
theorem plain_nT (r : List Nat) : plain (nT r) = true := by
  show plains (r.map fun (k : Nat) => D.int (k : Int)) = true
  exact plains_map _ (fun _ => rfl) r
theorem toP_nT (r : List Nat) : toP (nT r) = .tuple (r.map fun (k : Nat) => PyData.int (k : Int)) := by
  show PyData.tuple (toPs _) = _
  rw [toPs_map]; rfl
theorem lay_nT (r : List Nat) : (toP (nT r)).canLay0 = true := by
  rw [toP_nT]
  show PyData.canLayAll0 _ = true
  exact lay_all _ (fun _ => rfl) r
theorem depth_nT (r : List Nat) : (toP (nT r)).depth ≤ 1 := by
  rw [toP_nT]
  show PyData.depthAll _ + 1 ≤ 1
  have := depth_all (fun (k : Nat) => PyData.int (k : Int)) 0 (fun _ => Nat.le_refl _) r
  omega
theorem ok_nT (r : List Nat) : okD (nT r) = true := by
  unfold okD
  rw [plain_nT]
  show (PyData.canLay0 _ && decide _) = true
  rw [lay_nT]
  have := depth_nT r
  simp; omega
theorem toP_rows (rows : List (List Nat)) : toP (rowsD rows) = .tuple (rows.map fun r => toP (nT r)) := by
  show PyData.tuple (toPs _) = _
  rw [toPs_map]
theorem ok_rowsD (rows : List (List Nat)) : okD (rowsD rows) = true := by
  unfold okD
  have h1 : plain (rowsD rows) = true := plains_map _ plain_nT rows
  have h2 : (toP (rowsD rows)).canLay0 = true := by
    rw [toP_rows]
    exact lay_all _ lay_nT rows
  have h3 : (toP (rowsD rows)).depth ≤ 2 := by
    rw [toP_rows]
    have := depth_all (fun r => toP (nT r)) 1 depth_nT rows
    show PyData.depthAll _ + 1 ≤ 2
    omega
  rw [h1]
  show (PyData.canLay0 _ && decide _) = true
  rw [h2]
  simp; omega
theorem eqv_map {α : Type} [DecidableEq α] (f : α → PyData) (h : ∀ a b, PyData.eqv (f a) (f b) = decide (a = b)) : ∀ l m : List α, PyData.eqvAll (l.map f) (m.map f) = decide (l = m)
  | [], [] => rfl
  | [], b :: m => by simp [PyData.eqvAll]
  | a :: l, [] => by simp [PyData.eqvAll]
  | a :: l, b :: m => by
    rw [List.map_cons, List.map_cons, PyData.eqvAll, h a b, eqv_map f h l m]
    by_cases q : a = b
    · subst q; simp
    · simp [q]
theorem eqD_nT (a b : List Nat) : eqD (nT a) (nT b) = decide (a = b) := by
  unfold eqD
  rw [toP_nT, toP_nT]
  show PyData.eqvAll _ _ = _
  refine eqv_map _ (fun x y => ?_) a b
  show ((x : Int) == (y : Int)) = _
  rw [Bool.eq_iff_iff, beq_iff_eq, decide_eq_true_eq]; omega
theorem eqD_rows (a b : List (List Nat)) : eqD (rowsD a) (rowsD b) = decide (a = b) := by
  unfold eqD
  rw [toP_rows, toP_rows]
  show PyData.eqvAll _ _ = _
  exact eqv_map _ eqD_nT a b
/-! ### == by an own __eq__ -/
def EqOf (P : Program) (w : World) (K : PySem.W.Frag) (mg : Str → Option Value) (base : Heap) (lv : Nat) (C : Addr) (ps : List Str) (sp : Sp) : Prop :=
  ∃ f fd, PySem.W.findIn K (.ref C) "__eq__" = some (some (.ref f)) ∧ PySem.W.isFn K (.ref f) = true ∧ Binds K fd ps [] ∧ FnOk P w K mg base CX0 lv f fd ps sp
def rEqOwn (C : Addr) (sp : Sp) : R2 := fun x y H Q => ∃ a dx fs b dy gs, x = .ref a ∧ y = .ref b ∧ H a = some (.ins C dx fs) ∧ H b = some (.ins C dy gs) ∧ sp [x, y] H (fun v H' => (∃ k, v = .bl k) ∧ Q v H') E0
theorem op_eqOf {X : Cx} {lv : Nat} {C : Addr} {ps : List Str} {sp : Sp} (h : EqOf X.prog X.w X.K X.mg X.base lv C ps sp) (hr : Room lv X.A) : OpR X (compareOp .Eq) (rEqOwn C sp) := by
  obtain ⟨f, fd, hs, hf, hb, F⟩ := h
  intro pins s σ H x y u v Q I rx ry hq
  obtain ⟨a, dx, fs, b, dy, gs, rfl, rfl, ha, hb', hsp⟩ := hq
  show wpAny (model X.prog X.w) X.A (richCompare .Eq u v) (EP X pins σ Q) X.xe s
  cases rx
  cases ry
  obtain ⟨mA, J, _⟩ := ins_get I.hok ha
  obtain ⟨mB, J', _⟩ := ins_get I.hok hb'
  obtain ⟨od, J, _⟩ := J.look
  obtain ⟨od', J', _⟩ := J'.look
  obtain ⟨m, hF⟩ := I.fr
  refine PySem.W.cmp_K (op := .Eq) (tb := .ref C) hr.units0 hF I.ok.mod.kin J J'.type (by simp [PySem.W.notFirst]) hs hf ?_
  have hl := F.len _ _ _ _ hsp
  have r2 : Vals [V.ref a, V.ref b] [Value.ref a, Value.ref b] := .cons rfl (.cons rfl .nil)
  refine wpAny_call (codeAny_mono (F.run X.A X.stack s H ⟨[.ref a, .ref b], []⟩ [.ref a, .ref b] [.ref a, .ref b] _ E0 hr I.env0 (by
    have := hb s [.ref a, .ref b] I.kIn (by simpa using hl)
    simpa using this) r2 hsp) fun r s' hq => ?_)
  cases r with
  | error e => exact pass0 (X := X) pins σ H s e s' I hq
  | ok fl =>
    cases fl with
    | ret w =>
      obtain ⟨z, H', I', rz, ⟨k, ez⟩, q⟩ := I.after hq
      subst ez
      cases rz
      exact ⟨.bl k, H', I', rfl, q⟩
    | next => exact False.elim hq
    | brk => exact False.elim hq
    | cont => exact False.elim hq
theorem opd_eqOf {C : Addr} {pre : Wd → List Ent → (D → Prop) → Prop} {ns : List Str} {xs ys : List D} {KK : D → Prop} (h : pre Wd.none [.d (.obj C ns xs), .d (.obj C ns ys)] fun d => ∃ b, d = .bl b ∧ KK (.bl b)) : OpD (rEqOwn C (FSp pre)) (.obj C ns xs) (.obj C ns ys) KK := fun Mw M v u H r1 r2 th Q q => by
  have o1 : Rep M H v (.obj C ns xs) := r1.elim id fun ⟨_, _, _, _, z, _⟩ => nomatch z
  have o2 : Rep M H u (.obj C ns ys) := r2.elim id fun ⟨_, _, _, _, z, _⟩ => nomatch z
  have l1 := Rep.less (M := mo Wd.none []) (fun a m => m.elim (fun z => z.elim) fun z => nomatch z) o1
  have l2 := Rep.less (M := mo Wd.none []) (fun a m => m.elim (fun z => z.elim) fun z => nomatch z) o2
  cases o1 with
  | obj e1 _ _ _ =>
  cases o2 with
  | obj e2 _ _ _ =>
  refine ⟨_, _, _, _, _, _, rfl, rfl, e1, e2, Wd.none, [], _, _, h, trivial, (fun l hl => nomatch hl), .cons l1 (.cons l2 .nil), rfl, fun d v H' ⟨b, ed, k⟩ ex _ r => ?_⟩
  subst ed
  cases r
  exact ⟨⟨b, rfl⟩, q _ _ H' k (fun M' => ex.weak fun a m => m.elim) (.bl b)⟩
end Pd

namespace Pd
open PySem L2 RZ PyProof.Rows
/-! ### the world of a law's tape: the list at t, its cells at c -/
def TapeIn (t c : Addr) (H : Hp) : Prop := ∃ (ns : List Int) (p : Nat) (a b n : Int), H t = some (.lst [.ref c, .int (p : Int), .int a, .int b, .int n]) ∧ H c = some (.lst (ns.map V.int))
theorem TapeIn.ne {t c : Addr} {H : Hp} (h : TapeIn t c H) : t ≠ c := fun e => by
  obtain ⟨ns, p, a, b, n, h1, h2⟩ := h
  subst e
  rw [h1] at h2
  cases ns with
  | nil => cases h2
  | cons x ns => cases h2
def tapeW (t c : Addr) : Wd where
  M := fun a => a = t ∨ a = c
  inv := TapeIn t c
  lst := fun H a ⟨ns, p, x, b, n, h1, h2⟩ m => by
    rcases m with rfl | rfl
    · exact ⟨_, h1⟩
    · exact ⟨_, h2⟩
  dep := fun H H' ⟨ns, p, a, b, n, h1, h2⟩ k => ⟨ns, p, a, b, n, k _ _ (.inl rfl) h1, k _ _ (.inr rfl) h2⟩
theorem pg_conv {X : Cx} {t : Expr} {g g' : TG} (h : PG X t g') (e : g' = g) : PG X t g := e ▸ h
theorem pe_no {X : Cx} {e : Expr} : PE X e (fun _ _ _ => False) := ⟨fun _ _ _ _ _ _ h => h.elim⟩
section
variable {G : List Ent} {te : TE} {KK : D → Prop} {E : Post} {K : PySem.W.Frag} {t c : Addr} {i : Nat}
theorem raw_at {W : Wd} {X : List Addr} {H : Hp} {σ : L2.St} {v : V} (E1 : Env W X H σ G) (hG : G[i]? = some (.raw v)) : σ[i]? = some (some v) := by
  obtain ⟨x, e, r⟩ := E1.ok.get hG
  rw [e]
  exact congrArg some r
/-- an int of the tape -/
theorem ev_tp {j : Int} (hj : j = 1 ∨ j = 2 ∨ j = 3 ∨ j = 4) (hG : G[i]? = some (.raw (.ref t))) (k : ∀ z : Int, KK (.int z)) : Ev (tapeW t c) G (tOp (rIx K) (tVar i) (tC (.int j))) KK := fun X σ H E1 Q q => by
  obtain ⟨ns, p, a, b, n, h1, h2⟩ := E1.inv
  refine ⟨_, raw_at E1 hG, ?_⟩
  have fin : ∀ z : Int, atI [V.ref c, .int (p : Int), .int a, .int b, .int n] j = some (.int z) → rIx K (.ref t) (.int j) H Q := fun z hz =>
    .inl ⟨t, _, j, _, rfl, rfl, SqL.of h1, hz, q _ _ H (k z) (Ex.refl _ _) E1.inv (.int z)⟩
  rcases hj with rfl | rfl | rfl | rfl
  · exact fin p rfl
  · exact fin a rfl
  · exact fin b rfl
  · exact fin n rfl
theorem tape_put {H : Hp} (h : TapeIn t c H) {j : Int} {m : Nat} (hj : (j = 2 ∧ m = 2) ∨ (j = 3 ∧ m = 3) ∨ (j = 4 ∧ m = 4)) (z : Int) : ∃ xs : List V, H t = some (.lst xs) ∧ ixN xs.length j = some m ∧ TapeIn t c (upd H t (.lst (xs.set m (.int z)))) := by
  have hne := h.ne
  obtain ⟨ns, p, a, b, n, h1, h2⟩ := h
  refine ⟨_, h1, ?_, ?_⟩
  · rcases hj with ⟨rfl, rfl⟩ | ⟨rfl, rfl⟩ | ⟨rfl, rfl⟩ <;> rfl
  · have e2 : (upd H t (.lst (([V.ref c, .int (p : Int), .int a, .int b, .int n]).set m (.int z)))) c = some (.lst (ns.map V.int)) := by rw [upd_ne hne.symm]; exact h2
    rcases hj with ⟨rfl, rfl⟩ | ⟨rfl, rfl⟩ | ⟨rfl, rfl⟩
    · exact ⟨ns, p, z, b, n, upd_same, e2⟩
    · exact ⟨ns, p, a, z, n, upd_same, e2⟩
    · exact ⟨ns, p, a, b, z, upd_same, e2⟩
theorem Ok.tape {X N : List Addr} {H0 H : Hp} {σ : L2.St} {xs ys : List V} (o : Ok (tapeW t c) X N H0 H σ G) (h : H t = some (.lst xs)) (i : TapeIn t c (upd H t (.lst ys))) : Ok (tapeW t c) X N H0 (upd H t (.lst ys)) σ G :=
  o.mono (Ex.mut (M := (tapeW t c).M) (.inl rfl) h) i
/-- tape[j] = an int -/
theorem st_tp {j : Int} {m : Nat} (hj : (j = 2 ∧ m = 2) ∨ (j = 3 ∧ m = 3) ∨ (j = 4 ∧ m = 4)) (hG : G[i]? = some (.raw (.ref t))) (h : Ev (tapeW t c) G te fun d => ∃ z, d = .int z ∧ E.nx G) :
    St (tapeW t c) G (tAsg te (gSub (tVar i) (tC (.int j)) rSetL)) E := fun X N H0 σ H o D m' => by
  refine h X σ H o.env _ fun d v H' ⟨z, e, k⟩ ex inv r => ?_
  subst e
  cases r
  have o1 := o.mono ex inv
  obtain ⟨xs, h1, h2, h3⟩ := tape_put inv hj z
  exact ⟨_, raw_at o1.env hG, t, xs, j, m, rfl, rfl, h1, h2, m'.nx _ _ _ k (o1.tape h1 h3)⟩
/-- if tape[1] < len(tape[0]): cell = tape[0][tape[1]]; tape[1] = tape[1] + 1 -/
theorem st_cell {iv : Nat} (hG : G[i]? = some (.raw (.ref t))) (hne : iv ≠ i) (k0 : E.nx G) (k : ∀ z : Int, E.nx (G.set iv (.d (.int z)))) :
    St (tapeW t c) G (tIfS (tTest (tOp (rI0 fun i j => .bl (decide (i < j))) (tOp (rIx K) (tVar i) (tC (.int 1))) (tCB (rLen1 K) (tCons (tOp (rIx K) (tVar i) (tC (.int 0))) tNil))))
      (tSeq (tAsg (tOp (rIx K) (tOp (rIx K) (tVar i) (tC (.int 0))) (tOp (rIx K) (tVar i) (tC (.int 1)))) (gName iv))
        (tAsg (tOp (rPlus K) (tOp (rIx K) (tVar i) (tC (.int 1))) (tC (.int 1))) (gSub (tVar i) (tC (.int 1)) rSetL))) tNext) E := fun X N H0 σ H o D m' => by
  have inv := o.env.inv
  obtain ⟨ns, p, a, b, n, h1, h2⟩ := id inv
  have hσ := raw_at o.env hG
  refine ⟨_, hσ, .inl ⟨t, _, 1, _, rfl, rfl, SqL.of h1, rfl, ?_⟩⟩
  refine ⟨_, hσ, .inl ⟨t, _, 0, _, rfl, rfl, SqL.of h1, rfl, ?_⟩⟩
  refine ⟨.ref c, ns.length, rfl, .inl ⟨ns.map V.int, SqL.of h2, by rw [List.length_map]⟩, ?_⟩
  refine ⟨_, _, rfl, rfl, _, rfl, ?_⟩
  show (if decide ((p : Int) < (ns.length : Int)) = true then _ else _)
  by_cases hp : (p : Int) < (ns.length : Int)
  · rw [if_pos (decide_eq_true hp)]
    have hp' : p < ns.length := by omega
    have hz : atI (ns.map V.int) (p : Int) = some (.int (ns[p])) := by
      unfold atI ixN
      rw [if_pos (by omega), if_pos (by rw [List.length_map]; omega)]
      simp [hp']
    refine ⟨_, hσ, .inl ⟨t, _, 0, _, rfl, rfl, SqL.of h1, rfl, ?_⟩⟩
    refine ⟨_, hσ, .inl ⟨t, _, 1, _, rfl, rfl, SqL.of h1, rfl, ?_⟩⟩
    refine .inl ⟨c, _, (p : Int), _, rfl, rfl, SqL.of h2, hz, ?_⟩
    have o1 : Ok (tapeW t c) X N H0 H (σ.set iv (some (.int ns[p]))) (G.set iv (.d (.int ns[p]))) := o.put (.int _)
    have hG1 : (G.set iv (.d (.int ns[p])))[i]? = some (.raw (.ref t)) := by rw [List.getElem?_set_ne hne]; exact hG
    have hσ1 := raw_at o1.env hG1
    refine ⟨_, hσ1, .inl ⟨t, _, 1, _, rfl, rfl, SqL.of h1, rfl, ?_⟩⟩
    refine .inl ⟨_, _, rfl, rfl, ?_⟩
    refine ⟨_, hσ1, t, _, 1, 1, rfl, rfl, h1, rfl, m'.nx _ _ _ (k _) (o1.tape h1 ?_)⟩
    refine ⟨ns, p + 1, a, b, n, ?_, by rw [upd_ne (TapeIn.ne inv).symm]; exact h2⟩
    rw [upd_same]
    rfl
  · rw [if_neg (by simpa using hp)]
    exact m'.nx _ _ _ k0 o
theorem set_self {α : Type} : ∀ {l : List α} {i : Nat} {x : α}, l[i]? = some x → l.set i x = l
  | [], _, _, h => by simp at h
  | a :: l, 0, x, h => by simp at h; subst h; rfl
  | a :: l, i + 1, x, h => by rw [List.set_cons_succ, set_self (by simpa using h)]
theorem st_cellZ {iv : Nat} {z0 : Int} (hG : G[i]? = some (.raw (.ref t))) (hne : iv ≠ i) (hz : G[iv]? = some (.d (.int z0))) (k : ∀ z : Int, E.nx (G.set iv (.d (.int z)))) :
    St (tapeW t c) G (tIfS (tTest (tOp (rI0 fun i j => .bl (decide (i < j))) (tOp (rIx K) (tVar i) (tC (.int 1))) (tCB (rLen1 K) (tCons (tOp (rIx K) (tVar i) (tC (.int 0))) tNil))))
      (tSeq (tAsg (tOp (rIx K) (tOp (rIx K) (tVar i) (tC (.int 0))) (tOp (rIx K) (tVar i) (tC (.int 1)))) (gName iv))
        (tAsg (tOp (rPlus K) (tOp (rIx K) (tVar i) (tC (.int 1))) (tC (.int 1))) (gSub (tVar i) (tC (.int 1)) rSetL))) tNext) E :=
  st_cell hG hne (by have := k z0; rwa [set_self hz] at this) k
end
section
variable {W : Wd} {G : List Ent} {ta tb : TE} {KL : List D → Prop} {K : PySem.W.Frag}
theorem evl_timesL (h : EvB W G ta fun x => EvB W G tb fun y => ∃ xs n, x = .lst xs ∧ y = .int n ∧ 0 ≤ n ∧ n < 2 ^ 63 ∧ xs.length * n.toNat ≤ 100000 ∧ KL (List.replicate n.toNat xs).flatten) : EvL W G (tOp (rTimes K) ta tb) KL := fun X σ H E Q q =>
  h X σ H E _ fun x v H1 k e1 i1 r1 => k X σ H1 (E.mono e1 i1) _ fun y u H2 k2 e2 i2 r2 => by
    obtain ⟨xs, n, rfl, rfl, h0, h1, hl, k2⟩ := k2
    obtain ⟨a, vs, rfl, ha, r⟩ := (r1.mono e2).lst
    rw [r2.int]
    exact .inr (.inl ⟨a, n, vs, rfl, rfl, ha, by omega, h1, small_le (by rw [r.length]; exact hl), evl_new E q (e1.trans e2) i2 k2 (rep_flat r _)⟩)
end
/-- flags by place -/
def flagsL (n : Nat) (f : Nat → Bool) : List D := (List.range n).map fun p => D.bl (f p)
theorem flagsL_len (n : Nat) (f : Nat → Bool) : (flagsL n f).length = n := by unfold flagsL; rw [List.length_map, List.length_range]
theorem flagsL_get {n : Nat} {f : Nat → Bool} {i : Nat} (h : i < n) : (flagsL n f)[i]? = some (.bl (f i)) := by
  unfold flagsL; rw [List.getElem?_map, List.getElem?_range h]; rfl
theorem flagsL_of {n : Nat} {f : Nat → Bool} {i : Nat} {d : D} (h : (flagsL n f)[i]? = some d) : i < n ∧ d = .bl (f i) := by
  have hi := (List.getElem?_eq_some_iff.mp h).1
  rw [flagsL_len] at hi
  rw [flagsL_get hi] at h
  exact ⟨hi, (Option.some.inj h).symm⟩
theorem flagsL_succ (n : Nat) (f : Nat → Bool) : flagsL (n + 1) f = flagsL n f ++ [.bl (f n)] := by
  unfold flagsL; rw [List.range_succ, List.map_append]; rfl
theorem flagsL_congr {n : Nat} {f g : Nat → Bool} (h : ∀ p, p < n → f p = g p) : flagsL n f = flagsL n g := by
  unfold flagsL
  exact List.map_congr_left fun p hp => by rw [h p (List.mem_range.mp hp)]
theorem flagsL_rep (n : Nat) : (List.replicate n [D.bl false]).flatten = flagsL n fun _ => false := by
  induction n with
  | zero => rfl
  | succ n ih => rw [flagsL_succ, ← ih, List.replicate_succ']; simp
theorem flagsL_set (n i : Nat) : (flagsL n fun _ => false).set i (.bl true) = flagsL n fun p => decide (i = p) := by
  refine List.ext_getElem? fun j => ?_
  by_cases hj : j < n
  · rw [flagsL_get hj]
    by_cases q : i = j
    · subst q
      rw [List.getElem?_set_self (by rw [flagsL_len]; exact hj)]; simp
    · rw [List.getElem?_set_ne q, flagsL_get hj]; simp [q]
  · rw [List.getElem?_eq_none (by rw [List.length_set, flagsL_len]; omega), List.getElem?_eq_none (by rw [flagsL_len]; omega)]
/-- who is what, as lists of flags -/
def aboveL (rows : List (List Nat)) (m : Nat) : List D := (List.range m).map fun x => D.lst (flagsL rows.length (Bk.isA rows x))
def aboveD (rows : List (List Nat)) : D := .lst (aboveL rows rows.length)
theorem aboveL_len (rows : List (List Nat)) (m : Nat) : (aboveL rows m).length = m := by unfold aboveL; rw [List.length_map, List.length_range]
theorem aboveL_get {rows : List (List Nat)} {m x : Nat} (h : x < m) : (aboveL rows m)[x]? = some (.lst (flagsL rows.length (Bk.isA rows x))) := by
  unfold aboveL; rw [List.getElem?_map, List.getElem?_range h]; rfl
theorem aboveL_succ (rows : List (List Nat)) (m : Nat) : aboveL rows (m + 1) = aboveL rows m ++ [.lst (flagsL rows.length (Bk.isA rows m))] := by
  unfold aboveL; rw [List.range_succ, List.map_append]; rfl
end Pd

namespace Bk
def plainRow (rows : List (List Nat)) (row : List Nat) : List Nat := row.filter fun p => !row.any fun q => decide (q ≠ p) && Bk.isA rows q p
def plainOf (rows : List (List Nat)) : List (List Nat) := rows.map (plainRow rows)
theorem plainOf_get {rows : List (List Nat)} {k : Nat} {row : List Nat} (h : rows[k]? = some row) : (plainOf rows)[k]? = some (plainRow rows row) := by
  unfold plainOf; rw [List.getElem?_map, h]; rfl
theorem plainOf_of {rows : List (List Nat)} {k : Nat} {row : List Nat} (h : (plainOf rows)[k]? = some row) : ∃ r, rows[k]? = some r ∧ row = plainRow rows r := by
  unfold plainOf at h
  rw [List.getElem?_map] at h
  cases q : rows[k]? with
  | none => rw [q] at h; cases h
  | some r => rw [q] at h; exact ⟨r, rfl, (Option.some.inj h).symm⟩
theorem plainOf_ok {rows : List (List Nat)} (h : RowsOk rows) : RowsOk (plainOf rows) := fun k row hk p hp => by
  obtain ⟨r, hr, rfl⟩ := plainOf_of hk
  exact h k r hr p (List.mem_filter.mp hp).1
theorem plainOf_length (rows : List (List Nat)) : (plainOf rows).length = rows.length := by unfold plainOf; rw [List.length_map]
theorem isA_parent {rows : List (List Nat)} (ok : RowsOk rows) {x q : Nat} {row : List Nat} (h : rows[x]? = some row) (hq : q ∈ row) : isA rows x q = true := by
  rw [isA_eq ok h]
  refine Bool.or_eq_true_iff.mpr (.inr (List.any_eq_true.mpr ⟨q, hq, ?_⟩))
  have hx := (List.getElem?_eq_some_iff.mp h).1
  exact isA_self ok (Nat.lt_trans (ok x row h q hq) hx)
/-- of the parents that are p the greatest is plain -/
theorem plain_top {rows : List (List Nat)} (ok : RowsOk rows) {x p : Nat} {row : List Nat} (h : rows[x]? = some row) : ∀ (m r : Nat), m = x - r → r ∈ row → isA rows r p = true → ∃ q ∈ plainRow rows row, isA rows q p = true := by
  intro m
  induction m using Nat.strongRecOn with
  | _ m ih =>
    intro r hm hr hp
    have hx := (List.getElem?_eq_some_iff.mp h).1
    have hrx := ok x row h r hr
    by_cases e : (row.any fun q => decide (q ≠ r) && isA rows q r) = true
    · obtain ⟨q, hq, hz⟩ := List.any_eq_true.mp e
      obtain ⟨h1, h2⟩ := Bool.and_eq_true_iff.mp hz
      have h1 := of_decide_eq_true h1
      have hqx := ok x row h q hq
      have hle := isA_le ok q r (by omega) h2
      exact ih (x - q) (by omega) q rfl hq (isA_trans ok q r p (by omega) h2 hp)
    · exact ⟨r, List.mem_filter.mpr ⟨hr, by simpa using e⟩, hp⟩
theorem isA_plain {rows : List (List Nat)} (ok : RowsOk rows) : ∀ x, x < rows.length → ∀ p, isA (plainOf rows) x p = isA rows x p := by
  intro x
  induction x using Nat.strongRecOn with
  | _ x ih =>
    intro hx p
    have hr := List.getElem?_eq_getElem hx
    rw [isA_eq (plainOf_ok ok) (plainOf_get hr), isA_eq ok hr]
    congr 1
    rw [Bool.eq_iff_iff, List.any_eq_true, List.any_eq_true]
    constructor
    · rintro ⟨q, hq, hz⟩
      have hm := (List.mem_filter.mp hq).1
      have hqx := ok x _ hr q hm
      rw [ih q hqx (by omega)] at hz
      exact ⟨q, hm, hz⟩
    · rintro ⟨r, hrm, hz⟩
      obtain ⟨q, hq, hz'⟩ := plain_top ok hr (x - r) r rfl hrm hz
      have hqx := ok x _ hr q (List.mem_filter.mp hq).1
      exact ⟨q, hq, by rw [ih q hqx (by omega)]; exact hz'⟩
theorem plainRow_plain {rows : List (List Nat)} (ok : RowsOk rows) {x : Nat} {row : List Nat} (h : rows[x]? = some row) : plainRow (plainOf rows) (plainRow rows row) = plainRow rows row := by
  have hx := (List.getElem?_eq_some_iff.mp h).1
  refine List.filter_eq_self.mpr fun p hp => ?_
  obtain ⟨h1, h2⟩ := List.mem_filter.mp hp
  rw [Bool.not_eq_true'] at h2 ⊢
  rw [Bool.eq_false_iff] at h2 ⊢
  intro z
  obtain ⟨q, hq, hz⟩ := List.any_eq_true.mp z
  have hm := (List.mem_filter.mp hq).1
  have hqx := ok x row h q hm
  rw [isA_plain ok q (by omega)] at hz
  exact h2 (List.any_eq_true.mpr ⟨q, hm, hz⟩)
theorem plain_plain {rows : List (List Nat)} (ok : RowsOk rows) : plainOf (plainOf rows) = plainOf rows := by
  refine List.ext_getElem? fun k => ?_
  cases h : rows[k]? with
  | none =>
    have hk : rows.length ≤ k := List.getElem?_eq_none_iff.mp h
    rw [List.getElem?_eq_none (by rw [plainOf_length, plainOf_length]; exact hk), List.getElem?_eq_none (by rw [plainOf_length]; exact hk)]
  | some row => rw [plainOf_get (plainOf_get h), plainOf_get h, plainRow_plain ok h]
/-- forebears of x, by number -/
def far (rows : List (List Nat)) (x : Nat) : List Nat := (List.range x).filter fun p => isA rows x p
theorem plain_far {rows : List (List Nat)} (ok : RowsOk rows) {x : Nat} {row : List Nat} (h : rows[x]? = some row) (up : row.Pairwise (· < ·)) :
    ((far rows x).filter fun p => !(far rows x).any fun q => decide (q ≠ p) && isA rows q p) = plainRow rows row := by
  have hx := (List.getElem?_eq_some_iff.mp h).1
  refine Bm.rising_ext (List.Pairwise.filter _ (List.Pairwise.filter _ List.pairwise_lt_range)) (List.Pairwise.filter _ up) fun p => ?_
  have memf : ∀ q, q ∈ far rows x ↔ q < x ∧ isA rows x q = true := fun q => by
    unfold far; rw [List.mem_filter, List.mem_range]
  have up1 : ∀ q, q ∈ far rows x → ∃ r ∈ row, isA rows r q = true := fun q hq => by
    obtain ⟨a, b⟩ := (memf q).mp hq
    rw [isA_eq ok h] at b
    rcases Bool.or_eq_true_iff.mp b with z | z
    · have := of_decide_eq_true z; omega
    · exact List.any_eq_true.mp z
  have inf : ∀ q, q ∈ row → q ∈ far rows x := fun q hq => (memf q).mpr ⟨ok x row h q hq, isA_parent ok h hq⟩
  unfold plainRow
  rw [List.mem_filter, List.mem_filter, Bool.not_eq_true', Bool.not_eq_true', Bool.eq_false_iff, Bool.eq_false_iff]
  constructor
  · rintro ⟨h1, h2⟩
    have hpr : p ∈ row := by
      obtain ⟨r, hr, hrp⟩ := up1 p h1
      by_cases e : r = p
      · rw [← e]; exact hr
      · exact absurd (List.any_eq_true.mpr ⟨r, inf r hr, by rw [hrp]; simp [e]⟩) h2
    refine ⟨hpr, fun z => h2 ?_⟩
    obtain ⟨q, hq, hz⟩ := List.any_eq_true.mp z
    exact List.any_eq_true.mpr ⟨q, inf q hq, hz⟩
  · rintro ⟨h1, h2⟩
    refine ⟨inf p h1, fun z => h2 ?_⟩
    obtain ⟨q, hq, hz⟩ := List.any_eq_true.mp z
    obtain ⟨e1, e2⟩ := Bool.and_eq_true_iff.mp hz
    have e1 := of_decide_eq_true e1
    obtain ⟨r, hr, hrq⟩ := up1 q hq
    have hrx := ok x row h r hr
    have hqx := ((memf q).mp hq).1
    have t := isA_trans ok r q p (by omega) hrq e2
    by_cases e : r = p
    · subst e
      have := isA_le ok r q (by omega) hrq
      have := isA_le ok q r (by omega) e2
      omega
    · exact List.any_eq_true.mpr ⟨r, hr, by rw [t]; simp [e]⟩
end Bk

namespace Bk
def chainR (n : Nat) : List (List Nat) := [] :: (List.range n).map fun k => [k]
theorem chainR_length (n : Nat) : (chainR n).length = n + 1 := by simp [chainR]
theorem chainR_get {n x : Nat} (h : x < n) : (chainR n)[x + 1]? = some [x] := by
  unfold chainR
  rw [List.getElem?_cons_succ, List.getElem?_map, List.getElem?_range h]; rfl
theorem chainR_ok (n : Nat) : RowsOk (chainR n) := fun k row hk p hp => by
  cases k with
  | zero => cases hk; cases hp
  | succ k =>
    have hl := (List.getElem?_eq_some_iff.mp hk).1
    rw [chainR_length] at hl
    rw [chainR_get (by omega)] at hk
    cases hk
    rw [List.mem_singleton.mp hp]; omega
theorem chainR_isA (n : Nat) : ∀ x, x < n + 1 → ∀ p, isA (chainR n) x p = decide (p ≤ x) := by
  intro x
  induction x with
  | zero =>
    intro _ p
    rw [isA_eq (chainR_ok n) (show (chainR n)[0]? = some [] from rfl)]
    simp; constructor <;> intro h <;> omega
  | succ x ih =>
    intro hx p
    rw [isA_eq (chainR_ok n) (chainR_get (by omega)), List.any_cons, List.any_nil, ih (by omega) p, Bool.or_false, Bool.eq_iff_iff]
    simp; omega
def wideR (n : Nat) : List (List Nat) := List.replicate n []
theorem wideR_get {n x : Nat} (h : x < n) : (wideR n)[x]? = some [] := by
  unfold wideR; rw [List.getElem?_replicate, if_pos h]
theorem wideR_ok (n : Nat) : RowsOk (wideR n) := fun k row hk p hp => by
  have := List.mem_of_getElem? hk
  rw [(List.mem_replicate.mp this).2] at hp
  cases hp
theorem wideR_isA {n x : Nat} (h : x < n) (p : Nat) : isA (wideR n) x p = decide (x = p) := by
  rw [isA_eq (wideR_ok n) (wideR_get h)]; simp
theorem chain_fore {n x : Nat} (h : x < n + 1) : ((List.range x).filter fun p => isA (chainR n) x p) = List.range x := by
  refine List.filter_eq_self.mpr fun p hp => ?_
  rw [chainR_isA n x h]
  have := List.mem_range.mp hp
  simp; omega
theorem chain_heirs {n x : Nat} (h : x < n + 1) : ((List.range (n + 1)).filter fun k => decide (x ≠ k) && isA (chainR n) k x) = (List.range (n - x)).map fun j => x + 1 + j := by
  refine Bm.rising_ext (List.Pairwise.filter _ List.pairwise_lt_range) ?_ fun k => ?_
  · rw [List.pairwise_map]
    exact List.pairwise_lt_range.imp fun {a b} q => by omega
  · rw [List.mem_filter, List.mem_range, List.mem_map]
    constructor
    · rintro ⟨h1, h2⟩
      rw [chainR_isA n k h1] at h2
      obtain ⟨a, b⟩ := Bool.and_eq_true_iff.mp h2
      have a := of_decide_eq_true a
      have b := of_decide_eq_true b
      exact ⟨k - (x + 1), List.mem_range.mpr (by omega), by omega⟩
    · rintro ⟨j, hj, rfl⟩
      have := List.mem_range.mp hj
      refine ⟨by omega, ?_⟩
      rw [chainR_isA n _ (by omega)]
      simp; omega
theorem wide_fore {n x : Nat} (h : x < n) : ((List.range x).filter fun p => isA (wideR n) x p) = [] := by
  refine List.filter_eq_nil_iff.mpr fun p hp => ?_
  rw [wideR_isA h]
  have := List.mem_range.mp hp
  simp; omega
theorem wide_heirs {n x : Nat} : ((List.range n).filter fun k => decide (x ≠ k) && isA (wideR n) k x) = [] := by
  refine List.filter_eq_nil_iff.mpr fun k hk => ?_
  rw [wideR_isA (List.mem_range.mp hk)]
  simp; intro a b; omega
end Bk

namespace Pd
open PySem L2 RZ PyProof.Rows
section
variable {W : Wd} {G : List Ent} {te ta tb : TE} {E : Post} {K : PySem.W.Frag} {KK : D → Prop} {tt : TA}
theorem cd_abs {i : Int} (k : KK (.int (if i < 0 then -i else i))) : CallD rAbs [.d (.int i)] KK := fun M vs H r0 th Q q => by
  obtain ⟨v, rfl, r⟩ := vs1 r0
  cases (show Rep M H v (.int i) from r)
  exact ⟨i, rfl, q _ _ H k (fun _ => Ex.refl _ _) (.int _)⟩
/-- targets of an assignment -/
theorem st_asgT {g : TG} (h : Ev W G te fun d => Tg W G g d E.nx) : St W G (tAsg te g) E := fun X N H0 σ H o D m =>
  h X σ H o.env _ fun d v H' k ex inv r => k X N H0 σ H' v (o.mono ex inv) r _ fun G' σ' kk o' => m.nx _ _ _ kk o'
theorem tg_tup3 {i j l : Nat} {x y z : D} {KG : List Ent → Prop} (k : KG (((G.set i (.d x)).set j (.d y)).set l (.d z))) : Tg W G (gTup K 3 (gCons (gName i) (gCons (gName j) (gCons (gName l) gNil)))) (.tup [x, y, z]) KG := fun X N H0 σ H v o r Q q => by
  cases r with
  | tup h r =>
    cases r with
    | cons rx r =>
      cases r with
      | cons ry r =>
        cases r with
        | cons rz r =>
          cases r
          have o1 := o.put (i := i) rx
          have s := owned_set (G := G) (i := i) (e := .d x) rfl
          have s2 := owned_set (G := G.set i (.d x)) (i := j) (e := .d y) rfl
          have ry' : Rep (mo W (X ++ owned (G.set i (.d x)))) H _ y := ry.less (mo_sub (List.append_subset.mpr ⟨List.subset_append_left _ _, fun a h => List.mem_append_right _ (s.subset h)⟩))
          have rz' : Rep (mo W (X ++ owned ((G.set i (.d x)).set j (.d y)))) H _ z := rz.less (mo_sub (List.append_subset.mpr ⟨List.subset_append_left _ _, fun a h => List.mem_append_right _ (s.subset (s2.subset h))⟩))
          exact ⟨_, _, rfl, .inl h, rfl, _, _, rfl, _, _, rfl, _, _, rfl, rfl, q _ _ k ((o1.put ry').put rz')⟩
/-- a list of the def's own as an argument of a call: told as data -/
theorem evl_own {i : Nat} {l : Addr} {ds : List D} (h : G[i]? = some (.own l ds)) (k : KK (.lst ds)) : EvB W G (tVar i) KK := evb_own h k
end
/-! ### schemes -/
abbrev Tr := Nat × Int × List Int
def rowI (r : List Int) : D := .tup (r.map D.int)
def trD (t : Tr) : D := .tup [.int (t.1 : Nat), .int t.2.1, rowI t.2.2]
def scD (sc : List Tr) : D := .tup (sc.map trD)
structure ScOk (sc : List Tr) : Prop where
  len : sc.length < 50000
  row : ∀ t ∈ sc, t.2.2.length < 50000
theorem ScOk.nil : ScOk [] := ⟨by decide, fun _ h => nomatch h⟩
theorem ScOk.snoc {sc : List Tr} {t : Tr} (h : ScOk sc) (h1 : sc.length + 1 < 50000) (h2 : t.2.2.length < 50000) : ScOk (sc ++ [t]) := ⟨by rw [List.length_append]; exact h1, fun u hu => by
  rcases List.mem_append.mp hu with z | z
  · exact h.row u z
  · rw [List.mem_singleton.mp z]; exact h2⟩
def cmpS (sc : List Tr) (x p : Nat) : Bool := match sc[x]?, sc[p]? with
  | some a, some b => match a.2.2[b.1]? with
    | some e => decide (b.2.1 ≤ e)
    | none => false
  | _, _ => false
theorem sc_at {sc : List Tr} {x : Nat} {a : Tr} (h : sc[x]? = some a) : ixD (scD sc) ((x : Nat) : Int) = some (trD a) := atI_of (by rw [List.getElem?_map, h]; rfl)
theorem row_at {r : List Int} {x : Nat} {a : Int} (h : r[x]? = some a) : ixD (rowI r) ((x : Nat) : Int) = some (.int a) := atI_of (by rw [List.getElem?_map, h]; rfl)
theorem tr_0 (t : Tr) : ixD (trD t) 0 = some (.int (t.1 : Nat)) := rfl
theorem tr_1 (t : Tr) : ixD (trD t) 1 = some (.int t.2.1) := rfl
theorem tr_2 (t : Tr) : ixD (trD t) 2 = some (rowI t.2.2) := rfl
theorem scD_len (sc : List Tr) : (sc.map trD).length = sc.length := List.length_map ..
theorem rowI_len (r : List Int) : (r.map D.int).length = r.length := List.length_map ..
theorem cmpS_no {sc : List Tr} {x p : Nat} {a b : Tr} (ha : sc[x]? = some a) (hb : sc[p]? = some b) (h : ¬ b.1 < a.2.2.length) : cmpS sc x p = false := by
  unfold cmpS; rw [ha, hb]; dsimp only
  rw [List.getElem?_eq_none (by omega)]
theorem cmpS_yes {sc : List Tr} {x p : Nat} {a b : Tr} {e : Int} (ha : sc[x]? = some a) (hb : sc[p]? = some b) (h : a.2.2[b.1]? = some e) : cmpS sc x p = decide (b.2.1 ≤ e) := by
  unfold cmpS; rw [ha, hb]; dsimp only
  rw [h]
end Pd

/-! list(reversed(xs)) of a list, len(set(t)) of a tuple of ints -/
namespace L2
open PySem PySem.Spec PyProof.Rows RT
section
variable {prog : Program} {w : World} {A : Around} {E : Value → Shared → Prop} {s : Shared}
theorem pd_init_rev {it l S : Addr} {items : Array Value} {R : Result → Shared → Prop} (hh : A.handled = none) (hit : s.heap.IsRevIter it l ((items.size : Int) - 1)) (hl : s.heap.IsList l items) (hne : l ≠ it) (hSi : S ≠ it) (hSl : S ≠ l) (hn : items.size ≤ sizeLine)
    (hS : s.heap.get? S = some { cls := .type "list", data := .seq #[] })
    (hR : ∀ (h' : Heap) (tk : Nat) (acc : Array Value) (c' : Nat), (∀ b o, b ≠ S → b ≠ it → s.heap.get? b = some o → h'.get? b = some o) → h'.get? S = some { cls := .type "list", dict := none, data := .seq acc c', slots := #[] } →
      ItemsOf (fun i v => items[items.size - 1 - i]? = some v) acc items.size → R (.ok (.ret .none)) { s with heap := h', toks := tk }) :
    wpAny (model prog w) A.in1 (Builtin.«list.__init__» ⟨[.ref S, .ref it], []⟩)
      (fun fin s' => match fin with | .done f => R (.ok f) s' | .again c' => c'.quiet = true ∧ codeAny (model prog w) A c' R s') (fun e s' => R (.error e) s') s := by
  have WR := (Walks.listRev (prog := prog) (w := w) (A := A.in1) hh it l hne items).toS
  have hSf : S ∉ [it, l] := by simp only [List.mem_cons, List.not_mem_nil, or_false, not_or]; exact ⟨hSi, hSl⟩
  show wpAny _ A.in1 (do let old ← Builtin.List.listItems (.ref S); Builtin.List.listUpdate (.ref S) (fun _ => #[]); letGo old.toList.reverse; Builtin.List.listExtendWith (.ref S) (.ref it) .none) _ _ s
  refine wpAny_bind ?_
  unfold Builtin.List.listItems
  refine wpAny_bind (wpAny_seqItems hS rfl (wpAny_pure ?_))
  show wpAny _ A.in1 (updateSeq S (fun _ => #[]) >>= fun _ => letGo (#[] : Array Value).toList.reverse >>= fun _ => Builtin.List.listExtendWith (.ref S) (.ref it) .none) _ _ s
  refine wpAny_bind (wpAny_updateSeq hS rfl ?_)
  have e2 := Heap.get?_update_self (Obj.mapSeq (fun _ => (#[] : Array Value))) hS rfl
  have oth : ∀ b o, b ≠ S → s.heap.get? b = some o → (s.heap.update S (Obj.mapSeq (fun _ => (#[] : Array Value)))).get? b = some o :=
    fun b o hb e => (Heap.get?_update_other _ _ (Ne.symm hb)).trans e
  refine wpAny_bind (wpAny_letGo ?_)
  generalize hh2 : s.heap.update S (Obj.mapSeq (fun _ => (#[] : Array Value))) = h2 at e2 oth ⊢
  have hit1 : h2.IsRevIter it l ((items.size : Int) - 1) := hit.at fun o e => oth it o hSi.symm e
  have hl1 : h2.IsList l items := by
    obtain ⟨o, ho, r⟩ := hl
    exact ⟨o, oth l o hSl.symm ho, r⟩
  have hT : ({ s with heap := h2 } : Shared).TypeIs (.ref it) "list_reverseiterator" := Heap.IsRevIter.typeIs (s := { s with heap := h2 }) hit1
  have h1 : Builtin.List.listSameRef (.ref S) (.ref it) = false := by simp [Builtin.List.listSameRef, hSi]
  unfold Builtin.List.listExtendWith
  refine wpAny_bind (wpAny_typeOf hT ?_)
  rw [if_neg (by rw [h1]; decide)]
  refine wpAny_bind (wpAny_pyIter_revIter (s := { s with heap := h2 }) hit1 ?_)
  refine wpAny_bind (wpAny_holding ?_)
  unfold Builtin.List.listLengthHint
  refine wpAny_bind (wpAny_specialOf hT nolen_lri ?_)
  show wpAny _ A.in1 (specialOf (Value.ref it) (Str.ofString "__length_hint__") >>= _) _ _ _
  refine wpAny_bind (wpAny_specialOf hT hint_lri ?_)
  generalize hid : ("list_reverseiterator.__length_hint__" : String) = id0
  wp_delta
  rw [show splitId id0 = some ("list_reverseiterator", "__length_hint__") from by subst hid; decide +kernel]
  subst hid
  refine wpAny_bind (wpAny_isInstance (b := true) hT (by rw [isSubtype_type]; kernel_rfl) ?_)
  refine wpAny_pure ?_
  rw [if_neg (by decide)]
  have e0 : ((items.size : Nat) : Int) - 1 - ((0 : Nat) : Int) = (items.size : Int) - 1 := by omega
  refine wpAny_pure ⟨plainId_quiet F.plain_extend_loop _, codeAny_extend_loopS WR hn _ hSf _ items.size 0 _ _ _ rfl (Nat.zero_le _) ⟨Nat.zero_le _, by rw [e0]; exact hit1, hl1⟩ e2 (ItemsOf.nil _) fun s' acc' c' hm hS' hacc => ?_⟩
  rw [Moved.eq_with hm]
  refine hR s'.heap s'.toks acc' c' (fun b o hb hb2 e => hm.heap b o (fun hmem => ?_) (oth b o hb e)) hS' hacc
  rcases List.mem_cons.mp hmem with e' | hmem
  · exact hb e'
  · exact hb2 (List.mem_singleton.mp hmem)
theorem pd_list_rev {it l : Addr} {items : Array Value} {Q : Value → Shared → Prop} (hh : A.handled = none) (hit : s.heap.IsRevIter it l ((items.size : Int) - 1)) (hl : s.heap.IsList l items) (hne : l ≠ it) (hn : items.size ≤ sizeLine)
    (hQ : ∀ (h' : Heap) (tk : Nat) (acc : Array Value) (c' : Nat), (∀ b o, b ≠ it → s.heap.get? b = some o → h'.get? b = some o) → h'.get? s.heap.objs.size = some { cls := .type "list", dict := none, data := .seq acc c', slots := #[] } →
      ItemsOf (fun i v => items[items.size - 1 - i]? = some v) acc items.size → Q (.ref s.heap.objs.size) { s with heap := h', toks := tk }) :
    wpAny (model prog w) A (call (.type "list") [.ref it]) Q E s := by
  obtain ⟨oi, hoi, _⟩ := id hit
  obtain ⟨ol, hol, hol2⟩ := id hl
  have z1 : s.heap.objs.size ≠ it := Nat.ne_of_gt (Heap.lt_size hoi)
  have z2 : s.heap.objs.size ≠ l := Nat.ne_of_gt (Heap.lt_size hol)
  refine callType_codes (Q₁ := fun obj s₁ => obj = .ref s.heap.objs.size ∧ s₁ = { s with heap := s.heap.push { cls := .type "list", data := .seq #[] } }) F.called_list (F.typeCall_list_1 _) F.entry_list_init
    (code_list_new _ ⟨rfl, rfl⟩) fun obj s₁ h₁ => ?_
  obtain ⟨rfl, rfl⟩ := h₁
  have hS : (s.heap.push { cls := .type "list", data := .seq #[] }).get? s.heap.objs.size = some { cls := .type "list", data := .seq #[] } := Heap.get?_push_size _ rfl
  refine ⟨⟨_, hS, rfl⟩, F.args_list_init_2 _ _, pd_init_rev (s := { s with heap := s.heap.push { cls := .type "list", data := .seq #[] } }) hh (hit.at fun o e => Heap.get?_push_of_some _ e) (hl.push _) hne z1 z2 hn hS fun h' tk acc c' hk e hacc => ⟨rfl, ?_⟩⟩
  exact hQ h' tk acc c' (fun b o hb e => hk b o (Nat.ne_of_lt (Heap.lt_size e)) hb (Heap.get?_push_of_some _ e)) e hacc
end
section
variable {X : Cx}
theorem vals_rev {ys : List V} {its : List Value} {acc : Array Value} (r : Vals ys its) (h : ItemsOf (fun i v => its.toArray[its.toArray.size - 1 - i]? = some v) acc its.toArray.size) : acc.toList = its.reverse := by
  obtain ⟨h1, h2⟩ := h
  refine List.ext_getElem? fun i => ?_
  by_cases hi : i < its.length
  · have hs : i < acc.size := by rw [h1]; simpa using hi
    have e := h2 i _ (by rw [Array.getElem?_eq_getElem hs])
    rw [Array.getElem?_toList, Array.getElem?_eq_getElem hs, List.getElem?_reverse hi, ← e]
    simp
  · rw [List.getElem?_eq_none (by rw [Array.length_toList, h1]; simpa using hi), List.getElem?_eq_none (by simpa using hi)]
theorem vals_reverse : ∀ {ys : List V} {its : List Value}, Vals ys its → Vals ys.reverse its.reverse
  | _, _, .nil => .nil
  | _, _, .cons r t => by
    rw [List.reverse_cons, List.reverse_cons]
    exact (vals_reverse t).append (.cons r .nil)
/-- list(reversed(xs)), xs a list -/
def tListRev (K : PySem.W.Frag) (ta : TE) : TE := fun σ H Q => ta σ H fun x H1 => ∃ (l : Addr) (ys : List V), x = .ref l ∧ SqL K H1 l ys ∧ ∀ p, H1 p = none → Q (.ref p) (upd H1 p (.lst ys.reverse))
theorem pe_listRev {a : Expr} {ta : TE} {p p2 q pos : Pos} (hc : X.calm = true) (hg : Gl X "list") (hm : X.mg "list" = none) (hg2 : Gl X "reversed") (hm2 : X.mg "reversed" = none) (ha : PE X a ta)
    (na : starEach [a] X.env = (false, eval a X.env) :: starEach [] X.env := by rfl) : PE X (.Call (.Name "list" p) [.Call (.Name "reversed" p2) [a] [] q] [] pos) (tListRev X.K ta) := by
  refine ⟨fun pins s σ H Q I h => ?_⟩
  refine Call_ (ld_blt I hg hm boot_list ?_)
  refine PyProof.Rows.callWith_type1 (PyProof.Rows.args_cons ?_ rfl) rfl rfl
  refine Call_ (ld_blt I hg2 hm2 PyProof.Rows.boot_reversed ?_)
  refine PyProof.Rows.callWith_type1 (PyProof.Rows.args_cons (thn (ha.run pins s σ H _ I h) fun v s1 ⟨x, H1, I1, r1, q1⟩ => PyProof.Rows.args_nil ?_) na) na rfl
  obtain ⟨l, ys, rfl, hq, q1⟩ := q1
  cases r1
  obtain ⟨its, r, pl, hz⟩ := I1.list hq
  have hlen := r.length
  refine call_reversed_list pl.isList (PyProof.Rows.args_nil ?_)
  obtain ⟨ol, hol, _⟩ := id pl.isList
  have hne : l ≠ s1.heap.objs.size := Nat.ne_of_lt (Heap.lt_size hol)
  refine pd_list_rev (s := { s1 with heap := s1.heap.push (revObj l ((its.toArray.size : Int) - 1)) }) (I1.ok.hd hc) (l := l) (items := its.toArray) ⟨_, Heap.get?_push_size _ rfl, rfl, rfl⟩ (pl.isList.push _) hne (by rw [List.size_toArray]; omega) fun h' tk acc c' hk e hacc => ?_
  have kk : ∀ b o, s1.heap.get? b = some o → h'.get? b = some o := fun b o e => hk b o (Nat.ne_of_lt (Heap.lt_size e)) (Heap.get?_push_of_some _ e)
  have hz2 : (s1.heap.push (revObj l ((its.toArray.size : Int) - 1))).objs.size = s1.heap.objs.size + 1 := Heap.size_push ..
  have hle : s1.heap.objs.size ≤ (s1.heap.push (revObj l ((its.toArray.size : Int) - 1))).objs.size := by rw [hz2]; exact Nat.le_succ _
  refine ⟨.ref _, upd H1 _ (.lst ys.reverse), I1.laid (t' := tk) kk hle (show ObjOk X.prog X.w _ _ _ (.lst ys.reverse) from ⟨by rw [List.length_reverse]; omega, its.reverse, c', vals_reverse r, ?_⟩), rfl, q1 _ (I1.hok.fresh hle)⟩
  rw [← vals_rev r hacc, Array.toArray_toList]
  exact e
/-- len(set(t)), t a tuple of ints -/
def tLenSetT (K : PySem.W.Frag) (ta : TE) : TE := fun σ H Q => ta σ H fun x H1 => ∃ (l : Addr) (ns : List Int), x = .ref l ∧ SqT K H1 l (ns.map V.int) ∧ ns.length < 4000 ∧ ∀ ks : List Int, ks.Nodup → (∀ k, k ∈ ks ↔ k ∈ ns) → Q (.int ks.length) H1
theorem pe_lenSetT {a : Expr} {ta : TE} {p p2 q pos : Pos} (hc : X.calm = true) (hg : Gl X "len") (hm : X.mg "len" = none) (hg2 : Gl X "set") (hm2 : X.mg "set" = none) (ha : PE X a ta)
    (na : starEach [a] X.env = (false, eval a X.env) :: starEach [] X.env := by rfl) : PE X (.Call (.Name "len" p) [.Call (.Name "set" p2) [a] [] q] [] pos) (tLenSetT X.K ta) := by
  refine ⟨fun pins s σ H Q I h => ?_⟩
  refine Call_ (ld_blt I hg hm boot_len ?_)
  refine PyProof.Rows.callWith_builtin1 (PyProof.Rows.args_cons ?_ rfl) rfl rfl
  refine Call_ (ld_blt I hg2 hm2 boot_set ?_)
  refine PyProof.Rows.callWith_type1 (PyProof.Rows.args_cons (thn (ha.run pins s σ H _ I h) fun v s1 ⟨x, H1, I1, r1, q1⟩ => PyProof.Rows.args_nil ?_) na) na rfl
  obtain ⟨l, ns, rfl, hq, hl, q1⟩ := q1
  cases r1
  obtain ⟨its, r, pl, hz⟩ := I1.tuple hq
  refine call_set_tupI ns (I1.ok.hd hc) pl (ints_of_vals r) (by unfold scanBound; omega) fun h' tk c hS hcn hk => PyProof.Rows.args_nil ?_
  obtain ⟨o, es, ep, t, ho, hex, hd, hgood, hnd, hmem, hb, hf, hn, _⟩ := hS
  have I2 : Inv X pins σ H1 { s1 with heap := h', toks := tk } := I1.kept hk
  have fin := q1 (es.toList.map keyOf) hnd fun k => by rw [← hmem k]; simp
  rw [List.length_map, Array.length_toList] at fin
  exact call_len_set ho hex hd hf (by unfold scanBound at hb; omega) ⟨.int es.size, H1, I2.tok _, ⟨_, rfl⟩, fin⟩
end
end L2
namespace Pd
open PySem L2 RZ PyProof.Rows
section
variable {W : Wd} {G : List Ent} {te : TE} {K : PySem.W.Frag} {KK : D → Prop} {KL : List D → Prop}
theorem RepAll.rev {M : Addr → Prop} {H : Hp} : ∀ {vs : List V} {ds : List D}, RepAll M H vs ds → RepAll M H vs.reverse ds.reverse
  | _, _, .nil => .nil
  | _, _, .cons r t => by
    rw [List.reverse_cons, List.reverse_cons]
    exact (RepAll.rev t).append (.cons r .nil)
theorem evl_listRev (h : EvB W G te fun d => ∃ ds, d = .lst ds ∧ KL ds.reverse) : EvL W G (tListRev K te) KL := fun X σ H E Q q =>
  h X σ H E _ fun d v H' k ex inv r => by
    obtain ⟨ds, rfl, k⟩ := k
    obtain ⟨a, us, rfl, ha, s⟩ := r.lst
    exact ⟨a, us, rfl, .inl (.inl ha), evl_new E q ex inv k s.rev⟩
theorem ev_lenSetT (h : Ev W G te fun d => ∃ ns : List Int, d = .tup (ns.map D.int) ∧ ns.length < 4000 ∧ ∀ ks : List Int, ks.Nodup → (∀ k, k ∈ ks ↔ k ∈ ns) → KK (.int ks.length)) : Ev W G (tLenSetT K te) KK := fun X σ H E Q q =>
  h X σ H E _ fun d v H' k ex inv r => by
    obtain ⟨ns, rfl, hl, k⟩ := k
    cases r with
    | @tup a us _ ha s =>
      have e := RepAll.ints s
      subst e
      exact ⟨a, ns, rfl, .inl ha, hl, fun ks nd hm => q _ _ H' (k ks nd hm) ex inv (.int _)⟩
end
end Pd
namespace Pd
open PySem L2 RZ PyProof.Rows
theorem eqD_nat (a b : Nat) : eqD (.int (a : Nat)) (.int (b : Nat)) = decide (a = b) := by
  show ((a : Int) == (b : Int)) = _
  rw [Bool.eq_iff_iff, beq_iff_eq, decide_eq_true_eq]; omega
theorem eqD_ints (a b : Int) : eqD (.int a) (.int b) = decide (a = b) := by
  show (a == b) = _
  rw [Bool.eq_iff_iff, beq_iff_eq, decide_eq_true_eq]
/-- numbers, as a list's items -/
def natsD (l : List Nat) : List D := l.map fun (k : Nat) => D.int (k : Int)
theorem natsD_len (l : List Nat) : (natsD l).length = l.length := List.length_map ..
theorem natsD_get {l : List Nat} {i k : Nat} (h : l[i]? = some k) : (natsD l)[i]? = some (.int (k : Nat)) := by
  unfold natsD; rw [List.getElem?_map, h]; rfl
theorem natsD_of {l : List Nat} {i : Nat} {d : D} (h : (natsD l)[i]? = some d) : ∃ k, l[i]? = some k ∧ d = .int (k : Nat) := by
  unfold natsD at h
  rw [List.getElem?_map] at h
  obtain ⟨k, hk, e⟩ := Option.map_eq_some_iff.mp h
  exact ⟨k, hk, e.symm⟩
theorem natsD_snoc (l : List Nat) (k : Nat) : natsD l ++ [.int (k : Nat)] = natsD (l ++ [k]) := by unfold natsD; rw [List.map_append]; rfl
theorem natsD_rev (l : List Nat) : (natsD l).reverse = natsD l.reverse := by unfold natsD; rw [List.map_reverse]
theorem natsD_flat (l : List Nat) : (natsD l).all flatD = true := by
  unfold natsD; rw [List.all_map]
  exact List.all_eq_true.mpr fun _ _ => rfl
theorem inD_nats (k : Nat) : ∀ l : List Nat, inD (.int (k : Nat)) (natsD l) = decide (k ∈ l)
  | [] => by simp [inD, natsD]
  | a :: l => by
    have ih := inD_nats k l
    unfold inD natsD at ih ⊢
    rw [List.map_cons, List.any_cons, ih, eqD_nat]
    by_cases q : a = k
    · subst q; simp
    · have q' : ¬ k = a := fun z => q z.symm
      simp [q, q']
theorem snoc_take {α : Type} {l : List α} {i : Nat} {x : α} (h : l[i]? = some x) : l.take (i + 1) = l.take i ++ [x] := by
  rw [List.take_add_one, h]; rfl
/-- unlike items of the same kinds are as many -/
theorem same_len {ks : List Int} {js : List Nat} (h1 : ks.Nodup) (h2 : js.Nodup) (h : ∀ k, k ∈ ks ↔ ∃ j ∈ js, k = (j : Nat)) : ks.length = js.length := by
  have nd : (js.map fun (j : Nat) => (j : Int)).Nodup := by
    unfold List.Nodup
    rw [List.pairwise_map]
    exact h2.imp fun {a b} hab z => hab (by omega)
  have p : ks.Perm (js.map fun (j : Nat) => (j : Int)) := (List.perm_ext_iff_of_nodup h1 nd).mpr fun k => by
    rw [h k, List.mem_map]
    exact ⟨fun ⟨j, hj, e⟩ => ⟨j, hj, e.symm⟩, fun ⟨j, hj, e⟩ => ⟨j, hj, e.symm⟩⟩
  rw [p.length_eq, List.length_map]
/-- the slots of a scheme -/
def slotsN (sc : List Tr) : List Nat := sc.map fun t => t.1
theorem slotsN_len (sc : List Tr) : (slotsN sc).length = sc.length := List.length_map ..
theorem nT_ints (l : List Nat) : nT l = .tup ((l.map fun (k : Nat) => (k : Int)).map D.int) := by
  unfold nT; rw [List.map_map]; rfl
end Pd

namespace L2
open PySem PySem.Spec PyProof.Rows
/-! ### all(xs) of ints -/
theorem truth_ints {prog : Program} {w : World} {A : Around} {bs : List Int} {its : List Value} (e : IntsAre its bs) : TruthOf prog w A (fun i v => its.toArray[i]? = some v) (fun i => bs.getD i 0 != 0) := fun i v s Q E hv hq => by
  have hv' : its[i]? = some v := by simpa using hv
  have hi : i < bs.length := by
    have h1 := (List.getElem?_eq_some_iff.mp hv').1
    have h2 := IntsAre.length e
    omega
  obtain ⟨t, ht⟩ := PyProof.Rows.IntsAre.int_at e i v hv'
  rw [ht]
  exact truthy_int hq
theorem all_rangeI : ∀ bs : List Int, (List.range bs.length).all (fun i => bs.getD i 0 != 0) = bs.all (fun i => i != 0)
  | [] => rfl
  | b :: bs => by
    rw [List.length_cons, List.range_succ_eq_map, List.all_cons, List.all_map, List.all_cons, ← all_rangeI bs]
    all_goals rfl
section
variable {X : Cx}
def rAllI (K : PySem.W.Frag) : List V → Hp → VK → Prop := fun vs H Q => ∃ (a : Addr) (bs : List Int), vs = [V.ref a] ∧ SqL K H a (bs.map V.int) ∧ Q (.bl (bs.all fun i => i != 0)) H
theorem cr_allI (hc : X.calm = true) : CallR X (.builtin "all") (rAllI X.K) := by
  intro pins s σ H vs us Q I r h
  obtain ⟨a, bs, rfl, hs, q⟩ := h
  obtain ⟨its, rv, hl, _⟩ := I.list hs
  rw [Vals.ref1 r]
  have hb := ints_of_vals rv
  have hlen := rv.length
  refine call_all_walk (iter_any hl.isList fun s₂ e2 st hne => ?_)
  subst e2
  refine ⟨_, _, _, _, _, _, _, rfl, Walks.list (A := X.A.in1) (I.ok.hd hc) _ a hne its.toArray, st, truth_ints hb, fun h' tk hk => ?_⟩
  refine ⟨.bl _, H, I.kept fun b o eo => hk b o (fun hmem => ?_) (Heap.get?_push_of_some _ eo), ?_, q⟩
  · rcases List.mem_cons.mp hmem with e1 | hmem
    · exact absurd (e1 ▸ Heap.lt_size eo) (Nat.lt_irrefl _)
    · cases hmem
  · show Value.bool _ = Value.bool _
    rw [← all_rangeI, List.size_toArray, ← hlen, List.length_map]
end
end L2
namespace Pd
open PySem L2 RZ PyProof.Rows
theorem hu1 {A : Around} {k : Nat} (hr : Room k A) : A.units + 1 < cLine := by have := hr.un; omega
theorem RepAll.eraseIdx {M : Addr → Prop} {H : Hp} : ∀ {vs : List V} {ds : List D} (n : Nat), RepAll M H vs ds → RepAll M H (vs.eraseIdx n) (ds.eraseIdx n)
  | _, _, _, .nil => .nil
  | _, _, 0, .cons _ t => t
  | _, _, n + 1, .cons r t => .cons r (RepAll.eraseIdx n t)
section
variable {W : Wd} {G : List Ent} {te ta tb : TE} {E : Post} {K : PySem.W.Frag} {KK : D → Prop} {tt : TA}
theorem cd_allI {e : Ent} {bs : List Int} (h : entD e = some (.lst (bs.map D.int))) (k : KK (.bl (bs.all fun i => i != 0))) : CallD (rAllI K) [e] KK := fun M vs H r0 th Q q => by
  obtain ⟨v, rfl, r⟩ := vs1 r0
  obtain ⟨a, us, rfl, ha, s⟩ := entV_lst r h
  have e := RepAll.ints s
  subst e
  exact ⟨a, bs, rfl, .inl (.inl ha), q _ _ H k (fun _ => Ex.refl _ _) (.bl _)⟩
/-- is, is not of flags -/
theorem opd_isB {a b : Bool} (k : KK (.bl (decide (a = b)))) : OpD (fun x y H Q => ∃ a b, x = V.bl a ∧ y = V.bl b ∧ Q (.bl (decide (a = b))) H) (.bl a) (.bl b) KK := fun Mw M v u H r1 r2 th Q q => by
  have e1 : v = .bl a := by
    rcases r1 with r1 | ⟨_, _, _, _, z, _⟩
    · cases r1; rfl
    · cases z
  have e2 : u = .bl b := by
    rcases r2 with r2 | ⟨_, _, _, _, z, _⟩
    · cases r2; rfl
    · cases z
  exact ⟨a, b, e1, e2, q _ _ H k (fun _ => Ex.refl _ _) (.bl _)⟩
theorem opd_isnotB {a b : Bool} (k : KK (.bl (!decide (a = b)))) : OpD (fun x y H Q => ∃ a b, x = V.bl a ∧ y = V.bl b ∧ Q (.bl (!decide (a = b))) H) (.bl a) (.bl b) KK := fun Mw M v u H r1 r2 th Q q => by
  have e1 : v = .bl a := by
    rcases r1 with r1 | ⟨_, _, _, _, z, _⟩
    · cases r1; rfl
    · cases z
  have e2 : u = .bl b := by
    rcases r2 with r2 | ⟨_, _, _, _, z, _⟩
    · cases r2; rfl
    · cases z
  exact ⟨a, b, e1, e2, q _ _ H k (fun _ => Ex.refl _ _) (.bl _)⟩
/-- a, b = x, y -/
theorem st_par {i j : Nat} (h : EvA W G tt fun es => ∃ x y, es = [.d x, .d y] ∧ E.nx ((G.set i (.d x)).set j (.d y))) : St W G (tPar i j tt) E := fun X N H0 σ H o D m =>
  h X σ H o.env _ fun es vs H' ⟨x, y, he, k⟩ _ ex inv r => by
    subst he
    obtain ⟨v, u, rfl, r1, r2⟩ := vs2 r
    have o1 := o.mono ex inv
    have o2 := o1.put (i := i) (show Rep (mo W (X ++ owned G)) H' v x from r1)
    have s := owned_set (G := G) (i := i) (e := .d x) rfl
    have r2' : Rep (mo W (X ++ owned (G.set i (.d x)))) H' u y := (show Rep (mo W (X ++ owned G)) H' u y from r2).less (mo_sub (List.append_subset.mpr ⟨List.subset_append_left _ _, fun a h => List.mem_append_right _ (s.subset h)⟩))
    exact ⟨v, u, rfl, m.nx _ _ _ k (o2.put r2')⟩
/-- xs.append(ys.pop(i)), both lists the def's own -/
theorem st_appPop {i j : Nat} {l l2 : Addr} {ds es : List D} {ti : TE} (h : G[i]? = some (.own l ds)) (h2 : G[j]? = some (.own l2 es)) (hij : i ≠ j) (hl : ds.length < 100000) (hl2 : es.length < 100000)
    (k : Ev W G ti fun x => ∃ (n : Nat) (d : D), x = .int (n : Int) ∧ es[n]? = some d ∧ E.nx ((G.set j (.own l2 (es.eraseIdx n))).set i (.own l (ds ++ [d])))) :
    St W G (tDrop (tBM K "list" rAppend (tVar i) (tCons (tBM K "list" rPopAt (tVar j) (tCons ti tNil)) tNil))) E := fun X N H0 σ H o D m => by
  obtain ⟨e, vs, e1, r⟩ := o.at h
  obtain ⟨e2, us, e3, r2⟩ := o.at h2
  refine ⟨_, e, .inl ⟨rfl, _, SqL.of e1⟩, _, e2, .inl ⟨rfl, _, SqL.of e3⟩, k X σ H o.env _ fun x v H' k' ex inv rx => ?_⟩
  obtain ⟨n, d, rfl, hd, k'⟩ := k'
  cases rx
  have o1 := o.mono ex inv
  obtain ⟨_, us', e3', r2'⟩ := o1.at h2
  obtain ⟨w, hw, rw'⟩ := r2'.get hd
  have hn : n < us'.length := (List.getElem?_eq_some_iff.mp hw).1
  have hlen := r2'.length
  have ix : seqIndex? (n : Int) us'.length = some n := by
    have h1 : ¬ ((n : Int) < 0) := by omega
    have h2 : (n : Int) < (us'.length : Int) := by omega
    have h3 : (0 : Int) ≤ (n : Int) := by omega
    unfold seqIndex?
    simp only [if_neg h1]
    simp [h2, h3]
  refine ⟨l2, us', (n : Int), n, w, rfl, rfl, e3', by omega, by omega, ix, hw, ?_⟩
  have rr : RepAll (mo W (X ++ owned G)) H' (us'.eraseIdx n) (es.eraseIdx n) := by
    exact r2'.eraseIdx n
  have o2 := o1.change h2 e3' rr
  have h1' : (G.set j (.own l2 (es.eraseIdx n)))[i]? = some (.own l ds) := by rw [List.getElem?_set_ne (Ne.symm hij)]; exact h
  obtain ⟨_, vs', e1', r'⟩ := o2.at h1'
  refine ⟨l, vs', w, rfl, rfl, e1', small_len (by rw [r'.length]; exact hl), m.nx _ _ _ k' (o2.change h1' e1' (r'.append (.cons ?_ .nil)))⟩
  have rw2 : Rep (mo W (X ++ owned G)) (upd H' l2 (.lst (us'.eraseIdx n))) w d := Rep.upd' (fun a u z q => by rw [upd_ne z]; exact q) (fun u q => by rw [e3'] at q; cases q; exact ⟨_, rfl⟩) (fun a m => .inr m) (.inr (List.mem_append_right _ (mem_owned h2))) rw'
  refine rw2.less fun a m => ?_
  rcases mutSub a m with z | z
  · rw [z]; exact .inr (List.mem_append_right _ (mem_owned h2))
  · exact z
/-- xs.index(y), flat data -/
theorem ev_index {tl : TE} (h : EvL W G tl fun ds => Ev W G te fun y => ∃ j : Nat, ∃ z, flatD y = true ∧ ds.all flatD = true ∧ ds[j]? = some z ∧ eqD z y = true ∧ (∀ (n : Nat) z', n < j → ds[n]? = some z' → eqD z' y = false) ∧ KK (.int (j : Nat))) :
    Ev W G (tBM K "list" (rIndex K) tl (tCons te tNil)) KK := fun X σ H E1 Q q =>
  h X σ H E1 _ fun ds p vs H' k n ex inv e nm r => by
    refine ⟨.inl ⟨rfl, _, SqL.of e⟩, ?_⟩
    refine k X σ H' (E1.mono ex inv) _ fun y v H2 ⟨j, z, fy, fd, hz, he, hno, k2⟩ ex2 inv2 ry => ?_
    have e2 : H2 p = some (.lst vs) := ex2.kp _ _ e fun m => absurd m nm
    have r2 : RepAll (fun a => a = p ∨ mo W (X ++ owned G) a) H2 vs ds := r.mono ex2 fun a m => .inr (.inl m)
    have r3 : RepAll (mo W (X ++ owned G)) H2 vs ds := r2.less fun a m => .inr m
    obtain ⟨hin, hfl⟩ := in_rep ry fy r3 fd
    obtain ⟨w, hw, rw'⟩ := r3.get hz
    refine ⟨p, vs, v, j, w, rfl, rfl, .inl (.inl e2), flat_rep ry fy, hfl, hw, ?_, fun m z' hm hz' => ?_, q _ _ H2 k2 (ex.trans ex2) inv2 (.int _)⟩
    · rw [eqV_rep rw' ry (List.all_eq_true.mp fd z (List.mem_of_getElem? hz)) fy]; exact he
    · obtain ⟨d', hd', rd'⟩ := r3.getV hz'
      rw [eqV_rep rd' ry (List.all_eq_true.mp fd d' (List.mem_of_getElem? hd')) fy]
      exact hno m d' hm hd'
end
/-! ### common words of books -/
def intsD (l : List Nat) : List D := l.map fun (k : Nat) => D.int (k : Int)
theorem intsD_nats (l : List Nat) : intsD l = natsD l := rfl
theorem intsD_len (l : List Nat) : (intsD l).length = l.length := List.length_map ..
theorem intsD_snoc (l : List Nat) (k : Nat) : intsD l ++ [D.int (k : Int)] = intsD (l ++ [k]) := by simp [intsD]
theorem rowsD_get {rows : List (List Nat)} {i : Nat} {d : D} (h : (rows.map nT)[i]? = some d) : ∃ row, rows[i]? = some row ∧ d = nT row := by
  rw [List.getElem?_map] at h
  cases q : rows[i]? with
  | none => rw [q] at h; cases h
  | some row => rw [q] at h; exact ⟨row, rfl, (Option.some.inj h).symm⟩
theorem intsD_get {l : List Nat} {i : Nat} (h : i < l.length) : (intsD l)[i]? = some (.int (l.getD i 0 : Nat)) := by
  unfold intsD
  rw [List.getElem?_map, List.getElem?_eq_getElem h, List.getD_eq_getElem?_getD, List.getElem?_eq_getElem h]; rfl
theorem intsD_of {l : List Nat} {i : Nat} {d : D} (h : (intsD l)[i]? = some d) : ∃ k, l[i]? = some k ∧ d = .int (k : Nat) := by
  unfold intsD at h
  rw [List.getElem?_map] at h
  cases q : l[i]? with
  | none => rw [q] at h; cases h
  | some k => rw [q] at h; exact ⟨k, rfl, (Option.some.inj h).symm⟩
theorem enum_of {xs : List D} {i : Nat} {d : D} (h : (pairsOf (intsUp 0 xs.length) xs)[i]? = some d) : ∃ x, xs[i]? = some x ∧ d = .tup [.int (i : Nat), x] ∧ i < xs.length := by
  obtain ⟨a, b, ha, hb, rfl⟩ := pairsOf_of h
  obtain ⟨hi, rfl⟩ := intsUp_of ha
  exact ⟨b, hb, by rw [Int.zero_add], hi⟩
theorem enum_len (xs : List D) : (pairsOf (intsUp 0 xs.length) xs).length = xs.length := by rw [pairsOf_len, intsUp_len]; omega
theorem nT_at {l : List Nat} {i : Nat} (h : i < l.length) : ixD (nT l) ((i : Nat) : Int) = some (.int (l.getD i 0 : Nat)) := atI_of (intsD_get h)
theorem mask_at {rows : List (List Nat)} {x : Nat} (h : x < rows.length) : ixD (nT (Bk.masks rows)) ((x : Nat) : Int) = some (.int (Bk.mask rows x : Nat)) := nT_at (by rw [Bk.masks_length]; exact h)
theorem isA_bit (rows : List (List Nat)) (x p : Nat) : ((Builtin.bitAnd (((Bk.mask rows x : Nat) : Int) / 2 ^ ((p : Nat) : Int).toNat) 1) != 0) = Bk.isA rows x p := by
  rw [Bm.shr_nn, show (1 : Int) = ((1 : Nat) : Int) from rfl, Bm.and_nn, Bm.bit_and1]
  unfold Bk.isA
  cases (Bk.mask rows x).testBit p <;> rfl
end Pd

namespace Pd
open PySem L2 RZ PyProof.Rows
/-- a dealing: rows of kinds -/
structure DealOk (rows : List (List Nat)) (L : List (List Nat)) : Prop where
  ne : ∀ r ∈ L, r ≠ []
  ch : ∀ r ∈ L, r.Pairwise fun a b => a < b ∧ Bk.isA rows b a = true
  nd : L.flatten.Nodup
  mem : ∀ k, k ∈ L.flatten ↔ k < rows.length
theorem perm_flat {L L' : List (List Nat)} (h : L.Perm L') : L.flatten.Perm L'.flatten := by
  induction h with
  | nil => exact .refl _
  | cons x _ ih => rw [List.flatten_cons, List.flatten_cons]; exact ih.append_left x
  | swap x y l =>
    rw [List.flatten_cons, List.flatten_cons, List.flatten_cons, List.flatten_cons, ← List.append_assoc, ← List.append_assoc]
    exact List.Perm.append_right _ List.perm_append_comm
  | trans _ _ ih1 ih2 => exact ih1.trans ih2
theorem DealOk.perm {rows : List (List Nat)} {L L' : List (List Nat)} (h : DealOk rows L) (p : L.Perm L') : DealOk rows L' :=
  ⟨fun r hr => h.ne r (p.mem_iff.mpr hr), fun r hr => h.ch r (p.mem_iff.mpr hr), (perm_flat p).nodup_iff.mp h.nd, fun k => by rw [← (perm_flat p).mem_iff]; exact h.mem k⟩
theorem flat_mem {L : List (List Nat)} {k : Nat} : k ∈ L.flatten ↔ ∃ (s : Nat) (r : List Nat), L[s]? = some r ∧ k ∈ r := by
  rw [List.mem_flatten]
  constructor
  · rintro ⟨r, hr, hk⟩
    obtain ⟨s, hs⟩ := List.mem_iff_getElem?.mp hr
    exact ⟨s, r, hs, hk⟩
  · rintro ⟨s, r, hs, hk⟩
    exact ⟨r, List.mem_of_getElem? hs, hk⟩
theorem flat_unique : ∀ {L : List (List Nat)}, L.flatten.Nodup → ∀ {s t : Nat} {r q : List Nat} {k : Nat}, L[s]? = some r → L[t]? = some q → k ∈ r → k ∈ q → s = t
  | [], _, s, t, r, q, k, hs, _, _, _ => by simp at hs
  | x :: L, nd, s, t, r, q, k, hs, ht, hr, hq => by
    rw [List.flatten_cons, List.nodup_append] at nd
    obtain ⟨n1, n2, n3⟩ := nd
    cases s with
    | zero =>
      have e : x = r := by simpa using hs
      subst e
      cases t with
      | zero => rfl
      | succ t =>
        have h2 : L[t]? = some q := by simpa using ht
        exact absurd rfl (n3 k hr k (flat_mem.mpr ⟨t, q, h2, hq⟩))
    | succ s =>
      have h1 : L[s]? = some r := by simpa using hs
      cases t with
      | zero =>
        have e : x = q := by simpa using ht
        subst e
        exact absurd rfl (n3 k hq k (flat_mem.mpr ⟨s, r, h1, hr⟩))
      | succ t =>
        have h2 : L[t]? = some q := by simpa using ht
        rw [flat_unique n2 h1 h2 hr hq]
theorem row_nodup {L : List (List Nat)} (nd : L.flatten.Nodup) {s : Nat} {r : List Nat} (hs : L[s]? = some r) : r.Nodup := by
  have hm := List.mem_of_getElem? hs
  clear hs
  induction L with
  | nil => cases hm
  | cons x L ih =>
    rw [List.flatten_cons, List.nodup_append] at nd
    rcases List.mem_cons.mp hm with e | h
    · rw [e]; exact nd.1
    · exact ih nd.2.1 h
theorem at_unique {r : List Nat} (nd : r.Nodup) {i j k : Nat} (hi : r[i]? = some k) (hj : r[j]? = some k) : i = j := by
  obtain ⟨h1, e1⟩ := List.getElem?_eq_some_iff.mp hi
  obtain ⟨h2, e2⟩ := List.getElem?_eq_some_iff.mp hj
  rcases Nat.lt_trichotomy i j with h | h | h
  · exact absurd (e1.trans e2.symm) (List.pairwise_iff_getElem.mp nd i j h1 h2 h)
  · exact h
  · exact absurd (e2.trans e1.symm) (List.pairwise_iff_getElem.mp nd j i h2 h1 h)
/-- where a kind stands -/
def At (L : List (List Nat)) (x s j : Nat) : Prop := ∃ r, L[s]? = some r ∧ r[j]? = some x
theorem DealOk.at {rows : List (List Nat)} {L : List (List Nat)} (h : DealOk rows L) {x : Nat} (hx : x < rows.length) : ∃ s j, At L x s j := by
  obtain ⟨s, r, hs, hr⟩ := flat_mem.mp ((h.mem x).mpr hx)
  obtain ⟨j, hj⟩ := List.mem_iff_getElem?.mp hr
  exact ⟨s, j, r, hs, hj⟩
theorem At.eq {L : List (List Nat)} (nd : L.flatten.Nodup) {x s j t i : Nat} (a : At L x s j) (b : At L x t i) : s = t ∧ j = i := by
  obtain ⟨r, h1, h2⟩ := a
  obtain ⟨q, h3, h4⟩ := b
  have e := flat_unique nd h1 h3 (List.mem_of_getElem? h2) (List.mem_of_getElem? h4)
  subst e
  rw [h1] at h3; cases h3
  exact ⟨rfl, at_unique (row_nodup nd h1) h2 h4⟩
theorem count_prefix (f : Nat → Bool) : ∀ {r : List Nat}, (r.Pairwise fun a b => f b = true → f a = true) → ∀ {j x : Nat}, r[j]? = some x → (decide (j < (r.filter f).length) = f x)
  | [], _, _, _, h => by simp at h
  | a :: r, hp, j, x, h => by
    obtain ⟨h1, h2⟩ := List.pairwise_cons.mp hp
    cases fa : f a with
    | true =>
      rw [List.filter_cons, if_pos fa, List.length_cons]
      cases j with
      | zero =>
        have e : a = x := by simpa using h
        subst e; rw [fa]; simp
      | succ j =>
        have h' : r[j]? = some x := by simpa using h
        rw [← count_prefix f h2 h']
        simp
    | false =>
      have no : ∀ b ∈ r, f b = false := fun b hb => by
        cases fb : f b with
        | false => rfl
        | true => rw [h1 b hb fb] at fa; cases fa
      have e : (a :: r).filter f = [] := by
        rw [List.filter_cons, if_neg (by rw [fa]; decide)]
        exact List.filter_eq_nil_iff.mpr fun b hb => by rw [no b hb]; decide
      rw [e]
      have fx : f x = false := by
        rcases List.mem_cons.mp (List.mem_of_getElem? h) with z | z
        · rw [z]; exact fa
        · exact no x z
      rw [fx]; simp
/-- the rows' entries for a kind -/
def entO (rows L : List (List Nat)) (x : Nat) : List Int := L.map fun r => (((r.filter fun k => Bk.isA rows x k).length : Nat) : Int)
/-- the scheme of a dealing -/
def ScO (rows L : List (List Nat)) (sc : List Tr) : Prop := sc.length = rows.length ∧ ∀ x, x < rows.length → ∀ s j, At L x s j → sc[x]? = some (s, ((j + 1 : Nat) : Int), entO rows L x)
theorem chain_pre {rows L : List (List Nat)} (ok : Bk.RowsOk rows) (h : DealOk rows L) {x : Nat} (hx : x < rows.length) {r : List Nat} (hr : r ∈ L) : r.Pairwise fun a b => Bk.isA rows x b = true → Bk.isA rows x a = true :=
  (h.ch r hr).imp fun {a b} hab q => Bk.isA_trans ok x b a hx q hab.2
theorem ScO.cmp {rows L : List (List Nat)} {sc : List Tr} (ok : Bk.RowsOk rows) (h : DealOk rows L) (o : ScO rows L sc) {x p : Nat} (hx : x < rows.length) (hp : p < rows.length) : cmpS sc x p = Bk.isA rows x p := by
  obtain ⟨s, j, a⟩ := h.at hp
  obtain ⟨t, i, b⟩ := h.at hx
  have ep := o.2 p hp s j a
  have ex := o.2 x hx t i b
  obtain ⟨r, hs, hj⟩ := a
  have he : (entO rows L x)[s]? = some ((((r.filter fun k => Bk.isA rows x k).length : Nat) : Int)) := by
    unfold entO; rw [List.getElem?_map, hs]; rfl
  rw [cmpS_yes ex ep he, ← count_prefix (fun k => Bk.isA rows x k) (chain_pre ok h hx (List.mem_of_getElem? hs)) hj]
  have : ((((j + 1 : Nat) : Int)) ≤ (((r.filter fun k => Bk.isA rows x k).length : Nat) : Int)) ↔ (j < (r.filter fun k => Bk.isA rows x k).length) := by omega
  exact decide_eq_decide.mpr this
theorem ScO.eq {rows L : List (List Nat)} {sc sc' : List Tr} (h : DealOk rows L) (a : ScO rows L sc) (b : ScO rows L sc') : sc = sc' := by
  refine List.ext_getElem? fun x => ?_
  by_cases hx : x < rows.length
  · obtain ⟨s, j, q⟩ := h.at hx
    rw [a.2 x hx s j q, b.2 x hx s j q]
  · rw [List.getElem?_eq_none (by rw [a.1]; omega), List.getElem?_eq_none (by rw [b.1]; omega)]
theorem flat_len {L : List (List Nat)} (ne : ∀ r ∈ L, r ≠ []) : L.length ≤ L.flatten.length := by
  induction L with
  | nil => exact Nat.le_refl _
  | cons x L ih =>
    have h1 := ih fun r hr => ne r (List.mem_cons_of_mem _ hr)
    have h2 : 0 < x.length := List.length_pos_iff.mpr (ne x (List.mem_cons_self ..))
    rw [List.length_cons, List.flatten_cons, List.length_append]; omega
theorem DealOk.perm_range {rows L : List (List Nat)} (h : DealOk rows L) : L.flatten.Perm (List.range rows.length) := (List.perm_ext_iff_of_nodup h.nd List.nodup_range).mpr fun k => by rw [h.mem k, List.mem_range]
theorem DealOk.flat_length {rows L : List (List Nat)} (h : DealOk rows L) : L.flatten.length = rows.length := by rw [h.perm_range.length_eq, List.length_range]
theorem DealOk.len {rows L : List (List Nat)} (h : DealOk rows L) : L.length ≤ rows.length := by
  have := flat_len h.ne
  rw [h.flat_length] at this; exact this
theorem row_len {L : List (List Nat)} {r : List Nat} (hr : r ∈ L) : r.length ≤ L.flatten.length := by
  induction L with
  | nil => cases hr
  | cons x L ih =>
    rw [List.flatten_cons, List.length_append]
    rcases List.mem_cons.mp hr with e | h
    · rw [e]; omega
    · have := ih h; omega
theorem DealOk.row {rows L : List (List Nat)} (h : DealOk rows L) {r : List Nat} (hr : r ∈ L) : r.length ≤ rows.length := by
  have := row_len hr
  rw [h.flat_length] at this; exact this
theorem DealOk.lt {rows L : List (List Nat)} (h : DealOk rows L) {r : List Nat} (hr : r ∈ L) {k : Nat} (hk : k ∈ r) : k < rows.length := (h.mem k).mp (List.mem_flatten.mpr ⟨r, hr, hk⟩)
theorem ScO.ok {rows L : List (List Nat)} {sc : List Tr} (h : DealOk rows L) (o : ScO rows L sc) (hn : rows.length ≤ 400) : ScOk sc := ⟨by rw [o.1]; omega, fun t ht => by
  obtain ⟨x, hx⟩ := List.mem_iff_getElem?.mp ht
  have hl : x < rows.length := by have := (List.getElem?_eq_some_iff.mp hx).1; rw [o.1] at this; exact this
  obtain ⟨s, j, a⟩ := h.at hl
  rw [o.2 x hl s j a] at hx
  cases hx
  show (entO rows L x).length < 50000
  unfold entO; rw [List.length_map]
  have := h.len; omega⟩
/-! ### masks of what is said -/
def maskN : Nat → (Nat → Bool) → Nat
  | 0, _ => 0
  | n + 1, f => maskN n f ||| (if f n then 2 ^ n else 0)
theorem maskN_bit (f : Nat → Bool) : ∀ (n j : Nat), (maskN n f).testBit j = (decide (j < n) && f j)
  | 0, j => by simp [maskN]
  | n + 1, j => by
    show (maskN n f ||| (if f n then 2 ^ n else 0)).testBit j = _
    rw [Nat.testBit_or, maskN_bit f n j]
    by_cases q : n = j
    · subst q
      cases h : f n <;> simp [h, Nat.testBit_two_pow_self]
    · have h2 : (if f n then 2 ^ n else 0 : Nat).testBit j = false := by
        cases h : f n
        · simp
        · simp [Nat.testBit_two_pow, q]
      rw [h2, Bool.or_false]
      by_cases hj : j < n
      · simp [hj, Nat.lt_succ_of_lt hj]
      · have : ¬ j < n + 1 := by omega
        simp [hj, this]
/-! ### books -/
/-- rows that a book may have -/
structure BookOk (rows : List (List Nat)) : Prop where
  up : ∀ r ∈ rows, r.Pairwise (· < ·)
  ok : Bk.RowsOk rows
  six : ∀ r ∈ rows, r.length ≤ 6
  many : rows.length ≤ 400
def bookD (C : Addr) (rows : List (List Nat)) : D := .obj C ["parents", "above"] [rowsD rows, nT (Bk.masks rows)]
theorem shr_bit (m k : Nat) : ((Builtin.bitAnd ((m : Int) / 2 ^ ((k : Nat) : Int).toNat) 1) != 0) = m.testBit k := by
  rw [Bm.shr_nn, show (1 : Int) = ((1 : Nat) : Int) from rfl, Bm.and_nn, Bm.bit_and1]
  cases m.testBit k <;> rfl
theorem isA_one {rows : List (List Nat)} {x p : Nat} (h : Bk.isA rows x p = true) : Builtin.bitAnd (((Bk.mask rows x : Nat) : Int) / 2 ^ ((p : Nat) : Int).toNat) 1 = 1 := by
  rw [Bm.shr_nn, show (1 : Int) = ((1 : Nat) : Int) from rfl, Bm.and_nn, Bm.bit_and1]
  unfold Bk.isA at h
  rw [h]; rfl
theorem nT_ty {K : PySem.W.Frag} (r : List Nat) : ∀ ds, nT r = .tup ds → ∀ x ∈ ds, TyOk K x := fun ds h x hx => by
  cases h
  obtain ⟨p, _, rfl⟩ := List.mem_map.mp hx
  trivial
theorem BookOk.snoc {rows : List (List Nat)} {row : List Nat} (h : BookOk rows) (h1 : row.Pairwise (· < ·)) (h2 : ∀ p ∈ row, p < rows.length) (h3 : row.length ≤ 6) (h4 : rows.length < 400) : BookOk (rows ++ [row]) := by
  refine ⟨fun r hr => ?_, fun k r hk => ?_, fun r hr => ?_, by rw [List.length_append]; show rows.length + 1 ≤ 400; omega⟩
  · rcases List.mem_append.mp hr with z | z
    · exact h.up r z
    · rw [List.mem_singleton.mp z]; exact h1
  · by_cases q : k < rows.length
    · rw [List.getElem?_append_left q] at hk
      exact h.ok k r hk
    · rw [List.getElem?_append_right (by omega)] at hk
      have hz : k - rows.length = 0 := by
        have := (List.getElem?_eq_some_iff.mp hk).1
        simp at this; omega
      rw [hz] at hk
      cases hk
      intro p hp
      have := h2 p hp; omega
  · rcases List.mem_append.mp hr with z | z
    · exact h.six r z
    · rw [List.mem_singleton.mp z]; exact h3
theorem BookOk.take {rows : List (List Nat)} (h : BookOk rows) (m : Nat) : BookOk (rows.take m) :=
  ⟨fun r hr => h.up r (List.mem_of_mem_take hr), h.ok.take m, fun r hr => h.six r (List.mem_of_mem_take hr), by rw [List.length_take]; have := h.many; omega⟩
theorem BookOk.nil : BookOk [] := ⟨(fun _ h => nomatch h), (fun _ _ h => nomatch h), (fun _ h => nomatch h), Nat.zero_le _⟩





end Pd

namespace Pd
open PySem L2 RZ PyProof.Rows
/-! ### dicts of the def's own, keys of ints -/
theorem owned_same {e e' : Ent} (h : ownOf e = ownOf e') : ∀ {G : List Ent} {i : Nat}, owned (G.set i e) = owned (G.set i e')
  | [], _ => rfl
  | x :: G, 0 => by unfold owned; simp only [List.set_cons_zero, List.filterMap_cons, h]
  | x :: G, i + 1 => by
    have ih := owned_same h (G := G) (i := i)
    unfold owned at ih ⊢
    simp only [List.set_cons_succ, List.filterMap_cons, ih]
theorem owned_keep {G : List Ent} {i : Nat} {e e' : Ent} (h : G[i]? = some e) (he : ownOf e' = ownOf e) : owned (G.set i e') = owned G := by
  rw [owned_same he, set_self h]
theorem mem_ownedE {G : List Ent} {i : Nat} {e : Ent} {l : Addr} (h : G[i]? = some e) (he : ownOf e = some l) : l ∈ owned G := List.mem_filterMap.mpr ⟨e, List.mem_of_getElem? h, he⟩
theorem owner_unique {G : List Ent} (nd : (owned G).Nodup) {i j : Nat} {e e' : Ent} {l : Addr} (hi : G[i]? = some e) (hj : G[j]? = some e') (he : ownOf e = some l) (he' : ownOf e' = some l) : i = j := by
  obtain ⟨h1, e1⟩ := List.getElem?_eq_some_iff.mp hi
  obtain ⟨h2, e2⟩ := List.getElem?_eq_some_iff.mp hj
  unfold owned List.Nodup at nd
  have p := List.pairwise_filterMap.mp nd
  rcases Nat.lt_trichotomy i j with h | h | h
  · exact absurd rfl (List.pairwise_iff_getElem.mp p i j h1 h2 h l (by rw [e1]; exact he) l (by rw [e2]; exact he'))
  · exact h
  · exact absurd rfl (List.pairwise_iff_getElem.mp p j i h2 h1 h l (by rw [e2]; exact he') l (by rw [e1]; exact he))
mutual
theorem Rep.updK {M : Addr → Prop} {H : Hp} {p : Addr} {k1 k2 : List (Key × V)} (hp : H p = some (.dK k1)) : ∀ {v : V} {d : D}, Rep M H v d → Rep M (upd H p (.dK k2)) v d
  | _, _, .non => .non
  | _, _, .bl b => .bl b
  | _, _, .int i => .int i
  | _, _, .str x => .str x
  | _, _, .tup h r => .tup (h.imp (fun h => by rw [upd_ne (fun z => by rw [z, hp] at h; cases h)]; exact h) fun ⟨o, h⟩ => ⟨o, by rw [upd_ne (fun z => by rw [z, hp] at h; cases h)]; exact h⟩) (RepAll.updK hp r)
  | _, _, .lst n h r => .lst n (by rw [upd_ne (fun z => by rw [z, hp] at h; cases h)]; exact h) (RepAll.updK hp r)
  | _, _, .dct (a := a) h => by
    by_cases q : a = p
    · subst q; exact .dct upd_same
    · exact .dct (by rw [upd_ne q]; exact h)
  | _, _, .rg h => .rg (by rw [upd_ne (fun z => by rw [z, hp] at h; cases h)]; exact h)
  | _, _, .obj h q l r => .obj (by rw [upd_ne (fun z => by rw [z, hp] at h; cases h)]; exact h) q l (RepAll.updK hp r)
theorem RepAll.updK {M : Addr → Prop} {H : Hp} {p : Addr} {k1 k2 : List (Key × V)} (hp : H p = some (.dK k1)) : ∀ {vs : List V} {ds : List D}, RepAll M H vs ds → RepAll M (upd H p (.dK k2)) vs ds
  | _, _, .nil => .nil
  | _, _, .cons r t => .cons (Rep.updK hp r) (RepAll.updK hp t)
end
theorem EntsOk.upd1 {M M' : Addr → Prop} {H H' : Hp} {e' : Ent} : ∀ {σ : L2.St} {G : List Ent} {i : Nat} {xi : Option V}, EntsOk M H σ G → σ[i]? = some xi → EntOk M' H' xi e' → (∀ j x e, j ≠ i → G[j]? = some e → EntOk M H x e → EntOk M' H' x e) → EntsOk M' H' σ (G.set i e')
  | _, _, _, _, .nil, h, _, _ => by simp at h
  | _, _, 0, _, .cons (σ := σ) (G := G) r t, h, q, k => by
    have hx := Option.some.inj h
    subst hx
    refine .cons q ?_
    have go : ∀ {σ : L2.St} {G' : List Ent} (n : Nat), (∀ j e, G'[j]? = some e → (_ :: G)[n + 1 + j]? = some e) → EntsOk M H σ G' → EntsOk M' H' σ G' := fun {σ G'} n hg w => by
      induction w generalizing n with
      | nil => exact .nil
      | cons r t ih => exact .cons (k (n + 1) _ _ (by omega) (hg 0 _ rfl) r) (ih (n + 1) fun j e hj => by
          have := hg (j + 1) e (by simpa using hj)
          rw [show n + 1 + 1 + j = n + 1 + (j + 1) by omega]; exact this)
    exact go 0 (fun j e hj => by rw [show 0 + 1 + j = j + 1 by omega]; simpa using hj) t
  | _, _, i + 1, _, .cons r t, h, q, k =>
    .cons (k 0 _ _ (by omega) rfl r) (EntsOk.upd1 t (by simpa using h) q fun j x e hj hg => k (j + 1) x e (by omega) (by simpa using hg))
section
variable {W : Wd} {G : List Ent} {te ta tb : TE} {E : Post} {K : PySem.W.Frag} {KK : D → Prop}
theorem mutSubK {X : List Addr} {i : Nat} {l : Addr} {ns : List Int} {ds : List D} (a : Addr) (m : mo W (X ++ owned (G.set i (.odk l ns ds))) a) : a = l ∨ mo W (X ++ owned G) a := by
  rw [owned_same (show ownOf (.odk l ns ds) = ownOf (.own l []) from rfl)] at m
  exact mutSub a m
theorem st_dnew {i : Nat} (h : ∀ l, E.nx (G.set i (.odk l [] []))) : St W G (tAsg tDNewK (gName i)) E := fun X N H0 σ H o D m => by
  intro p hp
  have e1 : Ex W.M H (upd H p (.dK [])) := Ex.new hp
  have i1 : W.inv (upd H p (.dK [])) := inv_same o.env.inv fun _ => Ex.new hp
  have no := own_neX o.env hp
  have ow : owned (G.set i (.odk p [] [])) = owned (G.set i (.own p [])) := owned_same (e := .odk p [] []) (e' := .own p []) rfl
  have nM := new_ne o.env.inv hp
  have nv : EntsOk (fun a => a = p ∨ mo W (X ++ owned G) a) (upd H p (.dK [])) σ G := o.env.ok.widen hp e1.up (fun a m => m) (own_ne o.env hp) fun l hl u q => e1.kp l u q fun m => absurd m (o.env.ap l hl).1
  refine m.nx _ _ _ (h p) ⟨⟨(EntsOk.set (x := some (.ref p)) (e := .odk p [] []) ⟨rfl, rfl, [], upd_same, .nil⟩ i nv).less fun a m => mutSubK a m, by rw [ow]; exact nodup_setOwn o.env.nd fun z => no (List.mem_append_right _ z), fun b q => ?_, fun b q => ?_, i1⟩, o.ex.trans (e1.up), fun b q => ?_⟩
  · rw [ow] at q
    rcases owned_setOwn b q with z | z
    · subst z; exact ⟨nM, fun z => no (List.mem_append_left _ z)⟩
    · exact o.env.ap b z
  · obtain ⟨q1, u, q2⟩ := o.env.xs b q
    exact ⟨q1, e1.th b u q2⟩
  · rw [ow] at q
    rcases owned_setOwn b q with z | z
    · subst z; exact .inl (o.ex.none hp)
    · exact o.nw b z
theorem Ok.changeK {X N : List Addr} {H0 H : Hp} {σ : L2.St} {i : Nat} {l : Addr} {ns ns' : List Int} {ds ds' : List D} {us : List V} {k1 : List (Key × V)} (o : Ok W X N H0 H σ G) (h : G[i]? = some (.odk l ns ds)) (hl : H l = some (.dK k1)) (hn : ns'.length = ds'.length) (r : RepAll (mo W (X ++ owned G)) H us ds') :
    Ok W X N H0 (upd H l (.dK (kvI ns' us))) σ (G.set i (.odk l ns' ds')) := by
  have ml : l ∈ owned G := mem_ownedE h rfl
  have nW := (o.env.ap l ml).1
  have ow : owned (G.set i (.odk l ns' ds')) = owned G := owned_keep h rfl
  obtain ⟨x, hx, hr⟩ := o.env.ok.get h
  obtain ⟨rfl, _⟩ := hr
  refine ⟨⟨?_, by rw [ow]; exact o.env.nd, fun b q => o.env.ap b (by rw [ow] at q; exact q), fun b q => ⟨(o.env.xs b q).1, by rw [upd_ne fun z => (o.env.ap l ml).2 (by rw [← z]; exact q)]; exact (o.env.xs b q).2⟩, W.dep H _ o.env.inv fun a u ma q => by
    rw [upd_ne fun z => nW (by rw [← z]; exact ma)]; exact q⟩, ?_, fun b q => o.nw b (by rw [ow] at q; exact q)⟩
  · rw [ow]
    refine o.env.ok.upd1 hx ⟨rfl, hn, us, upd_same, r.updK hl⟩ fun j x e hj hg he => ?_
    cases e with
    | no => trivial
    | d d => obtain ⟨v, q, r⟩ := he; exact ⟨v, q, r.updK hl⟩
    | own b ds => obtain ⟨q, vs, e1, r⟩ := he; exact ⟨q, vs, by rw [upd_ne (fun z => by rw [z, hl] at e1; cases e1)]; exact e1, r.updK hl⟩
    | odk b ms es =>
      obtain ⟨q, hm, vs, e1, r⟩ := he
      refine ⟨q, hm, vs, ?_, r.updK hl⟩
      rw [upd_ne fun z => hj (owner_unique o.env.nd hg h (show ownOf (.odk b ms es) = some l from by rw [z]; rfl) rfl)]; exact e1
    | raw v => exact he
    | frz b ob ms => exact ⟨he.1, he.2.1, by rw [upd_ne (fun z => by have e := he.2.2; rw [z, hl] at e; cases e)]; exact he.2.2⟩
  · rcases o.nw l ml with z | z
    · exact o.ex.mutN z
    · exact o.ex.trans (Ex.mutK (.inr z) hl)
theorem kvI_snoc {ns : List Int} {vs : List V} (h : ns.length = vs.length) {n : Int} {v : V} (hn : n ∉ ns) : putK (kvI ns vs) (Sum.inl n) v = kvI (ns ++ [n]) (vs ++ [v]) := by
  unfold putK
  have no : ((kvI ns vs).any fun kv => decide (kv.1 = Sum.inl n)) = false := by
    rw [List.any_eq_false]
    rintro ⟨a, b⟩ hab z
    have ha := (List.of_mem_zip hab).1
    obtain ⟨m, hm, e⟩ := List.mem_map.mp ha
    have : a = Sum.inl n := of_decide_eq_true z
    rw [← e] at this
    cases this
    exact hn hm
  rw [if_neg (by rw [no]; decide)]
  unfold kvI
  rw [List.map_append, List.zip_append (by rw [List.length_map]; exact h)]
  rfl
theorem kvI_get : ∀ {ns : List Int} {vs : List V} {j : Nat} {n : Int} {v : V}, ns[j]? = some n → (∀ m, m < j → ns[m]? ≠ some n) → vs[j]? = some v → valV (kvI ns vs) (Sum.inl n) = some v
  | [], _, _, _, _, h, _, _ => by simp at h
  | _ :: _, [], _, _, _, _, _, h => by simp at h
  | a :: ns, w :: vs, 0, n, v, h, _, hv => by
    have e : a = n := by simpa using h
    have e2 : w = v := by simpa using hv
    subst e; subst e2
    exact valV_pos (p := (Sum.inl a, w)) rfl
  | a :: ns, w :: vs, j + 1, n, v, h, no, hv => by
    have ne : a ≠ n := fun z => no 0 (by omega) (by rw [z]; rfl)
    show valV ((Sum.inl a, w) :: kvI ns vs) (Sum.inl n) = some v
    rw [valV_neg (p := (Sum.inl a, w)) (fun z => ne (by cases z; rfl))]
    exact kvI_get (by simpa using h) (fun m hm z => no (m + 1) (by omega) (by simpa using z)) (by simpa using hv)
theorem kvI_len {ns : List Int} {vs : List V} : (kvI ns vs).length ≤ vs.length := by
  unfold kvI; rw [List.length_zip]; omega
theorem Ok.atK {X N : List Addr} {H0 H : Hp} {σ : L2.St} {i : Nat} {l : Addr} {ns : List Int} {ds : List D} (o : Ok W X N H0 H σ G) (h : G[i]? = some (.odk l ns ds)) : σ[i]? = some (some (.ref l)) ∧ ns.length = ds.length ∧ ∃ vs, H l = some (.dK (kvI ns vs)) ∧ RepAll (mo W (X ++ owned G)) H vs ds := by
  obtain ⟨x, e, r⟩ := o.env.ok.get h
  obtain ⟨rfl, q⟩ := r
  exact ⟨e, q⟩
/-- d[n] = x, n new -/
theorem st_dput {i : Nat} {l : Addr} {ns : List Int} {ds : List D} {tk tv : TE} (h : G[i]? = some (.odk l ns ds)) (hl : ds.length < 100000) (k : Ev W G tv fun d => Ev W G tk fun y => ∃ n, y = .int n ∧ n ∉ ns ∧ E.nx (G.set i (.odk l (ns ++ [n]) (ds ++ [d])))) :
    St W G (sDPut (tVar i) tk tv) E := fun X N H0 σ H o D m => by
  refine k X σ H o.env _ fun d v H1 k1 ex1 inv1 rv => ?_
  have o1 := o.mono ex1 inv1
  obtain ⟨e, _, _⟩ := o1.atK h
  refine ⟨_, e, k1 X σ H1 o1.env _ fun y u H2 k2 ex2 inv2 ry => ?_⟩
  obtain ⟨n, rfl, hn, k2⟩ := k2
  cases ry
  have o2 := o1.mono ex2 inv2
  obtain ⟨_, hlen, vs, e1, r⟩ := o2.atK h
  have hv := r.length
  have hlv : ns.length = vs.length := by omega
  refine ⟨l, _, rfl, DPut.k (k := Sum.inl n) e1 (small_len (Nat.lt_of_le_of_lt kvI_len (by omega))), ?_⟩
  rw [kvI_snoc hlv hn]
  exact m.nx _ _ _ k2 (o2.changeK h e1 (by rw [List.length_append, List.length_append, hlen]; rfl) (r.append (.cons (rv.mono ex2 fun _ m => .inl m) .nil)))
/-- d[n], n there -/
theorem ev_dget {i : Nat} {l : Addr} {ns : List Int} {ds : List D} {ty : TE} (h : G[i]? = some (.odk l ns ds)) (k : Ev W G ty fun y => ∃ (n : Int) (j : Nat) (d : D), y = .int n ∧ ns[j]? = some n ∧ (∀ m, m < j → ns[m]? ≠ some n) ∧ ds[j]? = some d ∧ KK d) : Ev W G (tDGet (tVar i) ty) KK := fun X σ H E1 Q q => by
  have o := Ok.base E1
  obtain ⟨e, _, _⟩ := o.atK h
  refine ⟨_, e, k X σ H E1 _ fun y u H1 k1 ex1 inv1 ry => ?_⟩
  obtain ⟨n, j, d, rfl, hj, hno, hd, k1⟩ := k1
  cases ry
  obtain ⟨_, hlen, vs, e1, r⟩ := (Ok.base (E1.mono ex1 inv1)).atK h
  obtain ⟨w, hw, rw'⟩ := r.get hd
  refine ⟨l, w, rfl, ?_, q _ _ H1 k1 ex1 inv1 rw'⟩
  rw [← kvI_get hj hno hw]
  exact DGet.k (k := Sum.inl n) e1
end
end Pd

namespace Pd
open PySem L2 RZ PyProof.Rows
/-! ### environments by hand: lists that no slot's data know -/
theorem EntsOk.carry {M M' : Addr → Prop} {H H' : Hp} (ex : Ex M H H') (hM : ∀ a, M' a → M a ∨ H a = none) : ∀ {σ : L2.St} {G : List Ent}, owned G = [] → EntsOk M H σ G → EntsOk M' H' σ G
  | _, _, _, .nil => .nil
  | _ :: _, e :: _, no, .cons h t => by
    have hn : ownOf e = none := by
      cases q : ownOf e with
      | none => rfl
      | some b => unfold owned at no; rw [List.filterMap_cons, q] at no; cases no
    refine .cons ?_ (EntsOk.carry ex hM (by rw [← owned_c hn]; exact no) t)
    cases e with
    | no => trivial
    | d d => obtain ⟨v, q, r⟩ := h; exact ⟨v, q, r.carry ex hM⟩
    | own l ds => cases hn
    | odk l ns ds => cases hn
    | raw v => exact h
    | frz b o ns => exact ⟨h.1, h.2.1, ex.kp _ _ h.2.2 fun _ => trivial⟩
theorem EntsOk.updX {M : Addr → Prop} {H : Hp} {p : Addr} {vs us : List V} (hl : H p = some (.lst vs)) (hp : M p) : ∀ {σ : L2.St} {G : List Ent}, owned G = [] → EntsOk M H σ G → EntsOk M (upd H p (.lst us)) σ G
  | _, _, _, .nil => .nil
  | _ :: _, e :: _, no, .cons h t => by
    have hn : ownOf e = none := by
      cases q : ownOf e with
      | none => rfl
      | some b => unfold owned at no; rw [List.filterMap_cons, q] at no; cases no
    refine .cons ?_ (EntsOk.updX hl hp (by rw [← owned_c hn]; exact no) t)
    cases e with
    | no => trivial
    | d d =>
      obtain ⟨v, q, r⟩ := h
      exact ⟨v, q, Rep.upd' (M := M) (M' := M) (fun a o z e => by rw [upd_ne z]; exact e) (fun o e => by rw [hl] at e; cases e; exact ⟨_, rfl⟩) (fun a m => .inr m) hp r⟩
    | own l ds => cases hn
    | odk l ns ds => cases hn
    | raw v => exact h
    | frz b o ns => exact ⟨h.1, h.2.1, by rw [upd_ne (fun z => by have e := h.2.2; rw [z, hl] at e; cases e)]; exact h.2.2⟩
section
variable {W : Wd} {X : List Addr} {H H' : Hp} {σ : L2.St} {G : List Ent}
theorem Env.grow (E : Env W X H σ G) (no : owned G = []) (ex : Ex W.M H H') (inv : W.inv H') (ps : List Addr) (hp : ∀ p ∈ ps, H p = none ∧ ¬ W.M p ∧ ∃ o, H' p = some o) : Env W (X ++ ps) H' σ G := by
  refine ⟨E.ok.carry (ex.weak fun _ m => .inl m) (fun a m => ?_) no, E.nd, fun l hl => (by rw [no] at hl; cases hl), fun l hl => ?_, inv⟩
  · rcases m with m | m
    · exact .inl (.inl m)
    · rw [no, List.append_nil] at m
      rcases List.mem_append.mp m with m | m
      · exact .inl (.inr (List.mem_append_left _ m))
      · exact .inr (hp a m).1
  · rcases List.mem_append.mp hl with m | m
    · obtain ⟨h1, o, h2⟩ := E.xs l m
      exact ⟨h1, ex.th l o h2⟩
    · exact (hp l m).2
theorem Env.mutX (E : Env W X H σ G) (no : owned G = []) {a : Addr} {vs us : List V} (ha : a ∈ X) (hl : H a = some (.lst vs)) : Env W X (upd H a (.lst us)) σ G := by
  refine ⟨E.ok.updX hl (.inr (List.mem_append_left _ ha)) no, E.nd, fun l h => (by rw [no] at h; cases h), fun l h => ?_, W.dep H _ E.inv fun b o m q => ?_⟩
  · obtain ⟨h1, o, h2⟩ := E.xs l h
    by_cases z : l = a
    · subst z; exact ⟨h1, _, upd_same⟩
    · exact ⟨h1, o, by rw [upd_ne z]; exact h2⟩
  · rw [upd_ne fun z => (E.xs a ha).1 (by rw [← z]; exact m)]; exact q
theorem Env.setD (E : Env W X H σ G) {i : Nat} {d : D} {v : V} (r : Rep (mo W (X ++ owned G)) H v d) : Env W X H (σ.set i (some v)) (G.set i (.d d)) := ((Ok.base E).put r).env
/-- a slot whose value is known, seen as data -/
theorem Env.seen {ps : List Addr} (E : Env W (X ++ ps) H σ G) (no : owned G = []) {i : Nat} {v : V} {d : D} (hi : σ[i]? = some (some v)) (r : Rep (mo W X) H v d) : Env W X H σ (G.set i (.d d)) := by
  have ow : owned (G.set i (.d d)) = [] := by
    have s := owned_set (G := G) (i := i) (e := .d d) rfl
    rw [no] at s
    exact List.eq_nil_of_subset_nil s.subset
  have h1 : EntsOk (mo W X) H σ G := E.ok.less fun a m => m.imp id fun z => by rw [no, List.append_nil]; exact List.mem_append_left _ z
  have h2 := EntsOk.set (x := some v) (e := .d d) (show EntOk (mo W X) H (some v) (.d d) from ⟨v, rfl, r⟩) i h1
  rw [set_self hi] at h2
  refine ⟨(by rw [ow, List.append_nil]; exact h2), (by rw [ow]; exact List.nodup_nil), fun l h => (by rw [ow] at h; cases h), fun l h => E.xs l (List.mem_append_left _ h), E.inv⟩
end
/-! ### lists of lists of numbers, by their places -/
def linesD (L : List (List Nat)) : D := .lst (L.map fun r => .lst (natsD r))
def natV (r : List Nat) : List V := r.map fun (k : Nat) => V.int (k : Int)
def Inner (H : Hp) : List Addr → List (List Nat) → Prop
  | [], [] => True
  | a :: as, r :: L => H a = some (.lst (natV r)) ∧ Inner H as L
  | _, _ => False
theorem Inner.len {H : Hp} : ∀ {as : List Addr} {L : List (List Nat)}, Inner H as L → as.length = L.length
  | [], [], _ => rfl
  | _ :: _, _ :: _, h => by rw [List.length_cons, List.length_cons, Inner.len h.2]
  | [], _ :: _, h => h.elim
  | _ :: _, [], h => h.elim
theorem Inner.mono {H H' : Hp} : ∀ {as : List Addr} {L : List (List Nat)}, (∀ a ∈ as, ∀ o, H a = some o → H' a = some o) → Inner H as L → Inner H' as L
  | [], [], _, _ => trivial
  | a :: as, r :: L, k, h => ⟨k a (List.mem_cons_self ..) _ h.1, Inner.mono (fun b hb => k b (List.mem_cons_of_mem _ hb)) h.2⟩
  | [], _ :: _, _, h => h.elim
  | _ :: _, [], _, h => h.elim
theorem Inner.get {H : Hp} : ∀ {as : List Addr} {L : List (List Nat)} {j : Nat} {r : List Nat}, Inner H as L → L[j]? = some r → ∃ a, as[j]? = some a ∧ H a = some (.lst (natV r))
  | [], [], _, _, _, h => by simp at h
  | a :: as, q :: L, 0, r, h, e => by
    have : q = r := by simpa using e
    subst this
    exact ⟨a, rfl, h.1⟩
  | a :: as, q :: L, j + 1, r, h, e => by
    obtain ⟨b, h1, h2⟩ := Inner.get h.2 (by simpa using e : L[j]? = some r)
    exact ⟨b, by simpa using h1, h2⟩
  | [], _ :: _, _, _, h, _ => h.elim
  | _ :: _, [], _, _, h, _ => h.elim
theorem Inner.set {H : Hp} {a : Addr} {r' : List Nat} : ∀ {as : List Addr} {L : List (List Nat)} {j : Nat}, as.Nodup → Inner H as L → as[j]? = some a → Inner (upd H a (.lst (natV r'))) as (L.set j r')
  | [], [], _, _, _, h => by simp at h
  | b :: as, q :: L, 0, nd, h, e => by
    have : b = a := by simpa using e
    subst this
    exact ⟨upd_same, Inner.mono (fun c hc o ho => by rw [upd_ne fun z => (List.nodup_cons.mp nd).1 (by rw [← z]; exact hc)]; exact ho) h.2⟩
  | b :: as, q :: L, j + 1, nd, h, e => by
    have e' : as[j]? = some a := by simpa using e
    have ne : b ≠ a := fun z => (List.nodup_cons.mp nd).1 (by rw [z]; exact List.mem_of_getElem? e')
    exact ⟨by rw [upd_ne ne]; exact h.1, Inner.set (List.nodup_cons.mp nd).2 h.2 e'⟩
  | [], _ :: _, _, _, h, _ => h.elim
  | _ :: _, [], _, _, h, _ => h.elim
theorem Inner.snoc {H : Hp} {a : Addr} {r : List Nat} (ha : H a = some (.lst (natV r))) : ∀ {as : List Addr} {L : List (List Nat)}, Inner H as L → Inner H (as ++ [a]) (L ++ [r])
  | [], [], _ => ⟨ha, trivial⟩
  | b :: as, q :: L, h => ⟨h.1, Inner.snoc ha h.2⟩
  | [], _ :: _, h => h.elim
  | _ :: _, [], h => h.elim
theorem natV_rep {M : Addr → Prop} {H : Hp} (r : List Nat) : RepAll M H (natV r) (natsD r) := by
  unfold natV natsD
  induction r with
  | nil => exact .nil
  | cons a r ih => exact .cons (.int _) ih
theorem natV_of {M : Addr → Prop} {H : Hp} {vs : List V} {r : List Nat} (h : RepAll M H vs (natsD r)) : vs = natV r := by
  unfold natsD at h
  unfold natV
  have e : (r.map fun (k : Nat) => D.int (k : Int)) = (r.map fun (k : Nat) => (k : Int)).map D.int := by rw [List.map_map]; rfl
  rw [e] at h
  rw [RepAll.ints h, List.map_map]; rfl
theorem Inner.rep {M : Addr → Prop} {H : Hp} : ∀ {as : List Addr} {L : List (List Nat)}, (∀ a ∈ as, ¬ M a) → Inner H as L → RepAll M H (as.map V.ref) (L.map fun r => .lst (natsD r))
  | [], [], _, _ => .nil
  | a :: as, r :: L, n, h => .cons (.lst (n a (List.mem_cons_self ..)) h.1 (natV_rep r)) (Inner.rep (fun b hb => n b (List.mem_cons_of_mem _ hb)) h.2)
  | [], _ :: _, _, h => h.elim
  | _ :: _, [], _, h => h.elim
/-! ### rows that grow -/
structure GoodL (rows : List (List Nat)) (i : Nat) (L : List (List Nat)) : Prop where
  ne : ∀ r ∈ L, r ≠ []
  ch : ∀ r ∈ L, r.Pairwise fun a b => a < b ∧ Bk.isA rows b a = true
  pm : L.flatten.Perm (List.range i)
theorem flat_set : ∀ {L : List (List Nat)} {j : Nat} {r : List Nat} {x : Nat}, L[j]? = some r → (L.set j (r ++ [x])).flatten.Perm (L.flatten ++ [x])
  | [], _, _, _, h => by simp at h
  | q :: L, 0, r, x, h => by
    have : q = r := by simpa using h
    subst this
    rw [List.set_cons_zero, List.flatten_cons, List.flatten_cons, List.append_assoc, List.append_assoc]
    exact List.Perm.append_left _ List.perm_append_comm
  | q :: L, j + 1, r, x, h => by
    rw [List.set_cons_succ, List.flatten_cons, List.flatten_cons, List.append_assoc]
    exact List.Perm.append_left _ (flat_set (by simpa using h))
theorem GoodL.grow {rows L : List (List Nat)} {i j y : Nat} {r : List Nat} (ok : Bk.RowsOk rows) (g : GoodL rows i L) (hi : i < rows.length) (hr : L[j]? = some r) (hy : r.getLast? = some y) (hA : Bk.isA rows i y = true) : GoodL rows (i + 1) (L.set j (r ++ [i])) := by
  have hrm := List.mem_of_getElem? hr
  refine ⟨fun q hq => ?_, fun q hq => ?_, ?_⟩
  · rcases List.mem_or_eq_of_mem_set hq with z | z
    · exact g.ne q z
    · rw [z]; simp
  · rcases List.mem_or_eq_of_mem_set hq with z | z
    · exact g.ch q z
    · rw [z, List.pairwise_append]
      refine ⟨g.ch r hrm, List.pairwise_singleton _ _, fun a ha b hb => ?_⟩
      rw [List.mem_singleton.mp hb]
      have hlt : a < i := List.mem_range.mp ((g.pm.mem_iff).mp (List.mem_flatten.mpr ⟨r, hrm, ha⟩))
      refine ⟨hlt, ?_⟩
      by_cases e : a = y
      · rw [e]; exact hA
      · have hne : r ≠ [] := g.ne r hrm
        have e2 : r = r.dropLast ++ [y] := by
          have h1 := List.dropLast_concat_getLast hne
          have h2 : r.getLast hne = y := by rw [List.getLast?_eq_some_getLast hne] at hy; exact Option.some.inj hy
          rw [h2] at h1; exact h1.symm
        have ha2 : a ∈ r.dropLast := by
          rw [e2] at ha
          rcases List.mem_append.mp ha with z | z
          · exact z
          · exact absurd (List.mem_singleton.mp z) e
        have hch := g.ch r hrm
        rw [e2, List.pairwise_append] at hch
        exact Bk.isA_trans ok i y a hi hA (hch.2.2 a ha2 y (List.mem_singleton.mpr rfl)).2
  · rw [List.range_succ]
    exact (flat_set hr).trans (List.Perm.append_right _ g.pm)
theorem GoodL.new {rows L : List (List Nat)} {i : Nat} (g : GoodL rows i L) : GoodL rows (i + 1) (L ++ [[i]]) := by
  refine ⟨fun q hq => ?_, fun q hq => ?_, ?_⟩
  · rcases List.mem_append.mp hq with z | z
    · exact g.ne q z
    · rw [List.mem_singleton.mp z]; simp
  · rcases List.mem_append.mp hq with z | z
    · exact g.ch q z
    · rw [List.mem_singleton.mp z]; exact List.pairwise_singleton _ _
  · rw [List.flatten_append, List.flatten_cons, List.flatten_nil, List.append_nil, List.range_succ]
    exact List.Perm.append_right _ g.pm
theorem GoodL.deal {rows L : List (List Nat)} (g : GoodL rows rows.length L) : DealOk rows L :=
  ⟨g.ne, g.ch, g.pm.nodup_iff.mpr List.nodup_range, fun k => by rw [g.pm.mem_iff, List.mem_range]⟩
theorem GoodL.len {rows L : List (List Nat)} {i : Nat} (g : GoodL rows i L) : L.length ≤ i := by
  have := flat_len g.ne
  rw [g.pm.length_eq, List.length_range] at this; exact this
theorem GoodL.row {rows L : List (List Nat)} {i : Nat} (g : GoodL rows i L) {r : List Nat} (hr : r ∈ L) : r.length ≤ i := by
  have := row_len hr
  rw [g.pm.length_eq, List.length_range] at this; exact this
end Pd
namespace Pd
open PySem L2 RZ PyProof.Rows
theorem atI_of' {ds : List V} {j : Nat} {d : V} (h : ds[j]? = some d) : atI ds (j : Int) = some d := by
  have hj := (List.getElem?_eq_some_iff.mp h).1
  unfold atI ixN
  rw [if_pos (by omega), if_pos (by omega)]
  simpa using h
end Pd
namespace Pd
open PySem L2 RZ PyProof.Rows
theorem seq_raw {t u : TS} {D : Ends} {σ : L2.St} {H : Hp} (h : t { D with nx := u D } σ H) : tSeq t u D σ H := h
theorem asg_raw {te : TE} {i : Nat} {D : Ends} {σ : L2.St} {H : Hp} (h : te σ H fun v H' => D.nx (σ.set i (some v)) H') : tAsg te (gName i) D σ H := h
theorem drop_raw {te : TE} {D : Ends} {σ : L2.St} {H : Hp} (h : te σ H fun _ H' => D.nx σ H') : tDrop te D σ H := h
theorem if_raw {tt : TT} {t u : TS} {D : Ends} {σ : L2.St} {H : Hp} (h : tt σ H fun b H' => if b = true then t D σ H' else u D σ H') : tIfS tt t u D σ H := h
theorem for_raw {W : Wd} {G : List Ent} {wi : TI} {KK : List Pd.D → Prop} {X : List Addr} {g : TG} {tb : TS} {D : Ends} {σ : L2.St} {H : Hp} (h : EvI W G wi KK) (E : Env W X H σ G)
    (k : ∀ ds J H' Gd Y, KK ds → Ex W.M H H' → W.inv H' → Walk J ds.length Gd Y → (∀ H2, Ex (mo W (owned G)) H' H2 → Gd H2) →
      (∀ i H2 x H3, Ex (mo W (owned G)) H' H2 → i < ds.length → Y i H2 x H3 → (∀ M : Addr → Prop, Ex M H2 H3) ∧ ∃ d, ds[i]? = some d ∧ ∀ M' : Addr → Prop, (∀ a, M' a → mo W (X ++ owned G) a ∨ H' a = none) → Rep M' H3 x d) →
      ∃ Pv : Nat → L2.St → Hp → Prop, Pv 0 σ H' ∧ (∀ i σ H, i ≤ ds.length → Pv i σ H → Gd H) ∧ (∀ i x σ H H', i < ds.length → Pv i σ H → Y i H x H' → g x σ H' (tb { D with nx := Pv (i + 1), ct := Pv (i + 1), bk := D.nx })) ∧ ∀ σ H, Pv ds.length σ H → D.nx σ H) :
    tFor wi g tb D σ H := h X σ H E _ fun ds J H' Gd Y kk ex inv wk st it => by
  obtain ⟨Pv, h0, hG, hs, hd⟩ := k ds J H' Gd Y kk ex inv wk st it
  exact for_it wk Pv h0 hG hs hd
theorem name_raw {i : Nat} {v : V} {σ : L2.St} {H : Hp} {Q : L2.St → Hp → Prop} (h : Q (σ.set i (some v)) H) : gName i v σ H Q := h
end Pd

namespace Pd
open PySem L2 RZ PyProof.Rows
section
variable {KK : D → Prop}
/-- // by a great divisor -/
theorem opd_divW {i j : Int} (c : CDivW i j) (k : KK (.int (i / j))) : OpD (rI CDivW fun i j => .int (i / j)) (.int i) (.int j) KK := OpD.intC c (fun _ _ => .int _) k
theorem log2_small {n b : Nat} (h : n < 2 ^ b) (h0 : 0 < b) (h9 : b ≤ 9000) : n.log2 < 9000 := Nat.lt_of_lt_of_le (PySem.Flt.log2_lt_of h0 h) h9
/-- xs + ys, lists -/
theorem evl_plusL {W : Wd} {G : List Ent} {ta tb : TE} {KL : List D → Prop} {K : PySem.W.Frag} (h : EvB W G ta fun x => EvB W G tb fun y => ∃ xs ys, x = .lst xs ∧ y = .lst ys ∧ xs.length + ys.length ≤ 100000 ∧ KL (xs ++ ys)) : EvL W G (tOp (rPlus K) ta tb) KL := fun X σ H E Q q =>
  h X σ H E _ fun x v H1 k e1 i1 r1 => k X σ H1 (E.mono e1 i1) _ fun y u H2 k2 e2 i2 r2 => by
    obtain ⟨xs, ys, rfl, rfl, hl, k2⟩ := k2
    obtain ⟨a, vs, rfl, ha, r⟩ := (r1.mono e2).lst
    obtain ⟨b, us, rfl, hb, s⟩ := r2.lst
    exact .inr (.inr (.inl ⟨a, b, vs, us, rfl, rfl, ha, hb, small_le (by rw [r.length, s.length]; exact hl), evl_new E q (e1.trans e2) i2 k2 (r.append s)⟩))
/-- xs.extend(ys) -/
theorem st_ext {W : Wd} {G : List Ent} {te : TE} {E : Post} {K : PySem.W.Frag} {i : Nat} {l : Addr} {ds : List D} (h : G[i]? = some (.own l ds)) (k : Ev W G te fun d => ∃ xs, d = .lst xs ∧ ds.length + xs.length ≤ 100000 ∧ E.nx (G.set i (.own l (ds ++ xs)))) :
    St W G (tDrop (tBM K "list" rExtend (tVar i) (tCons te tNil))) E := fun X N H0 σ H o D m => by
  obtain ⟨e, vs, e1, r⟩ := o.at h
  refine ⟨_, e, .inl ⟨rfl, _, SqL.of e1⟩, k X σ H o.env _ fun d v H' k' ex inv rd => ?_⟩
  have o1 := o.mono ex inv
  obtain ⟨_, vs', e1', r'⟩ := o1.at h
  obtain ⟨xs, rfl, hl, k'⟩ := k'
  cases rd with
  | @lst a us _ nm ha ra =>
    refine ⟨l, a, vs', us, rfl, rfl, e1', ha, small_le (by rw [r'.length, ra.length]; exact hl), ?_⟩
    exact m.nx _ _ _ k' (o1.change h e1' (r'.append ra))
end
/-- an own list, seen as data by a test -/
theorem evt_see {W : Wd} {G : List Ent} {tt : TT} {K : Bool → Prop} (i : Nat) {l : Addr} {ds : List D} (h : G[i]? = some (.own l ds)) (k : EvT W (G.set i (.d (.lst ds))) tt K) : EvT W G tt K := fun X σ H E Q q => k X σ H ((Ok.base E).freeze h).env Q q
/-- by an expression that tells no list -/
theorem ev_see {W : Wd} {G : List Ent} {te : TE} {K : D → Prop} (i : Nat) {l : Addr} {ds : List D} (h : G[i]? = some (.own l ds)) (k : Ev W (G.set i (.d (.lst ds))) te fun d => imm d = true ∧ K d) : Ev W G te K := fun X σ H E Q q =>
  k X σ H ((Ok.base E).freeze h).env Q fun d v H' kd ex inv r => q d v H' kd.2 ex inv (r.keepT (fun _ _ z => z) kd.1)
theorem nodup_lt : ∀ {n : Nat} {l : List Nat}, l.Nodup → (∀ k ∈ l, k < n) → l.length ≤ n
  | 0, l, _, h => by
    cases l with
    | nil => exact Nat.le_refl _
    | cons a l => exact absurd (h a (List.mem_cons_self ..)) (by omega)
  | n + 1, l, nd, h => by
    have h1 : (l.erase n).length ≤ n := nodup_lt (nd.erase n) fun k hk => by
      have := h k (List.mem_of_mem_erase hk)
      have ne : k ≠ n := fun z => by rw [z] at hk; exact (nd.mem_erase_iff.mp hk).1 rfl
      omega
    have h2 : l.length - 1 ≤ (l.erase n).length := by
      rw [List.length_erase]; split <;> omega
    omega
theorem cutD_to {xs : List D} {m : Nat} (h : m ≤ xs.length) : cutD xs none (some (m : Int)) = xs.take m := by
  unfold cutD
  have a : HT.sIx xs.length 0 none = 0 := rfl
  have b : HT.sIx xs.length xs.length (some (m : Int)) = m := by
    rw [HT.sIx_nat]; omega
  rw [a, b]; rfl
theorem getD_set_ne {α : Type} {l : List α} {x a : Nat} {z d : α} (h : a ≠ x) : (l.set x z).getD a d = l.getD a d := by
  rw [List.getD_eq_getElem?_getD, List.getD_eq_getElem?_getD, List.getElem?_set_ne (Ne.symm h)]
theorem getD_set_self {α : Type} {l : List α} {x : Nat} {z d : α} (h : x < l.length) : (l.set x z).getD x d = z := by
  rw [List.getD_eq_getElem?_getD, List.getElem?_set_self h]; rfl
theorem getD_of {α : Type} {l : List α} {x : Nat} {z d : α} (h : l[x]? = some z) : l.getD x d = z := by
  rw [List.getD_eq_getElem?_getD, h]; rfl
theorem of_getD {α : Type} {l : List α} {x : Nat} {d : α} (h : x < l.length) : l[x]? = some (l.getD x d) := by
  rw [List.getD_eq_getElem?_getD, List.getElem?_eq_getElem h]; rfl
/-- ints by place, as data -/
theorem ints_at {ms : List Int} {k : Nat} (h : k < ms.length) : ixD (.lst (ms.map D.int)) ((k : Nat) : Int) = some (.int (ms.getD k 0)) := atI_of (by rw [List.getElem?_map, of_getD (d := 0) h]; rfl)
theorem nats_at {l : List Nat} {k : Nat} (h : k < l.length) : ixD (.lst (natsD l)) ((k : Nat) : Int) = some (.int (l.getD k 0 : Nat)) := atI_of (natsD_get (of_getD h))
/-! ### numbers of kinds that rise in each line -/
structure NumOk (L : List (List Nat)) (n : Nat) (ms : List Int) : Prop where
  len : ms.length = n
  up : ∀ r ∈ L, r.Pairwise fun a b => ms.getD a 0 < ms.getD b 0
  bd : ∀ k, (ms.getD k 0).natAbs < 2 ^ 250
/-! ### == of schemes -/
theorem toP_rowI (r : List Int) : toP (rowI r) = .tuple (r.map fun (i : Int) => PyData.int i) := by
  show PyData.tuple (toPs (r.map D.int)) = _
  rw [toPs_map]; rfl
theorem toP_tr (t : Tr) : toP (trD t) = .tuple [.int (t.1 : Nat), .int t.2.1, .tuple (t.2.2.map fun (i : Int) => PyData.int i)] := by
  show PyData.tuple [toP (.int (t.1 : Nat)), toP (.int t.2.1), toP (rowI t.2.2)] = _
  rw [toP_rowI]; rfl
theorem toP_sc (sc : List Tr) : toP (scD sc) = .tuple (sc.map fun t => toP (trD t)) := by
  show PyData.tuple (toPs (sc.map trD)) = _
  rw [toPs_map]
theorem plain_sc (sc : List Tr) : plain (scD sc) = true := by
  show plains (sc.map trD) = true
  refine plains_map _ (fun t => ?_) sc
  show plains [.int (t.1 : Nat), .int t.2.1, rowI t.2.2] = true
  have h : plain (rowI t.2.2) = true := plains_map D.int (fun _ => rfl) t.2.2
  simp only [plains, plain, h, Bool.and_self]
theorem ok_scD (sc : List Tr) : okD (scD sc) = true := by
  have row : ∀ r : List Int, PyData.canLayAll0 (r.map fun (i : Int) => PyData.int i) = true := fun r => lay_all _ (fun _ => rfl) r
  have rd : ∀ r : List Int, (PyData.tuple (r.map fun (i : Int) => PyData.int i)).depth ≤ 1 := fun r => by
    show PyData.depthAll _ + 1 ≤ 1
    have := depth_all (fun (i : Int) => PyData.int i) 0 (fun _ => Nat.le_refl _) r
    omega
  have l1 : ∀ t : Tr, (toP (trD t)).canLay0 = true := fun t => by
    rw [toP_tr]
    show (PyData.canLayAll0 [_, _, _]) = true
    simp only [PyData.canLayAll0, row, PyData.canLay0, Bool.and_self]
  have d1 : ∀ t : Tr, (toP (trD t)).depth ≤ 2 := fun t => by
    rw [toP_tr]
    show PyData.depthAll [_, _, _] + 1 ≤ 2
    have := rd t.2.2
    simp only [PyData.depthAll, PyData.depth] at this ⊢
    omega
  have l2 : (toP (scD sc)).canLay0 = true := by
    rw [toP_sc]
    show PyData.canLayAll0 _ = true
    exact lay_all _ l1 sc
  have d2 : (toP (scD sc)).depth ≤ 3 := by
    rw [toP_sc]
    show PyData.depthAll _ + 1 ≤ 3
    have := depth_all (fun t => toP (trD t)) 2 d1 sc
    omega
  unfold okD
  rw [plain_sc]
  show (PyData.canLay0 _ && decide _) = true
  rw [l2]
  simp; omega
theorem eqv_int (a b : Int) : PyData.eqv (.int a) (.int b) = decide (a = b) := eqD_ints a b
theorem eqv_tr (a b : Tr) : PyData.eqv (toP (trD a)) (toP (trD b)) = decide (a = b) := by
  rw [toP_tr, toP_tr]
  show PyData.eqvAll [_, _, _] [_, _, _] = _
  have h3 : PyData.eqv (.tuple (a.2.2.map fun (i : Int) => PyData.int i)) (.tuple (b.2.2.map fun (i : Int) => PyData.int i)) = decide (a.2.2 = b.2.2) := eqv_map _ eqv_int _ _
  have h1 : PyData.eqv (.int (a.1 : Nat)) (.int (b.1 : Nat)) = decide (a.1 = b.1) := eqD_nat a.1 b.1
  simp only [PyData.eqvAll, h3, h1, eqv_int, Bool.and_true]
  obtain ⟨a1, a2, a3⟩ := a
  obtain ⟨b1, b2, b3⟩ := b
  simp only [Prod.mk.injEq]
  by_cases h1 : a1 = b1 <;> by_cases h2 : a2 = b2 <;> by_cases h3 : a3 = b3 <;> simp [h1, h2, h3]
theorem eqD_sc (a b : List Tr) : eqD (scD a) (scD b) = decide (a = b) := by
  unfold eqD
  rw [toP_sc, toP_sc]
  exact eqv_map _ eqv_tr a b
end Pd

/-! Exceptions: raised, let out, caught. -/
namespace L2
open PySem PySem.Spec PyProof.Rows
section
variable {X : Cx}
theorem PS.nox {s : Stmt} {t : TS} (h : PS X.nox s t) : PS X s t := ⟨fun pins s σ H D I hw =>
  wpAny_mono (h.run pins s σ H D (I.wish _) hw) (fun _ _ q => q.unwish) fun _ _ z => False.elim z⟩
/-! ### raise C(), C an own class over ValueError whose __init__ does nothing -/
/-- what an __init__ that does nothing promises -/
def spPass : Sp := fun vs H Q _ => ∃ a, vs = [.ref a] ∧ Q .non H
/-- a class that may be raised: C() -/
def XNew (P : Program) (w : World) (K : PySem.W.Frag) (mg : Str → Option Value) (base : Heap) (lv : Nat) (x : Str) (C : Addr) : Prop :=
  mg x = some (.ref C) ∧ OexC K C ∧ ∃ fI fd ps, PySem.W.findIn K (.ref C) "__init__" = some (some (.ref fI)) ∧ PySem.W.typeIn K (.ref fI) = some (.type "function") ∧ FnOk P w K mg base CX0 lv fI fd ps spPass ∧ Binds K fd ps []
theorem mk_endN {pins : List (Addr × Obj)} {σ : St} {H1 H2 : Hp} {Q : XK} {hp hp2 h2 : Heap} {g1 g2 : Array GenState} {d1 d2 : Drawn} {t1 t2 : Nat} {os1 os2 : OsState} {a C : Addr} (T : Raises X (.ref C)) (I1 : Inv X pins σ H1 ⟨hp, g1, d1, t1, os1⟩)
    (ha : hp.objs.size ≤ a) (k : ∀ b o, hp.get? b = some o → hp2.get? b = some o) (un : Un (frs X.stack) [] (upd H1 a (exo a C none)) H2 hp2 h2) (hok : HOk X.prog X.w H2 h2) (ho : os2 = os1) (hb : AllBare g2)
    (ea : H2 a = some (exo a C none)) (q : Q (.ref C) none (del H2 a)) : MkP X pins σ Q (.ref a) ⟨h2, g2, d2, t2, os2⟩ := by
  obtain ⟨t0, hoe⟩ := exo_at hok ea
  have hn : H1 a = none := I1.hok.fresh ha
  obtain ⟨G, g1', g2'⟩ := restrict h2 fun b => decide (b ≠ a)
  have gk : ∀ b, b ≠ a → G.get? b = h2.get? b := fun b hb => g1' b (decide_eq_true hb)
  have ge : G.get? a = none := g2' a (by simp)
  have nha : ∀ {b : Addr} {o : Obj}, hp.get? b = some o → b ≠ a := fun {b o} z => Nat.ne_of_lt (Nat.lt_of_lt_of_le (Heap.lt_size z) ha)
  have up : ∀ {b : Addr}, b ≠ a → H1 b = none → upd H1 a (exo a C none) b = none := fun {b} hb n => by rw [upd_ne hb]; exact n
  have U : Un (frs X.stack) [] H1 (del H2 a) hp G := {
    keep := fun b o z n hf hx => by
      rw [gk b (nha z)]
      exact un.keep b o (k b o z) (up (nha z) n) hf hx
    slot := fun b o z n hf hx => by
      rw [gk b (nha z)]
      exact un.slot b o (k b o z) (up (nha z) n) hf hx
    free := fun b o z n hx => by
      rw [del_ne (nha z)]
      exact un.free b o (k b o z) (up (nha z) n) hx
    there := fun b o z hx => by
      rw [gk b (nha z)]
      exact un.there b o (k b o z) hx
    tups := fun b xs z => by
      rw [del_ne (ne_of_none z hn)]
      exact un.tups b xs (by rw [upd_ne (ne_of_none z hn)]; exact z)
    frzs := fun b o v z => by
      rw [del_ne (ne_of_none z hn)]
      exact un.frzs b o v (by rw [upd_ne (ne_of_none z hn)]; exact z)
    tbls := fun b ps z => by
      rw [del_ne (ne_of_none z hn)]
      exact un.tbls b ps (by rw [upd_ne (ne_of_none z hn)]; exact z) }
  have hok3 : HOk X.prog X.w (del H2 a) G := fun b o z => by
    have hba : b ≠ a := fun e => by
      rw [e, del_same] at z
      cases z
    rw [del_ne hba] at z
    have noa : ∀ {c : Addr}, H2 c = some (.own b) → c ≠ a := fun {c} hc => at_ne ea hc exo_own
    exact (hok b o z).stay (fun c v hc y => by
        have hca : c ≠ a := by
          rcases hc with hc | hc
          · rw [hc]
            exact hba
          · exact noa hc
        rw [gk c hca]
        exact y)
      (fun c hc => by rw [del_ne (noa hc)]; exact hc) (fun c xs hc => by rw [del_ne (at_ne ea hc exo_tup)]; exact hc)
  have J : Inv X pins σ (del H2 a) ⟨G, g2, d2, t2, os2⟩ := I1.call' (ch := []) ho U hok3 hb (fun b z => absurd z (by simp))
  refine ⟨a, _, _, ⟨G, g2, d2, t2, os2⟩, _, .ref C, none, rfl, J, fun b o z => ?_, ge, hoe, ⟨rfl, rfl⟩, rfl, rfl, del_same, rfl, hb, T, q⟩
  by_cases hba : b = a
  · rw [hba, ge] at z
    cases z
  · exact (gk b hba).symm.trans z
theorem del_upd {H : Hp} {a : Addr} {o : HO} (h : H a = none) : del (upd H a o) a = H := by
  funext b
  by_cases hb : b = a
  · rw [hb, del_same, h]
  · rw [del_ne hb, upd_ne hb]
theorem pmk_x0 {lv : Nat} {x : Str} {C : Addr} {p pos : Pos} (N : XNew X.prog X.w X.K X.mg X.base lv x C) (hr : Room (lv + 1) X.A) (hg : Gl X x) (hdb : (x == ("__debug__" : Str)) = false := by decide) :
    PMk X (.Call (.Name x p) [] [] pos) (fun _ H Q => Q (.ref C) none H) := by
  intro pins s σ H Q I h
  obtain ⟨hm, T, fI, fd, ps, iC, tI, F1, hb⟩ := N
  obtain ⟨nm, q, N, bs, bm, sn, sub, ab, col, dd, k0, k1, k2, k3, k5, hC, hbm⟩ := T.cls
  refine wpAny_Call_Name_kw (ld_glob I hg hm ?_ hdb)
  refine PySem.W.callWith_K0 I.kIn T.kC ?_
  show wpAny _ _ (call (.ref C) []) _ _ _
  obtain ⟨hp, g, dr, tk, os⟩ := s
  have hsz : hp.objs.size ≤ hp.objs.size + 1 := Nat.le_succ _
  have hn : H (hp.objs.size + 1) = none := I.hok.fresh hsz
  have kk : ∀ b o, hp.get? b = some o → ((hp.push (PySem.W.kdv_tup [])).push (PySem.HandSPX.excO C hp.objs.size)).get? b = some o := fun b o e => Heap.get?_push_of_some _ (Heap.get?_push_of_some _ e)
  have hget : ((hp.push (PySem.W.kdv_tup [])).push (PySem.HandSPX.excO C hp.objs.size)).get? (hp.objs.size + 1) = some (PySem.HandSPX.excO C hp.objs.size) := by heap_get
  have I2 : Inv X pins σ (upd H (hp.objs.size + 1) (exo (hp.objs.size + 1) C none)) ⟨(hp.push (PySem.W.kdv_tup [])).push (PySem.HandSPX.excO C hp.objs.size), g, dr, tk, os⟩ :=
    I.laid (t' := tk) (a := hp.objs.size + 1) (o := exo (hp.objs.size + 1) C none) (h' := (hp.push (PySem.W.kdv_tup [])).push (PySem.HandSPX.excO C hp.objs.size)) kk hsz (exo_ok hget)
  have r2 : Vals [V.ref (hp.objs.size + 1)] [Value.ref (hp.objs.size + 1)] := .cons rfl .nil
  have hq : spPass [V.ref (hp.objs.size + 1)] (upd H (hp.objs.size + 1) (exo (hp.objs.size + 1) C none)) (fun v H2 => v = .non ∧ H2 = upd H (hp.objs.size + 1) (exo (hp.objs.size + 1) C none)) (fun _ _ _ => False) := ⟨_, rfl, rfl, rfl⟩
  have hl : [Value.ref (hp.objs.size + 1)].length = ps.length := by
    have e := r2.length
    rw [F1.len _ _ _ _ hq] at e
    exact e.symm
  have bnd := hb ⟨(hp.push (PySem.W.kdv_tup [])).push (PySem.HandSPX.excO C hp.objs.size), g, dr, tk, os⟩ [Value.ref (hp.objs.size + 1)] I2.kIn (by rw [List.append_nil]; exact hl)
  rw [List.append_nil] at bnd
  refine wpAny_call (PySem.HandSPX.call_own F.excBase_ValueError (fun Y => PySem.HandSPX.refsVE_contains Y bm hbm) (I.kIn _ _ hC) (PySem.W.looks_findIn I.kIn iC) (fun self => PySem.W.bind_fn I.kIn self tI) (by rw [sizeLine_eq]; decide)
    (codeAny_mono (F1.run _ X.stack _ _ ⟨[Value.ref (hp.objs.size + 1)], []⟩ [Value.ref (hp.objs.size + 1)] _ _ (fun _ _ _ => False) (hr.make C [] []) (I2.env0.make C [] []) bnd r2 hq) fun r s' hq' => ?_))
  cases r with
  | error er => exact False.elim hq'
  | ok fl =>
    cases fl with
    | ret u =>
      obtain ⟨v, H2, os2, bare2, un2, hok2, rv, ev, eH⟩ := hq'
      subst ev
      subst eH
      obtain ⟨h2, g2, d2, t2, os'⟩ := s'
      exact ⟨rv, mk_endN (raises_own T.exC T.tyC) I hsz kk un2 hok2 os2 bare2 upd_same (by rw [del_upd hn]; exact h)⟩
    | next => exact False.elim hq'
    | brk => exact False.elim hq'
    | cont => exact False.elim hq'
/-- raise C() -/
def tRaise0 (C : Addr) (W : WX) : TS := fun _ σ H => W (.ref C) none σ H
theorem ps_raise0 {lv : Nat} {x : Str} {C : Addr} {p pos pos2 : Pos} {W : WX} (hc : X.calm = true) (tk : Takes X W) (N : XNew X.prog X.w X.K X.mg X.base lv x C) (hr : Room (lv + 1) X.A) (hg : Gl X x) (hdb : (x == ("__debug__" : Str)) = false := by decide) :
    PS X (.Raise (some (.Call (.Name x p) [] [] pos)) none pos2) (tRaise0 C W) := ps_raise hc tk (pmk_x0 N hr hg hdb)
/-- truth in an except suite -/
theorem pt_truthS {a : Expr} {ta : TE} {K' : PySem.W.Frag} (hK : X.K = K') (ha : PE X a ta) (he : ∀ whole, isTrue a X.env whole = (do let v ← whole; standAt a.pos; holding [v] (truthy v))) :
    PT X a (fun σ H Q => ta σ H fun x H' => ∃ k, TruV K' x H' k ∧ Q k H') := by subst hK; exact pt_truth ha he
/-- isinstance(e, c) in an except suite, e the exception, without fields -/
def rIsEG (K : PySem.W.Frag) (a : Addr) (cls : Value) (d : Option Addr) : List V → Hp → VK → Prop := fun xs H Q => ∃ D, cls = .ref D ∧ d = none ∧ ExcC K D ∧ rIsE K D a xs H Q
theorem call_isEG {a : Addr} {oe : Obj} {cls : Value} {d : Option Addr} {pn : List (Addr × Obj)} (hz : Zc cls d oe) (hf : ∃ vs, oe.data = .fields vs) : CallR (X.suite a ((a, oe) :: pn)) (.builtin "isinstance") (rIsEG X.K a cls d) := by
  intro pins s σ H xs us Q I r h
  obtain ⟨D, rfl, rfl, C, h⟩ := h
  exact call_isE C hz hf pins s σ H xs us Q I r h
end
end L2
namespace Pd
open PySem L2 RZ PyProof.Rows
/-! ### defs that may raise, as their callers see them -/
def HasX (P : Program) (w : World) (K : PySem.W.Frag) (mg : Str → Option Value) (base : Heap) (lv : Nat) (x : Str) (ps : List Str) (sp : Sp) : Prop :=
  ∃ f fd, mg x = some (.ref f) ∧ PySem.W.keepIn K (.ref f) = true ∧ Binds K fd ps [] ∧ FnOk P w K mg base (L2.CX P w) lv f fd ps sp
section
variable {X : Cx} {lv : Nat} {x : Str} {ps : List Str} {sp : Sp} {e : Expr} {es : List Expr} {t : TA} {p pos : Pos} {W : WX}
/-- called where it raises nothing -/
theorem pe_hasX (h : HasX X.prog X.w X.K X.mg X.base lv x ps sp) (hr : Room lv X.A) (ha : PA X (e :: es) t) (hg : Gl X x := by rfl)
    (hdb : (x == ("__debug__" : Str)) = false := by decide) (he : starEach (e :: es) X.env = (false, eval e X.env) :: starEach es X.env := by rfl) (hpl : (backTo pos (starEach es X.env)).any (·.1) = false := by rfl) :
    PE X (.Call (.Name x p) (e :: es) [] pos) (tCall sp [] E0 t) := by
  obtain ⟨f, fd, hm, hk, hb, F⟩ := h
  exact pe_call F hr hg hm hk hb .nil passL ha hdb he hpl
/-- called where what it raises goes on -/
theorem pe_hasS (tk : Takes X W) (h : HasX X.prog X.w X.K X.mg X.base lv x ps sp) (hr : Room lv X.A) (ha : PA X (e :: es) t) (hg : Gl X x := by rfl)
    (hdb : (x == ("__debug__" : Str)) = false := by decide) (he : starEach (e :: es) X.env = (false, eval e X.env) :: starEach es X.env := by rfl) (hpl : (backTo pos (starEach es X.env)).any (·.1) = false := by rfl) :
    PE X (.Call (.Name x p) (e :: es) [] pos) (tCallS sp (WE W) t) := by
  obtain ⟨f, fd, hm, hk, hb, F⟩ := h
  exact pe_callS F hr hg hm hk hb (fun σ => passAt tk σ) ha hdb he hpl
end
abbrev KX := Addr → List (Str × D) → Prop
/-- the promise of a def that may raise -/
def FSpX (pre : Wd → List Ent → (D → Prop) → KX → Prop) : Sp := fun vs H Q E => ∃ W X es K KE, pre W es K KE ∧ W.inv H ∧ (∀ l ∈ X, ¬ W.M l ∧ ∃ o, H l = some o) ∧ EntVs (mo W X) H vs es ∧ owned es = [] ∧
  (∀ d v H', K d → Ex W.M H H' → W.inv H' → Rep (mo W X) H' v d → Q v H') ∧ ∀ C fs d H', KE C fs → Ex W.M H H' → W.inv H' → ExR (mo W X) H' d fs → E (.ref C) d H'
theorem fn_startX {N ps : List Str} {t : TS} {pre : Wd → List Ent → (D → Prop) → KX → Prop} {vs : List V} {H : Hp} {Q : VK} {E : XK}
    (hb : ∀ W es K KE, pre W es K KE → es.length = ps.length ∧ St W (es ++ List.replicate (N.length - es.length) .no) t { nx := fun _ => K .non, rt := K, ex := fun _ => KE, wx := fun cls d _ H => E cls d H }) (h : FSpX pre vs H Q E) :
    t { nx := fun _ H' => Q .non H', rt := Q } (L2.start N vs) H := by
  obtain ⟨W, X, es, K, KE, hp, inv, hX, hv, ho, q, qe⟩ := h
  obtain ⟨hl, hs⟩ := hb W es K KE hp
  have ow : owned (es ++ List.replicate (N.length - es.length) .no) = [] := by rw [owned_append, ho, owned_rep]; rfl
  have en : Env W X H (L2.start N vs) (es ++ List.replicate (N.length - es.length) .no) := by
    refine ⟨?_, by rw [ow]; exact List.nodup_nil, fun l hl => (by rw [ow] at hl; cases hl), hX, inv⟩
    unfold L2.start
    rw [ow, hv.length, List.append_nil]
    exact ents_of hv _
  have wk : ∀ a, mo W [] a → W.M a := fun a m => m.elim id fun z => nomatch z
  refine hs X [] H _ H ⟨en, Ex.refl _ _, fun l hl => (by rw [ow] at hl; cases hl)⟩ _ ⟨fun G σ H' k o => ?_, fun _ _ _ z => z.elim, fun _ _ _ z => z.elim, fun d v H' k ex inv r => q d v H' k (ex.weak wk) inv r, fun G C fs d σ H' k o r => ?_, fun _ _ _ _ z => z.elim⟩
  · exact q .non .non H' k (o.ex.weak wk) o.env.inv .non
  · exact qe C fs d H' k (o.ex.weak wk) o.env.inv (r.less fun a m => m.imp id fun z => List.mem_append_left _ z)
theorem fn_lenX {pre : Wd → List Ent → (D → Prop) → KX → Prop} {n : Nat} (hb : ∀ W es K KE, pre W es K KE → es.length = n) {vs : List V} {H : Hp} {Q : VK} {E : XK} (h : FSpX pre vs H Q E) : vs.length = n := by
  obtain ⟨W, X, es, K, KE, hp, inv, hX, hv, ho, q⟩ := h
  rw [hv.length, hb W es K KE hp]
/-- an expression that may raise -/
def EvX (Wx : WX) (W : Wd) (G : List Ent) (te : TE) (K : D → Prop) (KE : KX) : Prop := ∀ X σ H, Env W X H σ G → ∀ Q : VK, (∀ d v H', K d → Ex W.M H H' → W.inv H' → Rep (mo W (X ++ owned G)) H' v d → Q v H') →
  (∀ C fs d H', KE C fs → Ex W.M H H' → W.inv H' → ExR (mo W (X ++ owned G)) H' d fs → Wx (.ref C) d σ H') → te σ H Q
section
variable {W : Wd} {G : List Ent} {te : TE} {ta : TA} {K : PySem.W.Frag} {KK : D → Prop} {KE : KX} {E : Post} {Wx : WX} {pre : Wd → List Ent → (D → Prop) → KX → Prop}
theorem Ev.x (h : Ev W G te KK) : EvX Wx W G te KK KE := fun X σ H E Q q _ => h X σ H E Q q
theorem ev_callX (h : EvA W G ta fun es => owned es = [] ∧ pre W es KK fun _ _ => False) : Ev W G (tCall (FSpX pre) [] E0 ta) KK := fun X σ H E Q q =>
  h X σ H E _ fun es vs H' k ho ex inv r => by
    have E1 := E.mono ex inv
    rw [List.append_nil]
    refine ⟨W, X ++ owned G, es, KK, _, k.2, inv, fun l hl => ?_, r, k.1, fun d v H2 k2 ex2 inv2 r2 => q d v H2 k2 (ex.trans ex2) inv2 r2, fun C fs d H' z _ _ _ => z.elim⟩
    rcases List.mem_append.mp hl with z | z
    · exact E1.xs l z
    · exact ⟨(E1.ap l z).1, mo_there E1 l (.inr (List.mem_append_right _ z))⟩
theorem evx_call (h : EvA W G ta fun es => owned es = [] ∧ pre W es KK KE) : EvX Wx W G (tCallS (FSpX pre) (WE Wx) ta) KK KE := fun X σ H E Q q qe =>
  h X σ H E _ fun es vs H' k ho ex inv r => by
    have E1 := E.mono ex inv
    refine ⟨W, X ++ owned G, es, KK, KE, k.2, inv, fun l hl => ?_, r, k.1, fun d v H2 k2 ex2 inv2 r2 => q d v H2 k2 (ex.trans ex2) inv2 r2, fun C fs d H2 k2 ex2 inv2 r2 => qe C fs d H2 k2 (ex.trans ex2) inv2 r2⟩
    rcases List.mem_append.mp hl with z | z
    · exact E1.xs l z
    · exact ⟨(E1.ap l z).1, mo_there E1 l (.inr (List.mem_append_right _ z))⟩
theorem st_dropX (h : EvX E.wx W G te (fun _ => E.nx G) (E.ex G)) : St W G (tDrop te) E := fun X N H0 σ H o D m =>
  h X σ H o.env _ (fun d v H' k ex inv r => m.nx _ _ H' k (o.mono ex inv)) fun C fs d H' k ex inv r => m.ex G C fs d σ H' k (o.mono ex inv) r
theorem st_asgX {i : Nat} (h : EvX E.wx W G te (fun d => E.nx (G.set i (.d d))) (E.ex G)) : St W G (tAsg te (gName i)) E := fun X N H0 σ H o D m =>
  h X σ H o.env _ (fun d v H' k ex inv r => m.nx _ _ H' k ((o.mono ex inv).put r)) fun C fs d H' k ex inv r => m.ex G C fs d σ H' k (o.mono ex inv) r
theorem st_retX (h : EvX E.wx W G te E.rt (E.ex G)) : St W G (tRet te) E := fun X N H0 σ H o D m =>
  h X σ H o.env _ (fun d v H' k ex inv r => m.rt d v H' k (o.ex.trans ex.up) inv (r.less fun _ q => q.imp id fun z => List.mem_append_left _ z)) fun C fs d H' k ex inv r => m.ex G C fs d σ H' k (o.mono ex inv) r
theorem st_raise0 {C : Addr} (h : E.ex G C []) : St W G (tRaise0 C E.wx) E := fun X N H0 σ H o D m => m.ex G C [] none σ H h o (.inl ⟨rfl, rfl⟩)
/-- try: body, except c as n: suite -/
theorem st_tryAs {c : Value} {i : Nat} {tb : WX → TS} {ts : Addr → Value → Option Addr → TS} (KB : List Ent → KX) (hb : ∀ Wx, St W G (tb Wx) { E with ex := KB, wx := Wx })
    (hs : ∀ G' C fs, KB G' C fs → ∃ b, PySem.W.exmOne K (.ref C) c = some b ∧ (b = true → ∀ a d, (d = none ↔ fs = []) → St W (G'.set i (.raw (.ref a))) (ts a (.ref C) d) { nx := fun G2 => E.nx (G2.set i .no), rt := E.rt, rl := E.rl, bk := fun G2 => E.bk (G2.set i .no), ct := fun G2 => E.ct (G2.set i .no) }) ∧ (b = false → E.ex G' C fs)) :
    St W G (fun D σ H => tb (wAs K c i ts E.wx D) D σ H) E := fun X N H0 σ H o D m =>
  hb (wAs K c i ts E.wx D) X N H0 σ H o D ⟨m.nx, m.bk, m.ct, m.rt, fun G' C fs d σ' H' k o' r => by
    obtain ⟨b, e, ht, hf⟩ := hs G' C fs k
    refine ⟨b, e, fun hb a ha => ?_, fun hb => m.ex G' C fs d σ' H' (hf hb) o' r⟩
    have hd : d = none ↔ fs = [] := by
      rcases r with ⟨r1, r2⟩ | ⟨dd, vs, r1, r2, r3⟩
      · rw [r1, r2]; exact ⟨fun _ => rfl, fun _ => rfl⟩
      · subst r1
        exact ⟨(fun z => nomatch z), fun z => absurd z r2⟩
    refine ht hb a d hd X N H0 _ H' o'.putRaw _ ⟨fun G2 σ2 H2 k2 o2 => m.nx _ _ H2 k2 o2.putNo, fun G2 σ2 H2 k2 o2 => m.bk _ _ H2 k2 o2.putNo, fun G2 σ2 H2 k2 o2 => m.ct _ _ H2 k2 o2.putNo, m.rt, fun _ _ _ _ _ _ z => z.elim, m.rl⟩, m.rl⟩
/-- isinstance(e, c) -/
theorem ev_isE {a D : Addr} {i : Nat} {v : V} {cv : Value} {b : Bool} (hG : G[i]? = some (.raw (.ref a))) (ec : ExcC K D) (hc : ∀ u, RelV v u → u = cv) (hk : PySem.W.kitOne K (.ref D) cv = some b) (k : KK (.bl b)) :
    Ev W G (tCB (rIsEG K a (.ref D) none) (tCons (tVar i) (tCons (tC v) tNil))) KK := fun X σ H E Q q => by
  obtain ⟨x, e, r⟩ := E.ok.get hG
  cases r
  exact ⟨_, e, D, rfl, rfl, ec, v, cv, b, rfl, hc, hk, q _ _ H k (Ex.refl _ _) E.inv (.bl b)⟩
end
end Pd

/-! Defs that tell a new list; defs that change a list of their caller; a, b, c = x, y, z. -/
namespace Pd
open PySem L2 RZ PyProof.Rows
/-- the promise of a def that tells a new list -/
def FSpL (pre : Wd → List Ent → (List D → Prop) → Prop) : Sp := fun vs H Q _ => ∃ W X es K, pre W es K ∧ W.inv H ∧ (∀ l ∈ X, ¬ W.M l ∧ ∃ o, H l = some o) ∧ EntVs (mo W X) H vs es ∧ owned es = [] ∧
  ∀ ds p us H', K ds → H p = none → Ex W.M H H' → W.inv H' → H' p = some (.lst us) → ¬ W.M p → RepAll (fun a => a = p ∨ mo W X a) H' us ds → Q (.ref p) H'
theorem fn_startL {N ps : List Str} {t : TS} {pre : Wd → List Ent → (List D → Prop) → Prop} {vs : List V} {H : Hp} {Q : VK} {E : XK}
    (hb : ∀ W es K, pre W es K → es.length = ps.length ∧ St W (es ++ List.replicate (N.length - es.length) .no) t { nx := fun _ => False, rt := fun _ => False, rl := K }) (h : FSpL pre vs H Q E) :
    t { nx := fun _ H' => Q .non H', rt := Q } (L2.start N vs) H := by
  obtain ⟨W, X, es, K, hp, inv, hX, hv, ho, q⟩ := h
  obtain ⟨hl, hs⟩ := hb W es K hp
  have ow : owned (es ++ List.replicate (N.length - es.length) .no) = [] := by rw [owned_append, ho, owned_rep]; rfl
  have en : Env W X H (L2.start N vs) (es ++ List.replicate (N.length - es.length) .no) := by
    refine ⟨?_, by rw [ow]; exact List.nodup_nil, fun l hl => (by rw [ow] at hl; cases hl), hX, inv⟩
    unfold L2.start
    rw [ow, hv.length, List.append_nil]
    exact ents_of hv _
  exact hs X [] H _ H ⟨en, Ex.refl _ _, fun l hl => (by rw [ow] at hl; cases hl)⟩ _ ⟨fun _ _ _ z => z.elim, fun _ _ _ z => z.elim, fun _ _ _ z => z.elim, fun _ _ _ z => z.elim, fun _ _ _ _ _ _ z => z.elim, fun ds p us H' k hp ex inv e nM nX r =>
    q ds p us H' k (hp.elim id fun z => nomatch z) (ex.weak fun a m => m.elim id fun z => nomatch z) inv e nM r⟩
theorem fn_lenL {pre : Wd → List Ent → (List D → Prop) → Prop} {n : Nat} (hb : ∀ W es K, pre W es K → es.length = n) {vs : List V} {H : Hp} {Q : VK} {E : XK} (h : FSpL pre vs H Q E) : vs.length = n := by
  obtain ⟨W, X, es, K, hp, inv, hX, hv, ho, q⟩ := h
  rw [hv.length, hb W es K hp]
section
variable {W : Wd} {G : List Ent} {ta : TA} {tt : TA} {KL : List D → Prop} {E : Post} {pre : Wd → List Ent → (List D → Prop) → Prop}
theorem evl_call {E : XK} (h : EvA W G ta fun es => owned es = [] ∧ pre W es KL) : EvL W G (tCall (FSpL pre) [] E ta) KL := fun X σ H En Q q =>
  h X σ H En _ fun es vs H' k ho ex inv r => by
    have E1 := En.mono ex inv
    rw [List.append_nil]
    refine ⟨W, X ++ owned G, es, KL, k.2, inv, fun l hl => ?_, r, k.1, fun ds p us H2 k2 hp ex2 inv2 e nM r2 => q ds p us H2 k2 (ex.none hp) (ex.trans ex2) inv2 e nM r2⟩
    rcases List.mem_append.mp hl with z | z
    · exact E1.xs l z
    · exact ⟨(E1.ap l z).1, mo_there E1 l (.inr (List.mem_append_right _ z))⟩
/-- a, b, c = x, y, z -/
theorem st_par3 {i j l : Nat} (h : EvA W G tt fun es => ∃ x y z, es = [.d x, .d y, .d z] ∧ E.nx (((G.set i (.d x)).set j (.d y)).set l (.d z))) : St W G (tPar3 i j l tt) E := fun X N H0 σ H o D m =>
  h X σ H o.env _ fun es vs H' ⟨x, y, z, he, k⟩ _ ex inv r => by
    subst he
    cases r with
    | @cons v _ _ _ r1 r =>
    cases r with
    | @cons u _ _ _ r2 r =>
    cases r with
    | @cons w _ _ _ r3 r =>
    cases r
    have o1 := o.mono ex inv
    have o2 := o1.put (i := i) (show Rep (mo W (X ++ owned G)) H' v x from r1)
    have s := owned_set (G := G) (i := i) (e := .d x) rfl
    have r2' : Rep (mo W (X ++ owned (G.set i (.d x)))) H' u y := (show Rep (mo W (X ++ owned G)) H' u y from r2).less (mo_sub (List.append_subset.mpr ⟨List.subset_append_left _ _, fun a h => List.mem_append_right _ (s.subset h)⟩))
    have o3 := o2.put (i := j) r2'
    have s2 := owned_set (G := G.set i (.d x)) (i := j) (e := .d y) rfl
    have r3' : Rep (mo W (X ++ owned ((G.set i (.d x)).set j (.d y)))) H' w z := (show Rep (mo W (X ++ owned G)) H' w z from r3).less (mo_sub (List.append_subset.mpr ⟨List.subset_append_left _ _, fun a h => List.mem_append_right _ (s.subset (s2.subset h))⟩))
    exact ⟨v, u, w, rfl, m.nx _ _ _ k (o3.put r3')⟩
/-- a, b, c = x, y, a new list -/
theorem st_par3L {i j l : Nat} {t1 t2 t3 : TE} (h : Ev W G t1 fun x => Ev W G t2 fun y => EvL W G t3 fun ds => ∀ p, E.nx (((G.set i (.d x)).set j (.d y)).set l (.own p ds))) : St W G (tPar3 i j l (tCons t1 (tCons t2 (tCons t3 tNil)))) E := fun X N H0 σ H o D m =>
  h X σ H o.env _ fun x v H1 k1 ex1 inv1 r1 => by
    have o1 := o.mono ex1 inv1
    refine k1 X σ H1 o1.env _ fun y u H2 k2 ex2 inv2 r2 => ?_
    have o2 := o1.mono ex2 inv2
    refine k2 X σ H2 o2.env _ fun ds p vs H3 k3 n ex3 inv3 e nm r3 => ?_
    have r1' : Rep (mo W (X ++ owned G)) H2 v x := r1.mono ex2 fun _ m => .inl m
    have q1 := o2.put (i := i) r1'
    have s := owned_set (G := G) (i := i) (e := .d x) rfl
    have r2' : Rep (mo W (X ++ owned (G.set i (.d x)))) H2 u y := r2.less (mo_sub (List.append_subset.mpr ⟨List.subset_append_left _ _, fun a h => List.mem_append_right _ (s.subset h)⟩))
    have q2 := q1.put (i := j) r2'
    have s2 := owned_set (G := G.set i (.d x)) (i := j) (e := .d y) rfl
    have h0 : H0 p = none := o2.ex.none n
    have q3 := q2.mono ex3 inv3
    have rv : RepAll (fun a => a = p ∨ mo W (X ++ owned ((G.set i (.d x)).set j (.d y))) a) H3 vs ds := r3.less fun a z => z.imp id (mo_sub (List.append_subset.mpr ⟨List.subset_append_left _ _, fun a h => List.mem_append_right _ (s.subset (s2.subset h))⟩) a)
    exact ⟨v, u, .ref p, rfl, m.nx _ _ _ (k3 p) (q3.putOwn (i := l) e h0 nm (own_neX q2.env n) (q2.env.ok.widen n ex3.up (fun a m => m) (own_ne q2.env n) (q2.env.keepOwn ex3)) rv)⟩
end
/-! ### a def that changes a list of its caller: its second argument -/
def FSpO (pre : Wd → Ent → List D → (List D → Prop) → Prop) : Sp := fun vs H Q _ => ∃ (W : Wd) (X : List Addr) (e1 : Ent) (l : Addr) (ds : List D) (KN : List D → Prop) (v1 : V) (us : List V), vs = [v1, .ref l] ∧ pre W e1 ds KN ∧ W.inv H ∧ (∀ b ∈ X, ¬ W.M b ∧ ∃ o, H b = some o) ∧
  EntV (mo W (X ++ [l])) H v1 e1 ∧ ownOf e1 = none ∧ ¬ W.M l ∧ l ∉ X ∧ H l = some (.lst us) ∧ RepAll (mo W (X ++ [l])) H us ds ∧
  ∀ ds' us' H', KN ds' → Ex (mo W [l]) H H' → W.inv H' → H' l = some (.lst us') → RepAll (mo W (X ++ [l])) H' us' ds' → Q .non H'
theorem fn_lenO {pre : Wd → Ent → List D → (List D → Prop) → Prop} {vs : List V} {H : Hp} {Q : VK} {E : XK} (h : FSpO pre vs H Q E) : vs.length = 2 := by
  obtain ⟨W, X, e1, l, ds, KN, v1, us, rfl, _⟩ := h; rfl
theorem EntV.entOk {M : Addr → Prop} {H : Hp} {v : V} {e : Ent} (h : EntV M H v e) (ho : ownOf e = none) : EntOk M H (some v) e := by
  cases e with
  | no => trivial
  | d d => exact ⟨v, rfl, h⟩
  | own l ds => cases ho
  | odk l ns ds => cases ho
  | raw u => exact congrArg some h
  | frz _ _ _ => exact h.elim
theorem fn_startO {N : List Str} {t : TS} {pre : Wd → Ent → List D → (List D → Prop) → Prop} {vs : List V} {H : Hp} {Q : VK} {E : XK}
    (hb : ∀ W e1 l ds KN, pre W e1 ds KN → St W (e1 :: .own l ds :: List.replicate (N.length - 2) .no) t { nx := fun G' => ∃ ds', G'[1]? = some (.own l ds') ∧ owned G' = [l] ∧ KN ds', rt := fun _ => False }) (h : FSpO pre vs H Q E) :
    t { nx := fun _ H' => Q .non H', rt := Q } (L2.start N vs) H := by
  obtain ⟨W, X, e1, l, ds, KN, v1, us, rfl, hp, inv, hX, hv, ho, nM, nX, hl, r, q⟩ := h
  have ow : owned (e1 :: .own l ds :: List.replicate (N.length - 2) .no) = [l] := by
    rw [owned_c ho]
    show l :: owned (List.replicate (N.length - 2) .no) = [l]
    rw [owned_rep]
  have en : Env W X H (L2.start N [v1, .ref l]) (e1 :: .own l ds :: List.replicate (N.length - 2) .no) := by
    refine ⟨?_, by rw [ow]; exact List.nodup_cons.mpr ⟨(fun z => nomatch z), List.nodup_nil⟩, fun b hb => (by rw [ow] at hb; rw [List.mem_singleton.mp hb]; exact ⟨nM, nX⟩), hX, inv⟩
    unfold L2.start
    rw [ow]
    refine .cons (hv.entOk ho) (.cons ⟨rfl, us, hl, r⟩ ?_)
    show EntsOk _ H (List.replicate (N.length - 2) none) _
    generalize N.length - 2 = n
    induction n with
    | zero => exact .nil
    | succ n ih => exact .cons trivial ih
  refine hb W e1 l ds KN hp X [l] H _ H ⟨en, Ex.refl _ _, fun b hb => (by rw [ow] at hb; exact .inr hb)⟩ _ ⟨fun G' σ' H' ⟨ds', hG, hown, k⟩ o => ?_, fun _ _ _ z => z.elim, fun _ _ _ z => z.elim, fun _ _ _ z => z.elim, fun _ _ _ _ _ _ z => z.elim, fun _ _ _ _ z => z.elim⟩
  obtain ⟨_, us', hl', r'⟩ := o.at hG
  rw [hown] at r'
  exact q ds' us' H' k o.ex o.env.inv hl' r'
section
variable {W : Wd} {G : List Ent} {E : Post} {pre : Wd → Ent → List D → (List D → Prop) → Prop}
/-- f(a, xs), xs an own list that f changes -/
theorem st_callO {i j : Nat} {v1 : V} {l : Addr} {ds : List D} {E0 : XK} (h1 : G[i]? = some (.raw v1)) (h2 : G[j]? = some (.own l ds)) (k : pre W (.raw v1) ds fun ds' => E.nx (G.set j (.own l ds'))) :
    St W G (tDrop (tCall (FSpO pre) [] E0 (tCons (tVar i) (tCons (tVar j) tNil)))) E := fun X N H0 σ H o D m => by
  obtain ⟨x1, e1, r1⟩ := o.env.ok.get h1
  cases r1
  obtain ⟨e2, vs, hl, r⟩ := o.at h2
  have ml := mem_owned h2
  have nW := (o.env.ap l ml).1
  have nX := (o.env.ap l ml).2
  refine ⟨_, e1, _, e2, ?_⟩
  let X' := X ++ (owned G).filter (fun b => decide (b ≠ l))
  have sub : ∀ a, mo W (X' ++ [l]) a → mo W (X ++ owned G) a := fun a q => q.imp id fun q => by
    rcases List.mem_append.mp q with z | z
    · rcases List.mem_append.mp z with z | z
      · exact List.mem_append_left _ z
      · exact List.mem_append_right _ (List.mem_filter.mp z).1
    · rw [List.mem_singleton.mp z]; exact List.mem_append_right _ ml
  have sup : ∀ a, mo W (X ++ owned G) a → mo W (X' ++ [l]) a := fun a q => q.imp id fun q => by
    rcases List.mem_append.mp q with z | z
    · exact List.mem_append_left _ (List.mem_append_left _ z)
    · by_cases e : a = l
      · exact List.mem_append_right _ (List.mem_singleton.mpr e)
      · exact List.mem_append_left _ (List.mem_append_right _ (List.mem_filter.mpr ⟨z, by simpa using e⟩))
  refine ⟨W, X', .raw v1, l, ds, _, v1, vs, rfl, k, o.env.inv, fun b hb => ?_, rfl, rfl, nW, fun hm => ?_, hl, r.less sub, fun ds' us' H' k' ex inv hl' r' => ?_⟩
  · rcases List.mem_append.mp hb with z | z
    · exact o.env.xs b z
    · have z := (List.mem_filter.mp z).1
      exact ⟨(o.env.ap b z).1, mo_there o.env b (.inr (List.mem_append_right _ z))⟩
  · rcases List.mem_append.mp hm with z | z
    · exact nX z
    · have := (List.mem_filter.mp z).2
      simp at this
  · have ow : owned (G.set j (.own l ds')) = owned G := owned_keep h2 rfl
    have wk : ∀ a, mo W [l] a → mo W (X ++ owned G) a := fun a q => q.imp id fun z => by rw [List.mem_singleton.mp z]; exact List.mem_append_right _ ml
    refine m.nx _ _ _ k' ⟨⟨?_, by rw [ow]; exact o.env.nd, fun b q => o.env.ap b (by rw [ow] at q; exact q), fun b q => ⟨(o.env.xs b q).1, by obtain ⟨u, z⟩ := (o.env.xs b q).2; exact ex.th b u z⟩, inv⟩, ?_, fun b q => o.nw b (by rw [ow] at q; exact q)⟩
    · rw [ow]
      refine EntsOk.upd1 o.env.ok e2 ⟨rfl, us', hl', r'.less sup⟩ fun p x e hp hG hx => ?_
      refine hx.mono ex wk fun b hb hm => ?_
      rcases hm with z | z
      · exact (o.env.ap b (mem_ownedE hG hb)).1 z
      · rw [List.mem_singleton.mp z] at hb
        exact hp (owner_unique o.env.nd hG h2 hb rfl)
    · rcases o.nw l ml with z | z
      · refine ⟨fun a u q n => ex.kp a u (o.ex.kp a u q n) fun m => ?_, fun a u q => ?_, fun a u q => ?_⟩
        · rcases m with m | m
          · exact n (.inl m)
          · rw [List.mem_singleton.mp m, z] at q; cases q
        · obtain ⟨u1, q1⟩ := o.ex.th a u q
          exact ex.th a u1 q1
        · obtain ⟨u1, q1⟩ := o.ex.dk a u q
          exact ex.dk a u1 q1
      · exact o.ex.trans (ex.weak fun a q => q.imp id fun y => by rw [List.mem_singleton.mp y]; exact z)
end
end Pd

namespace L2
open PySem PySem.Spec PyProof.Rows
section
variable {X : Cx}
/-! ### list.count of flags -/
def rCountB (K : PySem.W.Frag) : V → List V → Hp → VK → Prop := fun x xs H Q => ∃ (a : Addr) (bs : List Bool) (b : Bool), x = .ref a ∧ xs = [.bl b] ∧ SqL K H a (bs.map V.bl) ∧ Q (.int ((bs.countP fun y => decide (y = b) : Nat) : Int)) H
theorem vals_bl : ∀ {bs : List Bool} {its : List Value}, Vals (bs.map V.bl) its → its = bs.map Value.bool
  | [], _, r => by cases r; rfl
  | b :: bs, _, r => by
    cases r with
    | cons h t => rw [vals_bl t]; cases h; rfl
theorem hold_bl (h : Heap) : ∀ bs : List Bool, PySem.W.HoldAll h (bs.map Value.bool) bs
  | [] => .nil
  | b :: bs => .cons ⟨_, .bool b⟩ (hold_bl h bs)
theorem mt_countB (hu : X.A.units + 1 < cLine) : MtR X "list.count" (rCountB X.K) := by
  intro pins s σ H x xs v us Q I rx rxs h
  obtain ⟨a, bs, b, rfl, rfl, hs, q⟩ := h
  cases rx
  cases rxs with
  | cons ry rt =>
    cases rt
    cases ry
    obtain ⟨its, rv, pl, hz⟩ := I.list hs
    have e := vals_bl rv
    subst e
    exact PySem.W.count_list_datum (α := Bool) pl.isList (hold_bl _ bs) ⟨_, .bool b⟩ hu ⟨.int ((bs.countP fun y => decide (y = b) : Nat) : Int), H, I.tok _, ⟨_, rfl⟩, q⟩
/-- xs.insert(i, y) -/
def rIns : V → List V → Hp → VK → Prop := fun x vs H Q => ∃ (l : Addr) (xs : List V) (i : Int) (y : V), x = .ref l ∧ vs = [.int i, y] ∧ H l = some (.lst xs) ∧ xs.length < sizeLine ∧ 0 ≤ i ∧ i < 2 ^ 63 ∧
    Q .non (upd H l (.lst (xs.take i.toNat ++ [y] ++ xs.drop i.toNat)))
theorem mt_ins : MtR X "list.insert" rIns := mt_insert
/-! ### [f, g][i](x): one of two defs that may raise -/
def tPick2 (K : PySem.W.Frag) (W : WX) (sp1 sp2 : Sp) (ti : TE) (t : TA) : TE := fun σ H Q => ∀ f1 f2, tOp (rIx K) (tLst (tCons (tC (.ref f1)) (tCons (tC (.ref f2)) tNil))) ti σ H fun v H1 =>
  (v = .ref f1 ∧ t σ H1 fun vs H2 => sp1 vs H2 Q (WE W σ)) ∨ (v = .ref f2 ∧ t σ H1 fun vs H2 => sp2 vs H2 Q (WE W σ))
end
end L2
namespace Pd
open PySem L2 RZ PyProof.Rows
section
variable {X : Cx} {lv1 lv2 : Nat} {x1 x2 : Str} {ps1 ps2 : List Str} {sp1 sp2 : Sp} {e ie : Expr} {es : List Expr} {t : TA} {ti : TE} {p1 p2 q1 q2 pos : Pos} {c : ExprContext} {W : WX}
theorem pe_pick2 (tk : Takes X W) (h1 : HasX X.prog X.w X.K X.mg X.base lv1 x1 ps1 sp1) (h2 : HasX X.prog X.w X.K X.mg X.base lv2 x2 ps2 sp2) (hr1 : Room lv1 X.A) (hr2 : Room lv2 X.A) (hi : PE X ie ti) (ha : PA X (e :: es) t)
    (hs : PlainIx ie) (he : eval (.Call (.Subscript (.List [.Name x1 p1, .Name x2 p2] q1) ie q2) (e :: es) [] pos) X.env = (do callWith pos (← eval (.Subscript (.List [.Name x1 p1, .Name x2 p2] q1) ie q2) X.env) [] (backTo pos (starEach (e :: es) X.env)) (backToKw pos (keywordEach [] X.env))))
    (hg1 : Gl X x1 := by rfl) (hg2 : Gl X x2 := by rfl) (hd1 : (x1 == ("__debug__" : Str)) = false := by decide) (hd2 : (x2 == ("__debug__" : Str)) = false := by decide)
    (hst : starEach (e :: es) X.env = (false, eval e X.env) :: starEach es X.env := by rfl) (hpl : (backTo pos (starEach es X.env)).any (·.1) = false := by rfl) :
    PE X (.Call (.Subscript (.List [.Name x1 p1, .Name x2 p2] q1) ie q2) (e :: es) [] pos) (tPick2 X.K W sp1 sp2 ti t) := by
  obtain ⟨f1, fd1, hm1, hk1, hb1, F1⟩ := h1
  obtain ⟨f2, fd2, hm2, hk2, hb2, F2⟩ := h2
  refine ⟨fun pins s σ H Q I h => ?_⟩
  refine Call_ (thn ((pe_ix ix_seq (pe_lst (pa_cons (pe_glob (v := .ref f1) hg1 hm1 rfl hd1) (pa_cons (pe_glob (v := .ref f2) hg2 hm2 rfl hd2) pa_nil))) hi hs).run pins s σ H _ I (h f1 f2)) fun u s1 ⟨v, H1, I1, r1, q1⟩ => ?_) he
  rcases q1 with ⟨ev, q1⟩ | ⟨ev, q1⟩
  · subst ev
    cases r1
    refine PySem.W.callWith_K (h₀ := X.base) I1.ok.mod.kin hk1 (thn (ha.run pos pins s1 σ _ _ I1 q1) fun us s2 ⟨vs, H2, I2, r, q⟩ => ⟨I2.kIn, ?_⟩) hst hpl
    exact run_fnS F1 hr1 hb1 (passAt tk σ) I2 r q
  · subst ev
    cases r1
    refine PySem.W.callWith_K (h₀ := X.base) I1.ok.mod.kin hk2 (thn (ha.run pos pins s1 σ _ _ I1 q1) fun us s2 ⟨vs, H2, I2, r, q⟩ => ⟨I2.kIn, ?_⟩) hst hpl
    exact run_fnS F2 hr2 hb2 (passAt tk σ) I2 r q
end
theorem sc_inj {a b : List Tr} (h : scD a = scD b) : a = b := of_decide_eq_true ((eqD_sc a b).symm.trans ((congrArg (eqD (scD a)) h.symm).trans ((eqD_sc a a).trans (decide_eq_true rfl))))
section
variable {W : Wd} {G : List Ent} {te ti : TE} {ta : TA} {K : PySem.W.Frag} {KK : D → Prop} {KE : KX} {Wx : WX} {pre1 pre2 : Wd → List Ent → (D → Prop) → KX → Prop}
theorem evx_lenSetT (h : EvX Wx W G te (fun d => ∃ ns : List Int, d = .tup (ns.map D.int) ∧ ns.length < 4000 ∧ ∀ ks : List Int, ks.Nodup → (∀ k, k ∈ ks ↔ k ∈ ns) → KK (.int ks.length)) KE) : EvX Wx W G (tLenSetT K te) KK KE := fun X σ H E Q q qe =>
  h X σ H E _ (fun d v H' k ex inv r => by
    obtain ⟨ns, rfl, hl, k⟩ := k
    cases r with
    | @tup a us _ ha s =>
      have e := RepAll.ints s
      subst e
      exact ⟨a, ns, rfl, .inl ha, hl, fun ks nd hm => q _ _ H' (k ks nd hm) ex inv (.int _)⟩) qe
/-- xs.count(b), flags -/
theorem ev_countB {tl : TE} (h : EvL W G tl fun ds => ∃ bs : List Bool, ds = bs.map D.bl ∧ Ev W G te fun y => ∃ b, y = .bl b ∧ KK (.int ((bs.countP fun y => decide (y = b) : Nat) : Int))) :
    Ev W G (tBM K "list" (rCountB K) tl (tCons te tNil)) KK := fun X σ H E1 Q q =>
  h X σ H E1 _ fun ds p vs H' k n ex inv e nm r => by
    obtain ⟨bs, rfl, k⟩ := k
    refine ⟨.inl ⟨rfl, _, SqL.of e⟩, ?_⟩
    refine k X σ H' (E1.mono ex inv) _ fun y v H2 ⟨b, hy, k2⟩ ex2 inv2 ry => ?_
    subst hy
    have e2 : H2 p = some (.lst vs) := ex2.kp _ _ e fun m => absurd m nm
    have ev := RepAll.bls r
    subst ev
    cases ry
    exact ⟨p, bs, b, rfl, rfl, .inl (.inl e2), q _ _ H2 k2 (ex.trans ex2) inv2 (.int _)⟩
theorem evx_pick2 (h : Ev W G ti fun d => (d = .int 0 ∧ EvA W G ta fun es => owned es = [] ∧ pre1 W es KK KE) ∨ (d = .int 1 ∧ EvA W G ta fun es => owned es = [] ∧ pre2 W es KK KE)) :
    EvX Wx W G (tPick2 K Wx (FSpX pre1) (FSpX pre2) ti ta) KK KE := fun X σ H E Q q qe f1 f2 => by
  refine ⟨small_le (by show 2 ≤ _; decide), fun p hp => ?_⟩
  have ex0 : Ex W.M H (upd H p (.lst [V.ref f1, V.ref f2])) := Ex.new hp
  have inv0 : W.inv (upd H p (.lst [V.ref f1, V.ref f2])) := inv_same E.inv fun _ => Ex.new hp
  have nm : ¬ W.M p := new_ne E.inv hp
  refine h X σ _ (E.mono ex0 inv0) _ fun d v H' k ex inv r => ?_
  have ep : H' p = some (.lst [V.ref f1, V.ref f2]) := ex.kp _ _ upd_same fun m => absurd m nm
  have exx := ex0.trans ex
  have En := E.mono exx inv
  rcases k with ⟨rfl, k⟩ | ⟨rfl, k⟩
  · cases r
    exact .inl ⟨p, _, 0, .ref f1, rfl, rfl, .inl (.inl ep), rfl, .inl ⟨rfl, evx_call (Wx := Wx) k X σ H' En Q (fun d v H2 k2 e2 i2 r2 => q d v H2 k2 (exx.trans e2) i2 r2) fun C fs d H2 k2 e2 i2 r2 => qe C fs d H2 k2 (exx.trans e2) i2 r2⟩⟩
  · cases r
    exact .inl ⟨p, _, 1, .ref f2, rfl, rfl, .inl (.inl ep), rfl, .inr ⟨rfl, evx_call (Wx := Wx) k X σ H' En Q (fun d v H2 k2 e2 i2 r2 => q d v H2 k2 (exx.trans e2) i2 r2) fun C fs d H2 k2 e2 i2 r2 => qe C fs d H2 k2 (exx.trans e2) i2 r2⟩⟩
/-- xs.count(b), xs an own list of flags -/
theorem ev_countV {i : Nat} {l : Addr} {bs : List Bool} (h : G[i]? = some (.own l (bs.map D.bl))) (k : Ev W G te fun y => ∃ b, y = .bl b ∧ KK (.int ((bs.countP fun y => decide (y = b) : Nat) : Int))) :
    Ev W G (tBM K "list" (rCountB K) (tVar i) (tCons te tNil)) KK := fun X σ H E Q q => by
  obtain ⟨x, e, r⟩ := E.ok.get h
  obtain ⟨rfl, vs, e1, r⟩ := r
  refine ⟨_, e, .inl ⟨rfl, _, SqL.of e1⟩, ?_⟩
  refine k X σ H E _ fun y v H2 ⟨b, hy, k2⟩ ex2 inv2 ry => ?_
  subst hy
  have e2 : H2 l = some (.lst vs) := ex2.kp _ _ e1 fun m => absurd m (E.ap l (mem_owned h)).1
  have ev := RepAll.bls r
  subst ev
  cases ry
  exact ⟨l, bs, b, rfl, rfl, .inl (.inl e2), q _ _ H2 k2 ex2 inv2 (.int _)⟩
/-- xs.index(y), xs an own list of flat data -/
theorem ev_indexV {i : Nat} {l : Addr} {ds : List D} (h : G[i]? = some (.own l ds)) (k : Ev W G te fun y => ∃ j : Nat, ∃ z, flatD y = true ∧ ds.all flatD = true ∧ ds[j]? = some z ∧ eqD z y = true ∧ (∀ (n : Nat) z', n < j → ds[n]? = some z' → eqD z' y = false) ∧ KK (.int (j : Nat))) :
    Ev W G (tBM K "list" (rIndex K) (tVar i) (tCons te tNil)) KK := fun X σ H E Q q => by
  obtain ⟨x, e, r⟩ := E.ok.get h
  obtain ⟨rfl, vs, e1, r⟩ := r
  refine ⟨_, e, .inl ⟨rfl, _, SqL.of e1⟩, ?_⟩
  refine k X σ H E _ fun y v H2 ⟨j, z, fy, fd, hz, he, hno, k2⟩ ex2 inv2 ry => ?_
  have e2 : H2 l = some (.lst vs) := ex2.kp _ _ e1 fun m => absurd m (E.ap l (mem_owned h)).1
  have r3 : RepAll (mo W (X ++ owned G)) H2 vs ds := r.mono ex2 fun a m => .inl m
  obtain ⟨hin, hfl⟩ := in_rep ry fy r3 fd
  obtain ⟨w, hw, rw'⟩ := r3.get hz
  refine ⟨l, vs, v, j, w, rfl, rfl, .inl (.inl e2), flat_rep ry fy, hfl, hw, ?_, fun m z' hm hz' => ?_, q _ _ H2 k2 ex2 inv2 (.int _)⟩
  · rw [eqV_rep rw' ry (List.all_eq_true.mp fd z (List.mem_of_getElem? hz)) fy]; exact he
  · obtain ⟨d', hd', rd'⟩ := r3.getV hz'
    rw [eqV_rep rd' ry (List.all_eq_true.mp fd d' (List.mem_of_getElem? hd')) fy]; exact hno m d' hm hd'
/-- xs.insert(j, y) -/
theorem st_ins {E : Post} {i : Nat} {l : Addr} {ds : List D} (h : G[i]? = some (.own l ds)) (hl : ds.length < 100000) (k : EvA W G ta fun es => ∃ (j : Nat) (d : D), es = [.d (.int (j : Nat)), .d d] ∧ j < 100000 ∧ E.nx (G.set i (.own l (ds.take j ++ [d] ++ ds.drop j)))) :
    St W G (tDrop (tBM K "list" rIns (tVar i) ta)) E := fun X N H0 σ H o D m => by
  obtain ⟨e, vs, e1, r⟩ := o.at h
  refine ⟨_, e, .inl ⟨rfl, _, SqL.of e1⟩, k X σ H o.env _ fun es vs2 H' ⟨j, d, he, hj, k'⟩ _ ex inv r2 => ?_⟩
  subst he
  cases r2 with
  | @cons v1 _ _ _ rj r2 =>
  cases r2 with
  | @cons v2 _ _ _ rd r2 =>
  cases r2
  have o1 := o.mono ex inv
  obtain ⟨_, vs', e1', r'⟩ := o1.at h
  have rj : Rep (mo W (X ++ owned G)) H' v1 (.int (j : Nat)) := rj
  cases rj
  refine ⟨l, vs', (j : Nat), _, rfl, rfl, e1', small_len (by rw [r'.length]; exact hl), Int.natCast_nonneg _, by omega, ?_⟩
  rw [Int.toNat_natCast]
  exact m.nx _ _ _ k' (o1.change h e1' (((r'.take j).append (.cons rd .nil)).append (r'.drop j)))
/-- {} as data -/
theorem ev_dnew (k : KK .dct) : Ev W G tDNewK KK := fun X σ H E Q q p hp => q .dct _ _ k (Ex.new hp) (inv_same E.inv fun _ => Ex.new hp) (.dct upd_same)
/-- {k: x}, k a text -/
theorem ev_disp1 {x : Str} (h : Ev W G te fun d => KK .dct) : Ev W G (tDisp [(tC (.str x), te)]) KK := fun X σ H E Q q p hp => by
  have ex0 : Ex W.M H (upd H p (.dK [])) := Ex.new hp
  have inv0 : W.inv (upd H p (.dK [])) := inv_same E.inv fun _ => Ex.new hp
  have nm : ¬ W.M p := new_ne E.inv hp
  refine h X σ _ (E.mono ex0 inv0) _ fun d v H' k ex inv r => ?_
  have ep : H' p = some (.dK []) := ex.kp _ _ upd_same fun m => absurd m nm
  refine ⟨ep, [(.inr x, v)], rfl, Nat.le_of_ble_eq_true rfl, ?_⟩
  have exx := ex0.trans ex
  refine q .dct _ _ k ⟨fun a o h n => ?_, fun a o h => ?_, fun a kv h => ?_⟩ ?_ (.dct upd_same)
  · rw [upd_ne (ne_of_none h hp)]; exact exx.kp a o h n
  · rw [upd_ne (ne_of_none h hp)]; exact exx.th a o h
  · rw [upd_ne (ne_of_none h hp)]; exact exx.dk a kv h
  · exact W.dep _ _ inv fun a o m h => by
      have ne : a ≠ p := fun z => nm (by rw [← z]; exact m)
      rw [upd_ne ne]; exact h
end
end Pd
/-! ### in an except suite: rules that are told with K -/
namespace L2
open PySem PySem.Spec PyProof.Rows RZ
section
variable {X : Cx} {K' : PySem.W.Frag}
theorem ix_seqK (hK : X.K = K') : IxR X (rIx K') := by subst hK; exact ix_seq
theorem op_eqDK (hK : X.K = K') (hu : X.A.units + 64 < cLine) : OpR X (compareOp .Eq) (rEqD K') := by subst hK; exact op_eqD hu
theorem mt_countBK (hK : X.K = K') (hu : X.A.units + 1 < cLine) : MtR X "list.count" (rCountB K') := by subst hK; exact mt_countB hu
theorem mt_indexK (hK : X.K = K') : MtR X "list.index" (rIndex K') := by subst hK; exact mt_index
variable {o e : Expr} {es : List Expr} {to : TE} {t : TA} {name : Str} {apos cpos : Pos} {T id : String} {r : V → List V → Hp → VK → Prop}
theorem pe_bmK (hK : X.K = K') (pa : PlainAttrs T) (slot : Slot T name id) (hty : typeOf (.builtin id) = pure (.type "method_descriptor")) (hm : MtR X id r) (ho : PE X o to) (ha : PA X (e :: es) t)
    (hbase : attributeBase o name X.env (eval o X.env) = eval o X.env := by rfl)
    (hfew : ((backTo cpos (starEach (e :: es) X.env)).all (fun x => !x.1) && (backToKw cpos (keywordEach [] X.env)).all (fun x => x.1.isSome)
      && decide ((e :: es).length + ([] : List Keyword).length + (if ([] : List Keyword).isEmpty then 0 else 1) < 30)) = true := by rfl)
    (hline : (apos.endLine == cpos.line) = true := by rfl) (hs : starEach (e :: es) X.env = (false, eval e X.env) :: starEach es X.env := by rfl) (hplain : (backTo cpos (starEach es X.env)).any (·.1) = false := by rfl) :
    PE X (.Call (.Attribute o name apos) (e :: es) [] cpos) (tBM K' T r to t) := by subst hK; exact pe_bm pa slot hty hm ho ha hbase hfew hline hs hplain
end
end L2

namespace L2
open PySem PySem.Spec PyProof.Rows
section
variable {P : Program} {w : World} {A : Around} {E : Value → Shared → Prop} {s : Shared}
/-- sorted of a set of ints, whatever its size -/
theorem pd_sorted_set {a : Addr} {S : Int → Bool} {n : Nat} {R : Value → Shared → Prop} (hd0 : A.handled = none) (T : SetR w s.heap a S n)
    (fin : ∀ (s' : Shared) (p : Addr) (out : List Value) (c : Nat) (ms : List Int), (∀ b u, s.heap.get? b = some u → s'.heap.get? b = some u) → s'.gens = s.gens → s'.os = s.os → s.heap.objs.size ≤ p →
      s'.heap.get? p = some (seqObj "list" out.toArray c) → IntsAre out ms → ms.Pairwise (· < ·) → (∀ j, j ∈ ms ↔ S j = true) → ms.length = n → R (.ref p) s') :
    wpAny (model P w) A (call (.builtin "sorted") [.ref a]) R E s := by
  obtain ⟨o, es, ep, tb, io, ex, dt, good, nd, mem, few, fit, sz, ris, lead⟩ := T
  refine Calls.call_function_entry kind_sorted plain_sorted entry_sorted (args_sorted1 _) ?_
  unfold Builtin.«sorted»
  refine wpAny_bind (m := checkCount "sorted" 1 1 _) (wpAny_pure ?_)
  have at0 : SetAt s.heap a es ep tb := ⟨o, io, ex.1, dt⟩
  refine wpAny_bind (collect_set (A := A.in1) hd0 at0 fit few ris lead fun s1 vs keep grown sameG sameO pm => ?_)
  have nv : vs.length = n := by rw [pm.length_eq, List.length_map, Array.length_toList, sz]
  have small : vs.length ≤ sizeLine := by
    have z : es.size ≤ sizeLine := fits_of_scanBound few
    omega
  have allI : ∀ v ∈ vs, ∃ k tk, v = Value.int k tk := fun v hv => by
    obtain ⟨e, he, q⟩ := List.mem_map.mp (pm.mem_iff.mp hv)
    obtain ⟨k, tk, h1, _⟩ := good e he
    exact ⟨k, tk, q.symm.trans h1⟩
  have areI := ints_of vs allI
  have keys : (vs.map Builtin.Re.reRawOf).Perm (es.toList.map keyOf) := by
    have z := pm.map Builtin.Re.reRawOf
    rwa [List.map_map] at z
  refine wpAny_bind (wpAny_newList ?_ small)
  have new0 : (s1.heap.push (seqObj "list" vs.toArray 0)).get? s1.heap.objs.size = some (seqObj "list" vs.toArray 0) := Heap.get?_push_size _ rfl
  refine wpAny_bind (wpAny_holding (wpAny_call_entry slot_list_sort ⟨_, new0, rfl⟩ entry_list_sort
    (SrtO.list_sort_ord SrtO.swo_int new0 small (fun two => SrtO.ints_sortable areI two) fun out srt stb => ⟨_, rfl, ?_⟩) (args_list_sort _)))
  obtain ⟨i1, i2, i3⟩ := SrtO.ints_out areI srt stb
  obtain ⟨c, at1⟩ := sortedHeap_at (vs := vs) (out := out.toArray) new0
  have perm := i2.trans keys
  have nd2 := perm.nodup_iff.mpr nd
  refine wpAny_pure ⟨_, rfl, fin _ s1.heap.objs.size out c _ (fun b u e => ?_) sameG sameO grown at1 i1 (lt_of_le_nodup _ i3 nd2) (fun j => by rw [perm.mem_iff, ← mem j]) ?_⟩
  · have there := keep b u e
    have below := Heap.lt_size there
    refine Eq.trans (sortedHeap_old (Nat.ne_of_lt below) ?_) (Heap.get?_push_of_some _ there)
    rw [size_push']; exact Nat.lt_succ_of_lt below
  · rw [perm.length_eq, List.length_map, Array.length_toList, sz]
end
section
variable {X : Cx}
def rSortedSetW (w : World) : List V → Hp → VK → Prop := fun vs H Q => ∃ (a : Addr) (S : Int → Bool) (n : Nat), vs = [V.ref a] ∧ H a = some (SetO w a S n) ∧ n ≤ 5000 ∧
  ∀ (ms : List Int) (p : Addr), ms.Pairwise (· < ·) → (∀ j : Int, j ∈ ms ↔ S j = true) → ms.length = n → H p = none → Q (.ref p) (upd H p (.lst (ms.map V.int)))
theorem cr_sortedSetW (hc : X.calm = true) : CallR X (.builtin "sorted") (rSortedSetW X.w) := by
  intro pins s σ H vs us Q I r h
  obtain ⟨a, S, n, rfl, ha, hn0, q⟩ := h
  have T := setO_get I ha
  rw [Vals.ref1 r]
  refine pd_sorted_set (I.ok.hd hc) T fun s' p out c ms kept eg eo hp at1 are up mem hl => ?_
  have small : (ms.map V.int).length ≤ sizeLine := by rw [List.length_map, hl, sizeLine_eq]; omega
  have free : H p = none := I.hok.fresh hp
  have J : Inv X pins σ (upd H p (.lst (ms.map V.int))) { s with heap := s'.heap, gens := s'.gens, drawn := s'.drawn, toks := s'.toks } :=
    I.call (ch := []) (Un.laid kept hp free) (I.hok.laid kept hp ⟨small, out, c, vals_of_ints are, at1⟩) (by rw [eg]; exact I.bare) (fun _ z => nomatch z)
  have same : s' = { s with heap := s'.heap, gens := s'.gens, drawn := s'.drawn, toks := s'.toks } := by
    cases s'; cases s; cases eo; rfl
  rw [same]
  exact ⟨.ref p, _, J, rfl, q ms p up mem hl free⟩
/-- set(xs), a list of ints -/
def rSetOfLW (K : PySem.W.Frag) (w : World) : List V → Hp → VK → Prop := fun xs H Q => ∃ (l : Addr) (ns : List Int), xs = [.ref l] ∧ SqL K H l (ns.map V.int) ∧ ns.length < 4000 ∧
  ∀ p c, H p = none → c ≤ ns.length → Q (.ref p) (upd H p (SetO w p (fun j => decide (j ∈ ns)) c))
theorem cr_setOfLW (hc : X.calm = true) : CallR X (.type "set") (rSetOfLW X.K X.w) := by
  intro pins s σ H xs us Q I r h
  obtain ⟨l, ns, rfl, hq, hlen, q⟩ := h
  obtain ⟨u, rfl, ru⟩ := vals1 r
  cases ru
  obtain ⟨its, rv, p, hz⟩ := I.list hq
  refine pd_set_list ns (I.ok.hd hc) p.isList (ints_of_vals rv) (by unfold scanBound; omega) fun h' tk c R1 hcn k => ?_
  exact ⟨.ref s.heap.objs.size, _, I.laid (t' := tk) k (Nat.le_refl _) (setO_new R1), rfl, q _ _ (I.hok.fresh (Nat.le_refl _)) hcn⟩
end
end L2
namespace Pd
open PySem L2 RZ PyProof.Rows
/-- sorted(set(xs)), fewer than 4000 items -/
theorem pe_sortedSetW {X : Cx} {a : Expr} {ta : TE} {p1 p2 q1 q2 : Pos} (hc : X.calm = true) (hg : Gl X "sorted") (hm : X.mg "sorted" = none) (hg2 : Gl X "set") (hm2 : X.mg "set" = none) (ha : PE X a ta)
    (h1 : starEach [a] X.env = (false, eval a X.env) :: starEach [] X.env := by rfl) (h2 : (backTo q1 (starEach [] X.env)).any (·.1) = false := by rfl)
    (h3 : starEach [(.Call (.Name "set" p1) [a] [] q1 : Expr)] X.env = (false, eval (.Call (.Name "set" p1) [a] [] q1) X.env) :: starEach [] X.env := by rfl) (h4 : (backTo q2 (starEach [] X.env)).any (·.1) = false := by rfl) :
    PE X (.Call (.Name "sorted" p2) [.Call (.Name "set" p1) [a] [] q1] [] q2) (tCB (rSortedSetW X.w) (tCons (tCB (rSetOfLW X.K X.w) (tCons ta tNil)) tNil)) :=
  pe_callB (cr_sortedSetW hc) hg hm (by decide +kernel) (pa_cons (pe_callTy (cr_setOfLW hc) hg2 hm2 (by decide +kernel) (pa_cons ha pa_nil h1) (by decide) (by decide) h1 h2) pa_nil h3) (by decide) (by decide) h3 h4
/-- range(n), kept -/
def rRange1 : List V → Hp → VK → Prop := fun xs H Q => ∃ j, xs = [.int j] ∧ ∀ p, H p = none → Q (.ref p) (upd H p (.rng 0 j))
theorem cr_rangeA {X : Cx} : CallR X (.type "range") rRange1 := by
  intro pins s σ H xs us Q I r h
  obtain ⟨j, rfl, q⟩ := h
  obtain ⟨u, rfl, ru⟩ := vals1 r
  obtain ⟨t, rfl⟩ := ru
  exact call_range_1 ⟨.ref s.heap.objs.size, upd H s.heap.objs.size (.rng 0 j), I.laid (t' := s.toks + 1 + 1) (fun c o e => Heap.get?_push_of_some _ e) (Nat.le_refl _) (show ObjOk X.prog X.w _ _ _ (.rng 0 j) from ⟨_, _, _, Heap.get?_push_size _ rfl⟩), rfl, q _ (I.hok.fresh (Nat.le_refl _))⟩
theorem cd_range1 {KK : D → Prop} {b : Int} (k : KK (.rg 0 b)) : CallD rRange1 [.d (.int b)] KK := fun M vs H r0 th Q q => by
  obtain ⟨v, rfl, r⟩ := vs1 r0
  cases (show Rep M H v (.int b) from r)
  exact ⟨b, rfl, fun p hp => q _ _ _ k (fun _ => Ex.new hp) (.rg upd_same)⟩
section
variable {W : Wd} {G : List Ent} {te ta tb : TE} {tt : TT} {K : PySem.W.Frag} {w : World}
theorem evl_sortedSetW {KL : List D → Prop} (h : EvB W G te fun d => ∃ ns : List Int, d = .lst (ns.map D.int) ∧ ns.length < 4000 ∧ ∀ ms : List Int, ms.Pairwise (· < ·) → (∀ k, k ∈ ms ↔ k ∈ ns) → KL (ms.map D.int)) :
    EvL W G (tCB (rSortedSetW w) (tCons (tCB (rSetOfLW K w) (tCons te tNil)) tNil)) KL := fun X σ H E Q q =>
  h X σ H E _ fun d v H' k ex inv r => by
    obtain ⟨ns, rfl, hl, k⟩ := k
    obtain ⟨a, us, rfl, ha, s⟩ := r.lst
    have e := RepAll.ints s
    subst e
    refine ⟨a, ns, rfl, .inl (.inl ha), hl, fun p c hp hc => ⟨p, _, c, rfl, upd_same, by omega, fun ms p2 pw hm _ hp2 => ?_⟩⟩
    have ex1 : Ex W.M H' (upd H' p (SetO w p (fun j => decide (j ∈ ns)) c)) := Ex.new hp
    have i1 : W.inv (upd H' p (SetO w p (fun j => decide (j ∈ ns)) c)) := inv_same inv fun _ => Ex.new hp
    exact evl_new E q (ex.trans ex1) i1 (k ms pw fun j => by rw [hm j]; simp) (RepAll.of_ints ms) p2 hp2
/-- xs if c else ys, new lists -/
theorem evl_if {KL : List D → Prop} (h : EvT W G tt fun b => (b = true → EvL W G ta KL) ∧ (b = false → EvL W G tb KL)) : EvL W G (tIf tt ta tb) KL := fun X σ H E Q q =>
  h X σ H E _ fun b H' kb ex inv => by
    cases b with
    | true => exact kb.1 rfl X σ H' (E.mono ex inv) Q fun ds p vs H2 k n ex2 inv2 e nm r => q ds p vs H2 k (ex.none n) (ex.trans ex2) inv2 e nm r
    | false => exact kb.2 rfl X σ H' (E.mono ex inv) Q fun ds p vs H2 k n ex2 inv2 e nm r => q ds p vs H2 k (ex.none n) (ex.trans ex2) inv2 e nm r
/-- int(b) -/
theorem cd_intB {b : Bool} {KK : D → Prop} (k : KK (.int (if b then 1 else 0))) : CallD rInt1 [.d (.bl b)] KK := fun M vs H r0 th Q q => by
  obtain ⟨v, rfl, r⟩ := vs1 r0
  cases (show Rep M H v (.bl b) from r)
  exact .inr ⟨b, rfl, q _ _ H k (fun _ => Ex.refl _ _) (.int _)⟩
/-- what is told of a slot may be forgotten -/
theorem st_no {t : TS} {E : Post} (i : Nat) (k : St W (G.set i .no) t E) : St W G t E := fun X N H0 σ H o D m => by
  cases e : σ[i]? with
  | none =>
    have o' := o.putNo (i := i) (x := none)
    rw [List.set_eq_of_length_le (List.getElem?_eq_none_iff.mp e)] at o'
    exact k X N H0 σ H o' D m
  | some x =>
    have o' := o.putNo (i := i) (x := x)
    rw [set_self e] at o'
    exact k X N H0 σ H o' D m
theorem st_nos {t : TS} {E : Post} : ∀ (l : List Nat), St W (wipeG G l) t E → St W G t E
  | [], k => k
  | v :: vs, k => st_nos vs (st_no v k)
/-! targets: x, (y, z) -/
theorem sub_set {X : List Addr} {i : Nat} {e : Ent} (he : ownOf e = none) : ∀ a, mo W (X ++ owned (G.set i e)) a → mo W (X ++ owned G) a :=
  mo_sub (List.append_subset.mpr ⟨List.subset_append_left _ _, fun a h => List.mem_append_right _ ((owned_set (G := G) (i := i) (e := e) he).subset h)⟩)
theorem tg_tup2n {i j l : Nat} {x y z : D} {KG : List Ent → Prop} (k : KG (((G.set i (.d x)).set j (.d y)).set l (.d z))) : Tg W G (gTup K 2 (gCons (gName i) (gCons (gTup K 2 (gCons (gName j) (gCons (gName l) gNil))) gNil))) (.tup [x, .tup [y, z]]) KG := fun X N H0 σ H v o r Q q => by
  cases r with
  | tup h r =>
    cases r with
    | cons rx r =>
      cases r with
      | cons rt r =>
        cases r
        cases rt with
        | tup h2 r2 =>
          cases r2 with
          | cons ry r2 =>
            cases r2 with
            | cons rz r2 =>
              cases r2
              have o1 := o.put (i := i) rx
              have o2 := o1.put (i := j) (ry.less (sub_set (i := i) (e := .d x) rfl))
              have o3 := o2.put (i := l) ((rz.less (sub_set (i := i) (e := .d x) rfl)).less (sub_set (i := j) (e := .d y) rfl))
              exact ⟨_, _, rfl, .inl h, rfl, _, _, rfl, _, _, rfl, _, _, rfl, .inl h2, rfl, _, _, rfl, _, _, rfl, rfl, rfl, q _ _ k o3⟩
theorem wipe_set3 {vs : List Nat} {σ : L2.St} {i j l : Nat} {x y z : Option V} (hi : i ∈ vs) (hj : j ∈ vs) (hl : l ∈ vs) : L2.wipe ((((L2.wipe σ vs).set i x).set j y).set l z) vs = L2.wipe σ vs :=
  (wipe_eq (by simp) fun k hk => by rw [List.getElem?_set_ne fun z => hk (by rw [← z]; exact hl), List.getElem?_set_ne fun z => hk (by rw [← z]; exact hj), List.getElem?_set_ne fun z => hk (by rw [← z]; exact hi)]).trans wipe_idem
theorem tgc_tup2n {vs : List Nat} {i j l : Nat} {x y z : D} {KG : List Ent → Prop} (hi : i ∈ vs) (hj : j ∈ vs) (hl : l ∈ vs) (k : KG (((G.set i (.d x)).set j (.d y)).set l (.d z))) : TgC W G (gTup K 2 (gCons (gName i) (gCons (gTup K 2 (gCons (gName j) (gCons (gName l) gNil))) gNil))) vs (.tup [x, .tup [y, z]]) KG := fun X N H0 σ H v o r Q q => by
  cases r with
  | tup h r =>
    cases r with
    | cons rx r =>
      cases r with
      | cons rt r =>
        cases r
        cases rt with
        | tup h2 r2 =>
          cases r2 with
          | cons ry r2 =>
            cases r2 with
            | cons rz r2 =>
              cases r2
              have o1 := o.put (i := i) rx
              have o2 := o1.put (i := j) (ry.less (sub_set (i := i) (e := .d x) rfl))
              have o3 := o2.put (i := l) ((rz.less (sub_set (i := i) (e := .d x) rfl)).less (sub_set (i := j) (e := .d y) rfl))
              exact ⟨_, _, rfl, .inl h, rfl, _, _, rfl, _, _, rfl, _, _, rfl, .inl h2, rfl, _, _, rfl, _, _, rfl, rfl, rfl, q _ _ k (wipe_set3 hi hj hl) o3⟩
end
/-! ### try, kept whole -/
def tTryAs (K : PySem.W.Frag) (c : Value) (i : Nat) (tb : WX → TS) (ts : Addr → Value → Option Addr → TS) (W0 : WX) : TS := fun D σ H => tb (wAs K c i ts W0 D) D σ H
theorem ps_try_as2 {X : Cx} {x n : Str} {c : Value} {i : Nat} {body suite : List Stmt} {b₀ : Stmt} {np pos pos' : Pos} {tb : WX → TS} {ts : Addr → Value → Option Addr → TS} {Wout : WX} (hs : X.stack = X.env :: X.outer) (hf : X.env.frame = some X.env.locals) (hN : X.N.Nodup) (hi : X.N[i]? = some n) (hln : X.env.kindOf n = some .local) (hc : Names X x c) (tk : Takes X Wout)
    (hb : ∀ (W : WX) (pn : List (Addr × Obj)) (xe : Value → Shared → Prop), Takes (X.tr pn xe) W → PassesOwn (model X.prog X.w) X.A X.env xe → PSs (X.tr pn xe) body (tb W))
    (hsu : ∀ (a : Addr) (oe : Obj) (cls : Value) (d : Option Addr) (pn : List (Addr × Obj)), Zc cls d oe → (∃ vs, oe.data = .fields vs) → PSs (X.suite a ((a, oe) :: pn)) (b₀ :: suite) (ts a cls d)) :
    PS X (.Try body [.ExceptHandler (some (.Name x np)) (some n) (b₀ :: suite) pos'] [] [] pos) (tTryAs X.K c i tb ts Wout) := ps_try_as hs hf hN hi hln hc tk hb hsu
theorem st_tryAs2 {W : Wd} {G : List Ent} {E : Post} {K : PySem.W.Frag} {c : Value} {i : Nat} {tb : WX → TS} {ts : Addr → Value → Option Addr → TS} {W0 : WX} (hW : W0 = E.wx) (KB : List Ent → KX) (hb : ∀ Wx, St W G (tb Wx) { E with ex := KB, wx := Wx })
    (hs : ∀ G' C fs, KB G' C fs → ∃ b, PySem.W.exmOne K (.ref C) c = some b ∧ (b = true → ∀ a d, (d = none ↔ fs = []) → St W (G'.set i (.raw (.ref a))) (ts a (.ref C) d) { nx := fun G2 => E.nx (G2.set i .no), rt := E.rt, rl := E.rl, bk := fun G2 => E.bk (G2.set i .no), ct := fun G2 => E.ct (G2.set i .no) }) ∧ (b = false → E.ex G' C fs)) :
    St W G (tTryAs K c i tb ts W0) E := by
  subst hW
  exact st_tryAs KB hb hs
/-- an operation upon what may raise -/
theorem evx_op {Wx : WX} {W : Wd} {G : List Ent} {ta tb : TE} {r : R2} {KK : D → Prop} {KE : KX} (h : EvX Wx W G ta (fun x => Ev W G tb fun y => OpD r x y KK) KE) : EvX Wx W G (tOp r ta tb) KK KE := fun X σ H E Q q qe =>
  h X σ H E _ (fun x v H1 k e1 i1 r1 => k X σ H1 (E.mono e1 i1) _ fun y u H2 k2 e2 i2 r2 =>
    k2 W.M (mo W (X ++ owned G)) v u H2 (.inl (r1.mono e2 fun _ m => .inl m)) (.inl r2) (mo_there ((E.mono e1 i1).mono e2 i2)) Q fun d z H' k3 ex r3 => q d z H' k3 ((e1.trans e2).trans (ex _)) (inv_same i2 ex) r3) qe
/-- {n: x}, n an int -/
theorem ev_dispI {W : Wd} {G : List Ent} {te : TE} {KK : D → Prop} {n : Int} (h : Ev W G te fun d => KK .dct) : Ev W G (tDisp [(tC (.int n), te)]) KK := fun X σ H E Q q p hp => by
  have ex0 : Ex W.M H (upd H p (.dK [])) := Ex.new hp
  have inv0 : W.inv (upd H p (.dK [])) := inv_same E.inv fun _ => Ex.new hp
  have nm : ¬ W.M p := new_ne E.inv hp
  refine h X σ _ (E.mono ex0 inv0) _ fun d v H' k ex inv r => ?_
  have ep : H' p = some (.dK []) := ex.kp _ _ upd_same fun m => absurd m nm
  refine ⟨ep, [(.inl n, v)], rfl, Nat.le_of_ble_eq_true rfl, ?_⟩
  have exx := ex0.trans ex
  refine q .dct _ _ k ⟨fun a o h n => ?_, fun a o h => ?_, fun a kv h => ?_⟩ ?_ (.dct upd_same)
  · rw [upd_ne (ne_of_none h hp)]; exact exx.kp a o h n
  · rw [upd_ne (ne_of_none h hp)]; exact exx.th a o h
  · rw [upd_ne (ne_of_none h hp)]; exact exx.dk a kv h
  · exact W.dep _ _ inv fun a o m h => by
      have ne : a ≠ p := fun z => nm (by rw [← z]; exact m)
      rw [upd_ne ne]; exact h
/-! ### the hand of a law: its next cell -/
section
variable {G : List Ent} {te : TE} {KK : D → Prop} {E : Post} {K : PySem.W.Frag} {t c : Addr} {i : Nat}
/-- if c and hand[1] < len(hand[0]): cell = hand[0][hand[1]]; hand[1] = hand[1] + 1; and so on -/
theorem st_cellA {iv : Nat} {tA : TT} {u : TS} (hG : G[i]? = some (.raw (.ref t))) (hne : iv ≠ i) (hA : EvT (tapeW t c) G tA fun _ => True) (k0 : E.nx G) (k : ∀ z : Int, St (tapeW t c) (G.set iv (.d (.int z))) u E) :
    St (tapeW t c) G (tIfS (tAnd tA (tTest (tOp (rI0 fun i j => .bl (decide (i < j))) (tOp (rIx K) (tVar i) (tC (.int 1))) (tCB (rLen1 K) (tCons (tOp (rIx K) (tVar i) (tC (.int 0))) tNil)))))
      (tSeq (tAsg (tOp (rIx K) (tOp (rIx K) (tVar i) (tC (.int 0))) (tOp (rIx K) (tVar i) (tC (.int 1)))) (gName iv))
        (tSeq (tAsg (tOp (rPlus K) (tOp (rIx K) (tVar i) (tC (.int 1))) (tC (.int 1))) (gSub (tVar i) (tC (.int 1)) rSetL)) u)) tNext) E := fun X N H0 σ H o D m' => by
  refine hA X σ H o.env _ fun b H1 _ ex1 inv1 => ?_
  have o := o.mono ex1 inv1
  cases b with
  | false => exact m'.nx _ _ _ k0 o
  | true =>
  rw [if_pos rfl]
  have inv := o.env.inv
  obtain ⟨ns, p, a, b, n, h1, h2⟩ := id inv
  have hσ := raw_at o.env hG
  refine ⟨_, hσ, .inl ⟨t, _, 1, _, rfl, rfl, SqL.of h1, rfl, ?_⟩⟩
  refine ⟨_, hσ, .inl ⟨t, _, 0, _, rfl, rfl, SqL.of h1, rfl, ?_⟩⟩
  refine ⟨.ref c, ns.length, rfl, .inl ⟨ns.map V.int, SqL.of h2, by rw [List.length_map]⟩, ?_⟩
  refine ⟨_, _, rfl, rfl, _, rfl, ?_⟩
  show (if decide ((p : Int) < (ns.length : Int)) = true then _ else _)
  by_cases hp : (p : Int) < (ns.length : Int)
  · rw [if_pos (decide_eq_true hp)]
    have hp' : p < ns.length := by omega
    have hz : atI (ns.map V.int) (p : Int) = some (.int (ns[p])) := by
      unfold atI ixN
      rw [if_pos (by omega), if_pos (by rw [List.length_map]; omega)]
      simp [hp']
    refine ⟨_, hσ, .inl ⟨t, _, 0, _, rfl, rfl, SqL.of h1, rfl, ?_⟩⟩
    refine ⟨_, hσ, .inl ⟨t, _, 1, _, rfl, rfl, SqL.of h1, rfl, ?_⟩⟩
    refine .inl ⟨c, _, (p : Int), _, rfl, rfl, SqL.of h2, hz, ?_⟩
    have o1 : Ok (tapeW t c) X N H0 H1 (σ.set iv (some (.int ns[p]))) (G.set iv (.d (.int ns[p]))) := o.put (.int _)
    have hG1 : (G.set iv (.d (.int ns[p])))[i]? = some (.raw (.ref t)) := by rw [List.getElem?_set_ne hne]; exact hG
    have hσ1 := raw_at o1.env hG1
    refine ⟨_, hσ1, .inl ⟨t, _, 1, _, rfl, rfl, SqL.of h1, rfl, ?_⟩⟩
    refine .inl ⟨_, _, rfl, rfl, ?_⟩
    refine ⟨_, hσ1, t, _, 1, 1, rfl, rfl, h1, rfl, ?_⟩
    refine k _ X N H0 _ _ (o1.tape h1 ?_) D m'
    refine ⟨ns, p + 1, a, b, n, ?_, by rw [upd_ne (TapeIn.ne inv).symm]; exact h2⟩
    rw [upd_same]
    rfl
  · rw [if_neg (by simpa using hp)]
    exact m'.nx _ _ _ k0 o
end
end Pd

namespace Pd
open PySem L2 RZ PyProof.Rows
/-! ### the world of a law's pool: the list at p, its great cells at c -/
def PoolIn (p c : Addr) (H : Hp) : Prop := ∃ (cs : List Int) (a b : Int), H p = some (.lst [.int a, .int b, .ref c]) ∧ H c = some (.lst (cs.map V.int))
theorem PoolIn.ne {p c : Addr} {H : Hp} (h : PoolIn p c H) : p ≠ c := fun e => by
  obtain ⟨cs, a, b, h1, h2⟩ := h
  subst e
  rw [h1] at h2
  match cs, h2 with
  | [], h2 => cases h2
  | [_], h2 => cases h2
  | [_, _], h2 => cases h2
  | [_, _, _], h2 => cases h2
  | _ :: _ :: _ :: _ :: _, h2 => cases h2
def poolW (p c : Addr) : Wd where
  M := fun a => a = p ∨ a = c
  inv := PoolIn p c
  lst := fun H a ⟨cs, x, b, h1, h2⟩ m => by
    rcases m with rfl | rfl
    · exact ⟨_, h1⟩
    · exact ⟨_, h2⟩
  dep := fun H H' ⟨cs, a, b, h1, h2⟩ k => ⟨cs, a, b, k _ _ (.inl rfl) h1, k _ _ (.inr rfl) h2⟩
section
variable {G : List Ent} {te : TE} {KK : D → Prop} {E : Post} {K : PySem.W.Frag} {p c : Addr} {i : Nat}
/-- an int of the pool -/
theorem ev_pl {j : Int} (hj : j = 0 ∨ j = 1) (hG : G[i]? = some (.raw (.ref p))) (k : ∀ z : Int, KK (.int z)) : Ev (poolW p c) G (tOp (rIx K) (tVar i) (tC (.int j))) KK := fun X σ H E1 Q q => by
  obtain ⟨cs, a, b, h1, h2⟩ := E1.inv
  refine ⟨_, raw_at E1 hG, ?_⟩
  have fin : ∀ z : Int, atI [V.int a, .int b, .ref c] j = some (.int z) → rIx K (.ref p) (.int j) H Q := fun z hz =>
    .inl ⟨p, _, j, _, rfl, rfl, SqL.of h1, hz, q _ _ H (k z) (Ex.refl _ _) E1.inv (.int z)⟩
  rcases hj with rfl | rfl
  · exact fin a rfl
  · exact fin b rfl
theorem Ok.pool {X N : List Addr} {H0 H : Hp} {σ : L2.St} {t : Addr} {xs ys : List V} (ht : t = p ∨ t = c) (o : Ok (poolW p c) X N H0 H σ G) (h : H t = some (.lst xs)) (i : PoolIn p c (upd H t (.lst ys))) : Ok (poolW p c) X N H0 (upd H t (.lst ys)) σ G :=
  o.mono (Ex.mut (M := (poolW p c).M) ht h) i
/-- pool[1] = an int -/
theorem st_pl (hG : G[i]? = some (.raw (.ref p))) (h : Ev (poolW p c) G te fun d => ∃ z, d = .int z ∧ E.nx G) :
    St (poolW p c) G (tAsg te (gSub (tVar i) (tC (.int 1)) rSetL)) E := fun X N H0 σ H o D m' => by
  refine h X σ H o.env _ fun d v H' ⟨z, e, k⟩ ex inv r => ?_
  subst e
  cases r
  have o1 := o.mono ex inv
  obtain ⟨cs, a, b, h1, h2⟩ := id inv
  refine ⟨_, raw_at o1.env hG, p, _, 1, 1, rfl, rfl, h1, rfl, m'.nx _ _ _ k (o1.pool (.inl rfl) h1 ⟨cs, a, z, upd_same, ?_⟩)⟩
  rw [upd_ne (PoolIn.ne inv).symm]; exact h2
/-- cells = pool[2] -/
theorem st_plc {j : Nat} (hG : G[i]? = some (.raw (.ref p))) (k : E.nx (G.set j (.raw (.ref c)))) :
    St (poolW p c) G (tAsg (tOp (rIx K) (tVar i) (tC (.int 2))) (gName j)) E := fun X N H0 σ H o D m' => by
  obtain ⟨cs, a, b, h1, h2⟩ := id o.env.inv
  exact ⟨_, raw_at o.env hG, .inl ⟨p, _, 2, _, rfl, rfl, SqL.of h1, rfl, m'.nx _ _ _ k o.putRaw⟩⟩
/-- if len(cells) > 0: digit = int(cells[0]) mod many; cells[0] = int(cells[0]) // many; if cells[0] == 0: cells.pop(0); and so on -/
theorem st_digit {j jd jm : Nat} {n : Int} {u : TS} (hw : ∀ z : Int, CDivW z n) (hn : 0 < n) (hC : G[j]? = some (.raw (.ref c))) (hM : G[jm]? = some (.d (.int n))) (hne : jd ≠ j) (hnm : jd ≠ jm) (k0 : E.nx G) (k : ∀ z : Int, St (poolW p c) (G.set jd (.d (.int (z % n)))) u E) :
    St (poolW p c) G (tIfS (tTest (tOp (rI0 fun i j => .bl (decide (j < i))) (tCB (rLen1 K) (tCons (tVar j) tNil)) (tC (.int 0))))
      (tSeq (tAsg (tOp (rI (fun _ j => 0 < j) fun i j => .int (i % j)) (tCB rInt1 (tCons (tOp (rIx K) (tVar j) (tC (.int 0))) tNil)) (tVar jm)) (gName jd))
        (tSeq (tAsg (tOp (rI CDivW fun i j => .int (i / j)) (tCB rInt1 (tCons (tOp (rIx K) (tVar j) (tC (.int 0))) tNil)) (tVar jm)) (gSub (tVar j) (tC (.int 0)) rSetL))
          (tSeq (tIfS (tTest (tOp (rEqD K) (tOp (rIx K) (tVar j) (tC (.int 0))) (tC (.int 0)))) (tDrop (tBM K "list" rPopAt (tVar j) (tCons (tC (.int 0)) tNil))) tNext) u))) tNext) E := fun X N H0 σ H o D m' => by
  obtain ⟨cs, a, b, h1, h2⟩ := id o.env.inv
  have hne' := PoolIn.ne o.env.inv
  have hσ := raw_at o.env hC
  obtain ⟨xm, hm, rm⟩ := o.env.ok.get hM
  obtain ⟨vm, rfl, rm⟩ := rm
  cases rm
  refine ⟨_, hσ, .ref c, cs.length, rfl, .inl ⟨cs.map V.int, SqL.of h2, by rw [List.length_map]⟩, _, _, rfl, rfl, _, rfl, ?_⟩
  show (if decide ((0 : Int) < (cs.length : Int)) = true then _ else _)
  cases cs with
  | nil => exact m'.nx _ _ _ k0 o
  | cons z zs =>
    rw [if_pos (decide_eq_true (by rw [List.length_cons]; omega))]
    refine ⟨_, hσ, .inl ⟨c, _, 0, .int z, rfl, rfl, SqL.of h2, atI_of' (j := 0) rfl, ?_⟩⟩
    refine .inl ⟨z, rfl, ?_⟩
    refine ⟨_, hm, z, n, rfl, rfl, hn, ?_⟩
    have o1 : Ok (poolW p c) X N H0 H (σ.set jd (some (.int (z % n)))) (G.set jd (.d (.int (z % n)))) := o.put (.int _)
    have hC1 : (G.set jd (.d (.int (z % n))))[j]? = some (.raw (.ref c)) := by rw [List.getElem?_set_ne hne]; exact hC
    have hσ1 := raw_at o1.env hC1
    have hm1 : (σ.set jd (some (.int (z % n))))[jm]? = some (some (.int n)) := by rw [List.getElem?_set_ne hnm]; exact hm
    refine ⟨_, hσ1, .inl ⟨c, _, 0, .int z, rfl, rfl, SqL.of h2, atI_of' (j := 0) rfl, ?_⟩⟩
    refine .inl ⟨z, rfl, ?_⟩
    refine ⟨_, hm1, z, n, rfl, rfl, hw z, ?_⟩
    refine ⟨_, hσ1, c, _, 0, 0, rfl, rfl, h2, by unfold ixN; simp, ?_⟩
    have h2' : (upd H c (.lst ((z :: zs).map V.int |>.set 0 (.int (z / n))))) c = some (.lst (((z / n) :: zs).map V.int)) := by rw [upd_same]; rfl
    have h1' : (upd H c (.lst ((z :: zs).map V.int |>.set 0 (.int (z / n))))) p = some (.lst [.int a, .int b, .ref c]) := by rw [upd_ne hne']; exact h1
    have o2 := o1.pool (.inr rfl) h2 (ys := (z :: zs).map V.int |>.set 0 (.int (z / n))) ⟨(z / n) :: zs, a, b, h1', h2'⟩
    generalize upd H c (.lst ((z :: zs).map V.int |>.set 0 (.int (z / n)))) = H2 at h2' h1' o2
    refine ⟨_, hσ1, .inl ⟨c, _, 0, .int (z / n), rfl, rfl, SqL.of h2', atI_of' (j := 0) rfl, ?_⟩⟩
    dsimp only [tC]
    refine opd_eq (K := K) (x := .int (z / n)) (y := .int 0) rfl rfl (KK := fun d => ∃ b, d = .bl b) ⟨_, rfl⟩ (fun _ => False) (fun _ => False) _ _ H2 (.inl (.int _)) (.inl (.int _)) (fun _ h => h.elim) _ fun d v H3 ⟨bb, hb⟩ ex3 r3 => ?_
    subst hb
    cases r3
    have k2 : ∀ a o, H2 a = some o → H3 a = some o := fun a o e => (ex3 fun _ => False).kp a o e fun m => m.elim
    have o3 := o2.mono (ex3 _) (inv_same o2.env.inv ex3)
    have h2'' := k2 _ _ h2'
    have h1'' := k2 _ _ h1'
    refine ⟨bb, rfl, ?_⟩
    cases bb with
    | false => exact k z X N H0 _ _ o3 D m'
    | true =>
      rw [if_pos rfl]
      refine ⟨_, hσ1, .inl ⟨rfl, _, SqL.of h2''⟩, c, _, 0, 0, .int (z / n), rfl, rfl, h2'', by decide, by decide, by unfold seqIndex?; simp, rfl, ?_⟩
      refine k z X N H0 _ _ (o3.pool (.inr rfl) h2'' ⟨zs, a, b, ?_, upd_same⟩) D m'
      rw [upd_ne hne']; exact h1''
end
/-- f() -/
theorem pe_has0 {X : Cx} {lv : Nat} {x : Str} {ps : List Str} {sp : Sp} {p pos : Pos} (h : Has X.prog X.w X.K X.mg X.base lv x ps sp) (hr : Room lv X.A) (hg : Gl X x := by rfl)
    (hdb : (x == ("__debug__" : Str)) = false := by decide) : PE X (.Call (.Name x p) [] [] pos) (tCall sp [] E0 tNil) := by
  obtain ⟨f, fd, hm, hk, hb, F⟩ := h
  exact pe_call0 F hr hg hm hk hb .nil pass0 hdb
/-! ### sum of ints -/
theorem cd_sum {K : PySem.W.Frag} {e : Ent} {ns : List Int} {KK : D → Prop} (h : entD e = some (.lst (ns.map D.int))) (k : KK (.int ns.sum)) : CallD (rSum K) [e] KK := fun M vs H r0 th Q q => by
  obtain ⟨v, rfl, r⟩ := vs1 r0
  obtain ⟨a, us, rfl, ha, s⟩ := entV_lst r h
  have e := RepAll.ints s
  subst e
  exact ⟨a, ns, rfl, .inl (.inl ha), q _ _ H k (fun _ => Ex.refl _ _) (.int _)⟩
section
variable {X : Cx} {K : PySem.W.Frag} {lv1 lv2 : Nat} {x1 x2 : Str} {ps1 ps2 : List Str} {sp1 sp2 : Sp} {e ie : Expr} {es : List Expr} {t : TA} {ti : TE} {p1 p2 q1 q2 pos : Pos} {W : WX}
theorem pe_pick2K (tk : Takes X W) (h1 : HasX X.prog X.w X.K X.mg X.base lv1 x1 ps1 sp1) (h2 : HasX X.prog X.w X.K X.mg X.base lv2 x2 ps2 sp2) (hr1 : Room lv1 X.A) (hr2 : Room lv2 X.A) (hi : PE X ie ti) (ha : PA X (e :: es) t)
    (hs : PlainIx ie) (he : eval (.Call (.Subscript (.List [.Name x1 p1, .Name x2 p2] q1) ie q2) (e :: es) [] pos) X.env = (do callWith pos (← eval (.Subscript (.List [.Name x1 p1, .Name x2 p2] q1) ie q2) X.env) [] (backTo pos (starEach (e :: es) X.env)) (backToKw pos (keywordEach [] X.env))))
    (hK : X.K = K := by rfl) (hg1 : Gl X x1 := by rfl) (hg2 : Gl X x2 := by rfl) (hd1 : (x1 == ("__debug__" : Str)) = false := by decide) (hd2 : (x2 == ("__debug__" : Str)) = false := by decide)
    (hst : starEach (e :: es) X.env = (false, eval e X.env) :: starEach es X.env := by rfl) (hpl : (backTo pos (starEach es X.env)).any (·.1) = false := by rfl) :
    PE X (.Call (.Subscript (.List [.Name x1 p1, .Name x2 p2] q1) ie q2) (e :: es) [] pos) (tPick2 K W sp1 sp2 ti t) := by
  subst hK
  exact pe_pick2 tk h1 h2 hr1 hr2 hi ha hs he hg1 hg2 hd1 hd2 hst hpl
end
end Pd

/-! sorted of pairs of a number and a row of numbers -/
namespace L2
open PySem PySem.Spec PyProof.Rows
abbrev LP := Int × List Int
def pairE (p : LP) : PyData := .tuple [.int p.1, .tuple (p.2.map .int)]
def PairAt (H : Hp) (u : V) (p : LP) : Prop := ∃ a b, u = V.ref a ∧ Rd H a (.tup [.int p.1, .ref b]) ∧ Rd H b (.tup (p.2.map V.int))
def sortP (ps : List LP) : List LP := ps.mergeSort (PySem.W.dataLe false pairE)
def rSortP (K : PySem.W.Frag) : List V → Hp → VK → Prop := fun vs H Q => ∃ (l : Addr) (us : List V) (ps : List LP), vs = [V.ref l] ∧ SqL K H l us ∧ PySem.W.EachIs (PairAt H) us ps ∧ ps.length ≤ 4000 ∧
  ∀ (qs : List V) (p : Addr), PySem.W.EachIs (PairAt H) qs (sortP ps) → H p = none → Q (.ref p) (upd H p (.lst qs))
theorem reads_ints {h : Heap} : ∀ {us : List Value} {ns : List Int}, IntsAre us ns → ReadsAll h us (ns.map .int) []
  | _, _, .nil => .nil
  | _, _, .cons _ _ r => .cons (as := []) (bs := []) (.int _ _) (reads_ints r)
section
variable {X : Cx} {pins : List (Addr × Obj)} {σ : List (Option V)} {H : Hp} {s : Shared}
theorem reads_pair (I : Inv X pins σ H s) {u : V} {v : Value} {p : LP} (r : RelV u v) (h : PairAt H u p) : ∃ as, Reads s.heap v (pairE p) as := by
  obtain ⟨a, b, rfl, ha, hb⟩ := h
  cases r
  obtain ⟨_, its, r1, o, ho, hc, n, hd⟩ := ha.ok I.hok
  obtain ⟨_, its2, r2, o2, ho2, hc2, n2, hd2⟩ := hb.ok I.hok
  obtain ⟨u1, u2, rfl, ri, rj⟩ := vals2 r1
  obtain ⟨t1, rfl⟩ := ri
  cases rj
  exact ⟨_, .tuple ho hc hd (.cons (.int _ _) (.cons (.tuple ho2 hc2 hd2 (reads_ints r2.ints)) .nil))⟩
theorem each_vals {R : V → LP → Prop} : ∀ {us : List V} {its : List Value} {ps : List LP}, Vals us its → PySem.W.EachIs R us ps → PySem.W.EachIs (fun v p => ∃ u, RelV u v ∧ R u p) its ps
  | _, _, _, .nil, .nil => .nil
  | _, _, _, .cons r rs, .cons h hs => .cons ⟨_, r, h⟩ (each_vals rs hs)
theorem vals_each {R : V → LP → Prop} : ∀ {its : List Value} {ps : List LP}, PySem.W.EachIs (fun v p => ∃ u, RelV u v ∧ R u p) its ps → ∃ us, Vals us its ∧ PySem.W.EachIs R us ps
  | _, _, .nil => ⟨[], .nil, .nil⟩
  | _, _, .cons ⟨u, r, h⟩ hs => by
    obtain ⟨us, r1, h1⟩ := vals_each hs
    exact ⟨u :: us, .cons r r1, .cons h h1⟩
theorem alike_pair (p q : LP) : PySem.W.alike (pairE p) (pairE q) = true := by
  unfold pairE
  simp only [PySem.W.alike, PySem.W.alikeAll, PySem.W.alike_ints, Bool.and_self]
theorem depth_pair (p : LP) : (pairE p).depth ≤ 2 := by
  unfold pairE
  simp only [PyData.depth, PyData.depthAll, PySem.W.depth_ints]
  decide
theorem cr_sortP (hu : X.A.units + 64 < cLine) : CallR X (.builtin "sorted") (rSortP X.K) := by
  intro pins s σ H vs us Q I r h
  obtain ⟨a, vs, ps, rfl, hs, hp, hl4, q⟩ := h
  obtain ⟨its, rv, hl, hz⟩ := I.list hs
  rw [Vals.ref1 r]
  have e := each_vals rv hp
  refine PySem.W.sorted_data (R := fun v p => ∃ u, RelV u v ∧ PairAt H u p) (enc := pairE) hl.isList e (e.mono fun v p ⟨u, r, h⟩ => reads_pair I r h) (.of alike_pair) (.tuples fun b => ⟨_, _, rfl⟩) (by rw [sizeLine_eq]; omega) (fun b _ => by have := depth_pair b; omega) fun out hlen he => ?_
  obtain ⟨qs, rq, hq⟩ := vals_each he
  obtain ⟨ep, he'⟩ := PyProof.Rows.sortedAll_at s.heap its out.toArray
  have hle : qs.length ≤ sizeLine := by rw [rq.length, hlen, sizeLine_eq]; omega
  exact ⟨.ref _, upd H (s.heap.objs.size + 1) (.lst qs), I.laid (t' := s.toks) (fun _ _ => PyProof.Rows.sortedAll_old) (Nat.le_succ _) ⟨hle, out, ep, rq, he'⟩, rfl, q _ _ hq (I.hok.fresh (Nat.le_succ _))⟩
theorem pe_sortP {a : Expr} {ta : TE} {p2 q2 : Pos} (hu : X.A.units + 64 < cLine) (hg : Gl X "sorted") (hm : X.mg "sorted" = none) (ha : PE X a ta)
    (h3 : starEach [a] X.env = (false, eval a X.env) :: starEach [] X.env := by rfl) (h4 : (backTo q2 (starEach [] X.env)).any (·.1) = false := by rfl) :
    PE X (.Call (.Name "sorted" p2) [a] [] q2) (tCB (rSortP X.K) (tCons ta tNil)) :=
  pe_callB (cr_sortP hu) hg hm (by decide +kernel) (pa_cons ha pa_nil h3) (by decide) (by decide) h3 h4
/-- the order -/
theorem le_pair {p q : LP} (h : PySem.W.dataLe false pairE p q = true) : p.1 ≤ q.1 ∧ (p.1 = q.1 → ¬ q.2 < p.2) := by
  have h : (!PySem.W.dataLt (pairE q) (pairE p)) = true := h
  unfold pairE at h
  rw [PySem.W.dataLt_pair (by simp [PySem.W.alike]) (by simp only [PySem.W.alike, PySem.W.alike_ints]), PySem.W.dataLt_int, PySem.W.dataLt_tuple] at h
  have e := PySem.W.dataLt_ints q.2 p.2
  unfold PySem.W.rowLt at e
  rw [e] at h
  by_cases h1 : q.1 = p.1
  · refine ⟨by omega, fun _ h2 => ?_⟩
    rw [if_pos (by simp [PyData.eqv, h1])] at h
    by_cases h3 : PyData.eqv (.tuple (q.2.map .int)) (.tuple (p.2.map .int)) = true
    · have h4 : q.2 = p.2 := of_decide_eq_true ((Pd.eqv_map _ Pd.eqv_int q.2 p.2).symm.trans h3)
      rw [h4] at h2
      exact absurd h2 (List.lt_irrefl _)
    · rw [if_neg h3, decide_eq_true h2] at h
      cases h
  · rw [if_neg (by simp [PyData.eqv, h1])] at h
    refine ⟨?_, fun z => absurd z.symm h1⟩
    by_cases h2 : q.1 < p.1
    · rw [decide_eq_true h2] at h; cases h
    · omega
theorem sortP_perm (ps : List LP) : (sortP ps).Perm ps := List.mergeSort_perm _ _
theorem sortP_up (ps : List LP) : (sortP ps).Pairwise fun p q => p.1 ≤ q.1 ∧ (p.1 = q.1 → ¬ q.2 < p.2) :=
  (PySem.W.sort_pairwise (PySem.W.sortLe_total _ _ _) ps).imp fun h => le_pair h
end
end L2
namespace Pd
open PySem L2 RZ PyProof.Rows
def lpD (p : LP) : D := .tup [.int p.1, .tup (p.2.map D.int)]
theorem pair_of {M : Addr → Prop} {H : Hp} {v : V} {p : LP} (r : Rep M H v (lpD p)) : PairAt H v p := by
  unfold lpD at r
  cases r with
  | @tup a us _ ha s =>
    cases s with
    | cons r1 s =>
      cases s with
      | cons r2 s =>
        cases s
        cases r1
        cases r2 with
        | @tup b ws _ hb s2 =>
          have e := RepAll.ints s2
          subst e
          exact ⟨a, b, rfl, ha, hb⟩
theorem pairs_of {M : Addr → Prop} {H : Hp} : ∀ {vs : List V} {ps : List LP}, RepAll M H vs (ps.map lpD) → PySem.W.EachIs (PairAt H) vs ps
  | [], [], _ => .nil
  | _ :: _, p :: ps, .cons r s => .cons (pair_of r) (pairs_of s)
theorem of_pair {M : Addr → Prop} {H : Hp} {v : V} {p : LP} (h : PairAt H v p) : Rep M H v (lpD p) := by
  obtain ⟨a, b, rfl, ha, hb⟩ := h
  exact .tup ha (.cons (.int _) (.cons (.tup hb (RepAll.of_ints _)) .nil))
theorem of_pairs {M : Addr → Prop} {H : Hp} : ∀ {vs : List V} {ps : List LP}, PySem.W.EachIs (PairAt H) vs ps → RepAll M H vs (ps.map lpD)
  | _, _, .nil => .nil
  | _, _, .cons h hs => .cons (of_pair h) (of_pairs hs)
section
variable {W : Wd} {G : List Ent} {te : TE} {K : PySem.W.Frag}
/-- sorted of pairs -/
theorem evl_sortP {KL : List D → Prop} (h : Ev W G te fun d => ∃ ps : List LP, d = .lst (ps.map lpD) ∧ ps.length ≤ 4000 ∧ KL ((sortP ps).map lpD)) :
    EvL W G (tCB (rSortP K) (tCons te tNil)) KL := fun X σ H E Q q =>
  h X σ H E _ fun d v H' k ex inv r => by
    obtain ⟨ps, rfl, hl, k⟩ := k
    cases r with
    | @lst a us _ hm ha s => exact ⟨a, us, ps, rfl, .inl (.inl ha), pairs_of s, hl, fun qs p hq hp => evl_new E q ex inv k (of_pairs hq) p hp⟩
end
end Pd

/-! xs[i] op= e of an own list; ranges walked from their end -/
namespace Bm
theorem less_half (a b : Nat) : (a - (a &&& b)) / 2 = a / 2 - (a / 2 &&& b / 2) := by
  have h1 : (a &&& b) / 2 = a / 2 &&& b / 2 := Nat.and_div_two
  have h2 : a &&& b ≤ a := Nat.and_le_left
  have h3 : (a &&& b) % 2 = 1 ↔ a % 2 = 1 ∧ b % 2 = 1 := Nat.and_mod_two_eq_one
  rw [← h1]
  omega
theorem testBit_less (a b : Nat) : ∀ i, (a - (a &&& b)).testBit i = (a.testBit i && !b.testBit i) := fun i => by
  induction i generalizing a b with
  | zero =>
    have h2 : a &&& b ≤ a := Nat.and_le_left
    have h3 : (a &&& b) % 2 = 1 ↔ a % 2 = 1 ∧ b % 2 = 1 := Nat.and_mod_two_eq_one
    rw [Nat.testBit_zero, Nat.testBit_zero, Nat.testBit_zero, Bool.eq_iff_iff]
    simp only [decide_eq_true_eq, Bool.and_eq_true, Bool.not_eq_true', decide_eq_false_iff_not]
    omega
  | succ i ih => rw [Nat.testBit_succ, Nat.testBit_succ a, Nat.testBit_succ b, ← ih, less_half]
theorem and_inv (a b : Nat) : PySem.Builtin.bitAnd (a : Int) (PySem.Builtin.bitNot (b : Int)) = ((a - (a &&& b) : Nat) : Int) := by
  unfold PySem.Builtin.bitAnd
  have h1 : decide (0 ≤ (a : Int)) = true := by simp
  have h2 : decide (0 ≤ PySem.Builtin.bitNot (b : Int)) = false := by unfold PySem.Builtin.bitNot; simp; omega
  rw [h1, h2]
  show (a : Int) - (((a : Int).toNat &&& (PySem.Builtin.bitNot (PySem.Builtin.bitNot (b : Int))).toNat : Nat) : Int) = _
  have e : (PySem.Builtin.bitNot (PySem.Builtin.bitNot (b : Int))).toNat = b := by unfold PySem.Builtin.bitNot; omega
  rw [e, Int.toNat_natCast]
  have : a &&& b ≤ a := Nat.and_le_left
  omega
end Bm
namespace L2
open PySem PySem.Spec PyProof.Rows
section
variable {X : Cx}
def rGetL (K : PySem.W.Frag) : V → V → Hp → VK → Prop := fun o i H Q => ∃ (p : Addr) (xs : List V) (j : Nat) (z : V), o = .ref p ∧ i = .int (j : Nat) ∧ SqL K H p xs ∧ xs[j]? = some z ∧ Q z H
theorem get_list : PGet X (rGetL X.K) := by
  intro pins s σ H o i ov iv Q I ro ri h
  obtain ⟨p, xs, j, z, rfl, rfl, hq, he, q⟩ := h
  cases ro
  obtain ⟨t, rfl⟩ := ri
  obtain ⟨its, r, pl, hz⟩ := I.list hq
  obtain ⟨w, ew, rw'⟩ := r.get he
  have hj : j < xs.length := (List.getElem?_eq_some_iff.mp he).1
  have hn := line63
  exact getItem_listL pl.isList (by omega) (by omega) (by simpa using ew) ⟨z, H, I, rw', q⟩
end
end L2
namespace Pd
open PySem L2 RZ PyProof.Rows
section
variable {W : Wd} {G : List Ent} {te ti : TE} {K : PySem.W.Frag} {E : Post}
/-- xs[i] op= e -/
theorem st_augItem {i : Nat} {l : Addr} {ds : List D} {r : V → V → Hp → VK → Prop} (h : G[i]? = some (.own l ds))
    (k : Ev W G ti fun x => ∃ (j : Nat) (d0 : D), x = .int (j : Nat) ∧ ds[j]? = some d0 ∧ Ev W G te fun y => OpD r d0 y fun z => E.nx (G.set i (.own l (ds.set j z)))) :
    St W G (tAugS (tVar i) ti te (rGetL K) r rSetL) E := fun X N H0 σ H o D m => by
  obtain ⟨e, vs, e1, rr⟩ := o.at h
  refine ⟨_, e, k X σ H o.env _ fun x u H2 k2 ex inv ru => ?_⟩
  obtain ⟨j, d0, rfl, hd, k2⟩ := k2
  cases ru
  have o2 := o.mono ex inv
  obtain ⟨_, vs2, e2, r2⟩ := o2.at h
  obtain ⟨z0, hz0, rz⟩ := r2.get hd
  refine ⟨l, vs2, j, z0, rfl, rfl, SqL.of e2, hz0, ?_⟩
  refine k2 X σ H2 o2.env _ fun y v H4 k4 ex4 inv4 ry => ?_
  have o4 := o2.mono ex4 inv4
  refine k4 W.M _ z0 v H4 (.inl (rz.mono ex4 fun _ m => .inl m)) (.inl ry) (mo_there o4.env) _ fun d z H5 k5 ex5 r5 => ?_
  have o5 := o4.mono (ex5 _) (inv_same inv4 ex5)
  obtain ⟨_, vs5, e5, rr5⟩ := o5.at h
  refine ⟨l, vs5, (j : Int), j, rfl, rfl, e5, ?_, m.nx _ _ _ k5 (o5.change h e5 (RepAll.set r5 j rr5))⟩
  have hj : j < ds.length := (List.getElem?_eq_some_iff.mp hd).1
  unfold ixN
  rw [if_pos (by omega), if_pos (by rw [rr5.length]; omega)]
  simp
/-- n - 1, .., 0 -/
def intsDown (n : Nat) : List D := (List.range n).map fun i => D.int ((n : Int) - 1 - (i : Nat))
theorem intsDown_len (n : Nat) : (intsDown n).length = n := by unfold intsDown; rw [List.length_map, List.length_range]
theorem intsDown_of {n i : Nat} {d : D} (h : (intsDown n)[i]? = some d) : i < n ∧ d = .int ((n : Int) - 1 - (i : Nat)) := by
  have hi : i < n := by have := (List.getElem?_eq_some_iff.mp h).1; rwa [intsDown_len] at this
  unfold intsDown at h
  rw [List.getElem?_map, List.getElem?_range hi] at h
  exact ⟨hi, (Option.some.inj h).symm⟩
theorem evi_down {KK : List D → Prop} (h : Ev W G te fun x => ∃ n : Nat, x = .int (n : Nat) ∧ n < 2 ^ 62 ∧ KK (intsDown n)) : EvI W G (iRevR (tRg1 te)) KK := fun X σ H E R q =>
  h X σ H E _ fun x v H' k ex inv r => by
    obtain ⟨n, rfl, h1, k⟩ := k
    cases r
    have en : ((n : Int) - 0).toNat = n := by omega
    refine ⟨(n : Int), rfl, by omega, by omega, by omega, by omega, ?_⟩
    rw [en]
    refine q _ (Itc (0 + (n : Int) - 1) (-1) n) H' (fun _ => True) (YFn fun i => .int (0 + (n : Int) - 1 + (i : Nat) * (-1))) k ex inv (by rw [intsDown_len]; exact walk_rangeC) (fun _ _ => trivial) fun i H2 x H3 e2 hi y => ?_
    obtain ⟨rfl, rfl⟩ := y
    rw [intsDown_len] at hi
    refine ⟨fun _ => Ex.refl _ _, .int ((n : Int) - 1 - (i : Nat)), by unfold intsDown; rw [List.getElem?_map, List.getElem?_range hi]; rfl, fun _ _ => ?_⟩
    show Rep _ _ (V.int (0 + (n : Int) - 1 + (i : Nat) * (-1))) _
    rw [show (0 : Int) + (n : Int) - 1 + (i : Nat) * (-1) = (n : Int) - 1 - (i : Nat) by omega]
    exact .int _
end
end Pd

/-! comprehensions with two for's -/
namespace Pd
open PySem L2 RZ PyProof.Rows
/-- the world in which a list at l may change as well -/
def Wd.plus (W : Wd) (l : Addr) (us : List V) : Wd := ⟨fun a => W.M a ∨ a = l, fun H => W.inv H ∧ H l = some (.lst us), fun H a i m => by
  rcases m with m | rfl
  · exact W.lst H a i.1 m
  · exact ⟨us, i.2⟩, fun H H' i k => ⟨W.dep H H' i.1 fun a o m => k a o (.inl m), k l _ (.inr rfl) i.2⟩⟩
theorem pi_conv {X : Cx} {tg e : Expr} {t t' : TI} (h : PI X tg e t') (q : t' = t) : PI X tg e t := q ▸ h
theorem it_gen {J : It} {n : Nat} {Gd : Hp → Prop} {Y : Nat → Hp → V → Hp → Prop} (w : Walk J n Gd Y) {B : V → Hp → (Hp → Prop) → Prop} {H0 : Hp} {Qd : Hp → Prop} (Pv : Nat → Hp → Prop) (h0 : Pv 0 H0) (hG : ∀ i H, i ≤ n → Pv i H → Gd H)
    (hs : ∀ i x H H', i < n → Pv i H → Y i H x H' → B x H' (Pv (i + 1))) (hd : ∀ H, Pv n H → Qd H) :
    ∃ W : Nat → Nat → Hp → Prop, (∃ m, W 0 m H0) ∧ ∀ i m H, W i m H →
      (J.stop i H ∧ Qd H) ∨ (J.go i H ∧ ∃ Nx : Hp → Prop, (∀ H', Nx H' → ∃ m', m' < m ∧ W (i + 1) m' H') ∧ ∀ x H', J.yld i H x H' → B x H' Nx) := by
  refine ⟨fun i m H => m = n - i ∧ i ≤ n ∧ Pv i H, ⟨n, by simp, Nat.zero_le _, h0⟩, ?_⟩
  rintro i m H ⟨rfl, hi, p⟩
  have q := hG i H hi p
  by_cases hlt : i < n
  · refine .inr ⟨w.goes i H hlt q, Pv (i + 1), fun H' p' => ⟨n - (i + 1), by omega, rfl, hlt, p'⟩, fun x H' y => hs i x H H' hlt p (w.yields i H x H' hlt q y)⟩
  · have e : i = n := by omega
    subst e
    exact .inl ⟨w.stops H q, hd H p⟩
section
variable {W : Wd} {G : List Ent} {te : TE}
/-- what stands under a comprehension: the new list at l, outside the def's own -/
theorem Env.wipe {W : Wd} {G : List Ent} {X : List Addr} {H : Hp} {σ : L2.St} (E : Env W X H σ G) (vs : List Nat) : Env W X H (L2.wipe σ vs) (wipeG G vs) := by
  have sub := owned_wipe vs G
  refine ⟨(E.ok.wipe vs).less (mo_sub (List.append_subset.mpr ⟨List.subset_append_left _ _, fun a h => List.mem_append_right _ (sub.subset h)⟩)), sub.nodup E.nd, fun l hl => E.ap l (sub.subset hl), E.xs, E.inv⟩
theorem plus_sub {X : List Addr} {l : Addr} {us : List V} {L : List Addr} : ∀ a, mo (W.plus l us) (X ++ L) a → mo W (l :: X ++ L) a := fun a m => by
  rcases m with (m | m) | m
  · exact .inl m
  · rw [m]; exact .inr (List.mem_append_left _ (List.mem_cons_self ..))
  · refine .inr ?_
    rcases List.mem_append.mp m with z | z
    · exact List.mem_append_left _ (List.mem_cons_of_mem _ z)
    · exact List.mem_append_right _ z
theorem plus_sup {X : List Addr} {l : Addr} {us : List V} {L : List Addr} : ∀ a, mo W (l :: X ++ L) a → mo (W.plus l us) (X ++ L) a := fun a m => by
  rcases m with m | m
  · exact .inl (.inl m)
  · rcases List.mem_append.mp m with z | z
    · rcases List.mem_cons.mp z with z | z
      · exact .inl (.inr z)
      · exact .inr (List.mem_append_left _ z)
    · exact .inr (List.mem_append_right _ z)
theorem Env.plus {X : List Addr} {H : Hp} {σ : L2.St} {l : Addr} {us : List V} (E : Env W (l :: X) H σ G) (nX : l ∉ X) (h : H l = some (.lst us)) : Env (W.plus l us) X H σ G := by
  refine ⟨E.ok.less plus_sub, E.nd, fun b hb => ⟨fun m => ?_, fun z => (E.ap b hb).2 (List.mem_cons_of_mem _ z)⟩, fun b hb => ⟨fun m => ?_, (E.xs b (List.mem_cons_of_mem _ hb)).2⟩, E.inv, h⟩
  · rcases m with m | m
    · exact (E.ap b hb).1 m
    · exact (E.ap b hb).2 (by rw [m]; exact List.mem_cons_self ..)
  · rcases m with m | m
    · exact (E.xs b (List.mem_cons_of_mem _ hb)).1 m
    · exact nX (by rw [← m]; exact hb)
/-- the state of a def when the heap has changed at l, or by calls -/
theorem Env.turn {X : List Addr} {H H' : Hp} {σ : L2.St} {l : Addr} {us : List V} (E : Env W (l :: X) H σ G) (ex : Ex (fun a => W.M a ∨ a = l) H H') (inv : W.inv H') : Env W (l :: X) H' σ G := by
  refine ⟨E.ok.mono ex (fun a m => ?_) (fun b hb m => ?_), E.nd, E.ap, fun b hb => ⟨(E.xs b hb).1, ?_⟩, inv⟩
  · rcases m with m | m
    · exact .inl m
    · rw [m]; exact .inr (List.mem_append_left _ (List.mem_cons_self ..))
  · rcases m with m | m
    · exact (E.ap b hb).1 m
    · exact (E.ap b hb).2 (by rw [m]; exact List.mem_cons_self ..)
  · obtain ⟨o, q⟩ := (E.xs b hb).2
    exact ex.th b o q
theorem evl_lc2 {wi wi1 : TI} {g g1 : TG} {tt tt1 : TT} {vs vs1 : List Nat} {KK : List D → Prop} (h : EvI W G wi fun ds => ∃ J : Nat → List D → Prop, J 0 [] ∧ (∀ i d acc, ds[i]? = some d → J i acc → TgC W (wipeG G vs) g vs d fun G2 => owned G2 = owned G ∧ EvT W G2 tt fun b => (b = true → ∀ l us, EvI (W.plus l us) G2 wi1 fun es => ∃ J1 : Nat → List D → Prop, J1 0 acc ∧ (∀ j d1 acc, es[j]? = some d1 → J1 j acc → acc.length < 100000 ∧ TgC W (wipeG G2 vs1) g1 vs1 d1 fun G3 => owned G3 = owned G ∧ EvT W G3 tt1 fun b1 => (b1 = true → Ev W G3 te fun y => J1 (j + 1) (acc ++ [y])) ∧ (b1 = false → J1 (j + 1) acc)) ∧ ∀ acc, J1 es.length acc → J (i + 1) acc) ∧ (b = false → J (i + 1) acc)) ∧ ∀ acc, J ds.length acc → KK acc) :
    EvL W G (tLc2 wi g tt wi1 g1 tt1 te vs vs1) KK := fun X σ H E Q q =>
  h X σ H E _ fun ds It0 H' Gd Y k ex inv wk st it => by
    obtain ⟨J, j0, hs, hd⟩ := k
    intro Dl hDl
    have E1 := E.mono ex inv
    have nW : ¬ W.M Dl := new_ne inv hDl
    have nO : Dl ∉ X ++ owned G := own_neX E1 hDl
    have sub := owned_wipe vs G
    refine it_gen wk (fun i H2 => ∃ acc us, J i acc ∧ Ex W.M H' H2 ∧ W.inv H2 ∧ H2 Dl = some (.lst us) ∧ RepAll (fun a => a = Dl ∨ mo W (X ++ owned G) a) H2 us acc)
      ⟨[], [], j0, Ex.new hDl, W.dep H' _ inv fun a o ma e => by rw [upd_ne fun z => nW (by rw [← z]; exact ma)]; exact e, upd_same, .nil⟩ (fun i H2 _ ⟨_, _, _, e2, _⟩ => st H2 e2.up) ?_ ?_
    · rintro i x H2 H3 hi ⟨acc, us, ja, e2, inv2, eD, rD⟩ y
      obtain ⟨ex3, d, hd', rd⟩ := it i H2 x H3 e2.up hi y
      have inv3 : W.inv H3 := inv_same inv2 ex3
      have e3 : Ex W.M H' H3 := e2.trans (ex3 _)
      have eD3 : H3 Dl = some (.lst us) := (ex3 fun _ => False).kp _ _ eD fun m => m.elim
      have rD3 : RepAll (fun a => a = Dl ∨ mo W (X ++ owned G) a) H3 us acc := rD.mono (ex3 fun _ => False) fun _ m => m.elim
      have Eb : Env W (Dl :: X) H3 (L2.wipe σ vs) (wipeG G vs) := by
        refine ⟨(E1.ok.wipe vs).widen (M := mo W (X ++ owned G)) (p := Dl) hDl e3.up (fun a m => ?_) (fun z => nO (List.mem_append_right _ (sub.subset z))) (fun l hl o q => e3.kp l o q fun m => absurd m (E1.ap l (sub.subset hl)).1), sub.nodup E1.nd, fun l hl => ⟨(E1.ap l (sub.subset hl)).1, fun z => ?_⟩, fun l hl => ?_, inv3⟩
        · rcases m with m | m
          · exact .inr (.inl m)
          · rcases List.mem_cons.mp m with z | z
            · exact .inl z
            · rcases List.mem_append.mp z with z | z
              · exact .inr (.inr (List.mem_append_left _ z))
              · exact .inr (.inr (List.mem_append_right _ (sub.subset z)))
        · rcases List.mem_cons.mp z with z | z
          · exact nO (List.mem_append_right _ (by rw [← z]; exact sub.subset hl))
          · exact (E1.ap l (sub.subset hl)).2 z
        · rcases List.mem_cons.mp hl with z | z
          · rw [z]; exact ⟨nW, _, eD3⟩
          · obtain ⟨n, o, q⟩ := E1.xs l z
            exact ⟨n, e3.th l o q⟩
      have rx : Rep (mo W (Dl :: X ++ owned (wipeG G vs))) H3 x d := rd _ fun a m => by
        rcases m with m | m
        · exact .inl (.inl m)
        · rcases List.mem_cons.mp m with z | z
          · rw [z]; exact .inr hDl
          · rcases List.mem_append.mp z with z | z
            · exact .inl (.inr (List.mem_append_left _ z))
            · exact .inl (.inr (List.mem_append_right _ (sub.subset z)))
      refine hs i d acc hd' ja (Dl :: X) _ H3 σ H3 x (Ok.base Eb) rx _ fun G2 σ2 k2 w2 o2 => ⟨w2, ?_⟩
      obtain ⟨ow, k2⟩ := k2
      refine k2 (Dl :: X) σ2 H3 o2.env _ fun b H4 kb ex4 inv4 => ?_
      have E4 := o2.env.mono ex4 inv4
      have nX : Dl ∉ X := fun z => nO (List.mem_append_left _ z)
      cases b with
      | false =>
        show ∃ acc us, _
        exact ⟨acc, us, kb.2 rfl, e3.trans ex4, inv4, ex4.kp _ _ eD3 fun m => absurd m nW, rD3.mono ex4 fun _ m => .inr (.inl m)⟩
      | true =>
        show wi1 σ2 H4 _
        have eD4 : H4 Dl = some (.lst us) := ex4.kp _ _ eD3 fun m => absurd m nW
        refine kb.1 rfl Dl us X σ2 H4 (E4.plus nX eD4) _ fun es J2 H5 Gd2 Y2 k5 ex5 inv5 wk5 st5 it5 => ?_
        obtain ⟨J1, j10, hs1, hd1⟩ := k5
        have ex5 : Ex (fun a => W.M a ∨ a = Dl) H4 H5 := ex5
        have eD5 : H5 Dl = some (.lst us) := inv5.2
        have E5 : Env W (Dl :: X) H5 σ2 G2 := E4.turn (us := us) ex5 inv5.1
        have sub2 := owned_wipe vs1 G2
        have exA : Ex W.M H' H4 := e3.trans ex4
        -- what H' knows stands at H5, but for the new list
        have back : ∀ {Hx : Hp}, Ex (fun a => W.M a ∨ a = Dl) H4 Hx → Ex W.M H' Hx := fun {Hx} e => ⟨fun a o z m => e.kp a o (exA.kp a o z m) (fun r => r.elim m fun r => by rw [r, hDl] at z; cases z), fun a o z => by
          obtain ⟨o', z'⟩ := exA.th a o z; exact e.th a o' z', fun a o z => by
          obtain ⟨o', z'⟩ := exA.dk a o z; exact e.dk a o' z'⟩
        have rD5 : RepAll (fun a => a = Dl ∨ mo W (X ++ owned G) a) H5 us acc := (rD3.mono ex4 fun _ m => .inr (.inl m)).mono ex5 fun a m => m.elim (fun z => .inr (.inl z)) .inl
        refine it_gen wk5 (fun j H6 => ∃ acc us, J1 j acc ∧ Ex (fun a => W.M a ∨ a = Dl) H5 H6 ∧ W.inv H6 ∧ H6 Dl = some (.lst us) ∧ RepAll (fun a => a = Dl ∨ mo W (X ++ owned G) a) H6 us acc)
          ⟨acc, us, j10, Ex.refl _ _, inv5.1, eD5, rD5⟩ (fun j H6 _ ⟨_, _, _, e6, _⟩ => st5 H6 (e6.weak fun _ m => .inl m)) ?_ ?_
        · rintro j x1 H6 H7 hj ⟨acc1, us1, ja1, e6, inv6, eD6, rD6⟩ y1
          obtain ⟨ex7, d1, hd1', rd1⟩ := it5 j H6 x1 H7 (e6.weak fun _ m => .inl m) hj y1
          have inv7 : W.inv H7 := inv_same inv6 ex7
          have e7 : Ex (fun a => W.M a ∨ a = Dl) H5 H7 := e6.trans (ex7 _)
          have eD7 : H7 Dl = some (.lst us1) := (ex7 fun _ => False).kp _ _ eD6 fun m => m.elim
          have rD7 : RepAll (fun a => a = Dl ∨ mo W (X ++ owned G) a) H7 us1 acc1 := rD6.mono (ex7 fun _ => False) fun _ m => m.elim
          have E7 : Env W (Dl :: X) H7 σ2 G2 := E5.turn (us := us) e7 inv7
          have rx1 : Rep (mo W (Dl :: X ++ owned (wipeG G2 vs1))) H7 x1 d1 := rd1 _ fun a m => .inl (plus_sup a (mo_sub (List.append_subset.mpr ⟨List.subset_append_left _ _, fun a h => List.mem_append_right _ (sub2.subset h)⟩) a m))
          obtain ⟨la1, step1⟩ := hs1 j d1 acc1 hd1' ja1
          refine step1 (Dl :: X) _ H7 σ2 H7 x1 (Ok.base (E7.wipe vs1)) rx1 _ fun G3 σ3 k3 w3 o3 => ⟨w3, ?_⟩
          obtain ⟨ow3, k3⟩ := k3
          refine k3 (Dl :: X) σ3 H7 o3.env _ fun b1 H8 kb1 ex8 inv8 => ?_
          have E8 := o3.env.mono ex8 inv8
          have e8 : Ex (fun a => W.M a ∨ a = Dl) H5 H8 := e7.trans (ex8.weak fun _ m => .inl m)
          have eD8 : H8 Dl = some (.lst us1) := ex8.kp _ _ eD7 fun m => absurd m nW
          have rD8 : RepAll (fun a => a = Dl ∨ mo W (X ++ owned G) a) H8 us1 acc1 := rD7.mono ex8 fun _ m => .inr (.inl m)
          cases b1 with
          | false =>
            show ∃ acc us, _
            exact ⟨acc1, us1, kb1.2 rfl, e8, inv8, eD8, rD8⟩
          | true =>
            show te σ3 H8 _
            refine kb1.1 rfl (Dl :: X) σ3 H8 E8 _ fun d' v H9 j9 ex9 inv9 r9 => ?_
            have eD9 : H9 Dl = some (.lst us1) := ex9.kp _ _ eD8 fun m => absurd m nW
            refine ⟨us1, eD9, small_len (by rw [rD7.length]; exact la1), acc1 ++ [d'], us1 ++ [v], j9, ?_, W.dep H9 _ inv9 fun a o ma e => by rw [upd_ne fun z => nW (by rw [← z]; exact ma)]; exact e, upd_same, ?_⟩
            · exact (e8.trans (ex9.weak fun _ m => .inl m)).trans (Ex.mut (.inr rfl) eD9)
            · have r9' : Rep (fun a => a = Dl ∨ mo W (X ++ owned G) a) H9 v d' := r9.less fun a m => by
                rw [ow3]
                rcases m with m | m
                · rw [m]; exact .inr (List.mem_cons_self ..)
                · exact m.imp id fun z => List.mem_cons_of_mem _ z
              have rD9 : RepAll (fun a => a = Dl ∨ mo W (X ++ owned G) a) H9 us1 acc1 := rD8.mono ex9 fun _ m => .inr (.inl m)
              exact RepAll.upd' (M := fun a => a = Dl ∨ mo W (X ++ owned G) a) (p := Dl) (fun a o z e => by rw [upd_ne z]; exact e) (fun o e => by rw [eD9] at e; cases e; exact ⟨_, rfl⟩) (fun a m => .inr m) (.inl rfl) (rD9.append (.cons r9' .nil))
        · rintro H6 ⟨acc1, us1, ja1, e6, inv6, eD6, rD6⟩
          exact ⟨acc1, us1, hd1 acc1 ja1, back (ex5.trans e6), inv6, eD6, rD6⟩
    · rintro H2 ⟨acc, us, ja, e2, inv2, eD, rD⟩
      exact q acc Dl us H2 (hd acc ja) (ex.none hDl) (ex.trans e2) inv2 eD nW rD
/-- a dict comprehension into a name: keys of ints, none twice -/
theorem st_dcomp {E : Post} {wi : TI} {g : TG} {tt : TT} {tk tv : TE} {vs : List Nat} {i0 : Nat} (h : EvI W G wi fun ds => ds.length < 100000 ∧ ∃ J : Nat → List Int → List D → Prop, J 0 [] [] ∧ (∀ i d ns acc, ds[i]? = some d → J i ns acc → TgC W (wipeG G vs) g vs d fun G2 => owned G2 = owned G ∧ EvT W G2 tt fun b => (b = true → Ev W G2 tk fun y => Ev W G2 tv fun z => ∃ n, y = .int n ∧ n ∉ ns ∧ J (i + 1) (ns ++ [n]) (acc ++ [z])) ∧ (b = false → J (i + 1) ns acc)) ∧ ∀ ns acc l, J ds.length ns acc → E.nx (G.set i0 (.odk l ns acc))) :
    St W G (tAsg (tDc wi g tt tk tv vs) (gName i0)) E := fun X N H0 σ H o De m =>
  h X σ H o.env _ fun ds It0 H' Gd Y k ex inv wk st it => by
    obtain ⟨hlen, J, j0, hs, hd⟩ := k
    intro Dl hDl
    have E1 := o.env.mono ex inv
    have nW : ¬ W.M Dl := new_ne inv hDl
    have nO : Dl ∉ X ++ owned G := own_neX E1 hDl
    have sub := owned_wipe vs G
    refine it_gen wk (fun i H2 => ∃ ns acc us, J i ns acc ∧ ns.length ≤ i ∧ ns.length = acc.length ∧ Ex W.M H' H2 ∧ W.inv H2 ∧ H2 Dl = some (.dK (kvI ns us)) ∧ RepAll (fun a => a = Dl ∨ mo W (X ++ owned G) a) H2 us acc)
      ⟨[], [], [], j0, Nat.le_refl _, rfl, Ex.new hDl, W.dep H' _ inv fun a o ma e => by rw [upd_ne fun z => nW (by rw [← z]; exact ma)]; exact e, upd_same, .nil⟩ (fun i H2 _ ⟨_, _, _, _, _, _, e2, _⟩ => st H2 e2.up) ?_ ?_
    · rintro i x H2 H3 hi ⟨ns, acc, us, ja, la, hna, e2, inv2, eD, rD⟩ y
      obtain ⟨ex3, d, hd', rd⟩ := it i H2 x H3 e2.up hi y
      have inv3 : W.inv H3 := inv_same inv2 ex3
      have e3 : Ex W.M H' H3 := e2.trans (ex3 _)
      have eD3 : H3 Dl = some (.dK (kvI ns us)) := by
        have z := ex3 (fun _ => False)
        exact z.kp _ _ eD fun m => m.elim
      have rD3 : RepAll (fun a => a = Dl ∨ mo W (X ++ owned G) a) H3 us acc := rD.mono (ex3 fun _ => False) fun _ m => m.elim
      have Eb : Env W (Dl :: X) H3 (L2.wipe σ vs) (wipeG G vs) := by
        refine ⟨(E1.ok.wipe vs).widen (M := mo W (X ++ owned G)) (p := Dl) hDl e3.up (fun a m => ?_) (fun z => nO (List.mem_append_right _ (sub.subset z))) (fun l hl o q => e3.kp l o q fun m => absurd m (E1.ap l (sub.subset hl)).1), sub.nodup E1.nd, fun l hl => ⟨(E1.ap l (sub.subset hl)).1, fun z => ?_⟩, fun l hl => ?_, inv3⟩
        · rcases m with m | m
          · exact .inr (.inl m)
          · rcases List.mem_cons.mp m with z | z
            · exact .inl z
            · rcases List.mem_append.mp z with z | z
              · exact .inr (.inr (List.mem_append_left _ z))
              · exact .inr (.inr (List.mem_append_right _ (sub.subset z)))
        · rcases List.mem_cons.mp z with z | z
          · exact nO (List.mem_append_right _ (by rw [← z]; exact sub.subset hl))
          · exact (E1.ap l (sub.subset hl)).2 z
        · rcases List.mem_cons.mp hl with z | z
          · rw [z]; exact ⟨nW, _, eD3⟩
          · obtain ⟨n, o, q⟩ := E1.xs l z
            exact ⟨n, e3.th l o q⟩
      have rx : Rep (mo W (Dl :: X ++ owned (wipeG G vs))) H3 x d := rd _ fun a m => by
        rcases m with m | m
        · exact .inl (.inl m)
        · rcases List.mem_cons.mp m with z | z
          · rw [z]; exact .inr hDl
          · rcases List.mem_append.mp z with z | z
            · exact .inl (.inr (List.mem_append_left _ z))
            · exact .inl (.inr (List.mem_append_right _ (sub.subset z)))
      refine hs i d ns acc hd' ja (Dl :: X) _ H3 σ H3 x (Ok.base Eb) rx _ fun G2 σ2 k2 w2 o2 => ⟨w2, ?_⟩
      obtain ⟨ow, k2⟩ := k2
      refine k2 (Dl :: X) σ2 H3 o2.env _ fun b H4 kb ex4 inv4 => ?_
      have E4 := o2.env.mono ex4 inv4
      have fD : ∀ {Ha Hb : Hp} {o : HO}, Ex W.M Ha Hb → Ha Dl = some o → Hb Dl = some o := fun e q => e.kp _ _ q fun m => absurd m nW
      cases b with
      | true =>
        show tk σ2 H4 _
        refine kb.1 rfl (Dl :: X) σ2 H4 E4 _ fun dy y H5 k5 ex5 inv5 r5 => ?_
        have E5 := E4.mono ex5 inv5
        refine k5 (Dl :: X) σ2 H5 E5 _ fun dz z H6 k6 ex6 inv6 r6 => ?_
        obtain ⟨n, rfl, hn, j6⟩ := k6
        cases r5
        have e36 := (ex4.trans ex5).trans ex6
        have eD6 : H6 Dl = some (.dK (kvI ns us)) := fD e36 eD3
        have rD6 : RepAll (fun a => a = Dl ∨ mo W (X ++ owned G) a) H6 us acc := rD3.mono e36 fun _ m => .inr (.inl m)
        have r6' : Rep (fun a => a = Dl ∨ mo W (X ++ owned G) a) H6 z dz := r6.less fun a m => by
          rw [ow]
          rcases m with m | m
          · rw [m]; exact .inr (List.mem_cons_self ..)
          · exact m.imp id fun z => List.mem_cons_of_mem _ z
        have hlu : us.length = acc.length := rD6.length
        refine ⟨kvI ns us, Sum.inl n, rfl, eD6, small_len (Nat.lt_of_le_of_lt kvI_len (by omega)), ns ++ [n], acc ++ [dz], us ++ [z], j6, by rw [List.length_append, List.length_singleton]; omega, by rw [List.length_append, List.length_append, hna]; rfl, (e3.trans e36).mutN hDl, W.dep H6 _ inv6 fun a o ma e => by rw [upd_ne fun z => nW (by rw [← z]; exact ma)]; exact e, by rw [upd_same, kvI_snoc (by omega) hn], ?_⟩
        exact (rD6.append (.cons r6' .nil)).updK eD6
      | false =>
        show ∃ ns acc us, _
        exact ⟨ns, acc, us, kb.2 rfl, by omega, hna, e3.trans ex4, inv4, fD ex4 eD3, rD3.mono ex4 fun _ m => .inr (.inl m)⟩
    · rintro H2 ⟨ns, acc, us, ja, _, hna, e2, inv2, eD, rD⟩
      have exA : Ex W.M H H2 := ex.trans e2
      have o1 := o.mono exA inv2
      have n0 : H Dl = none := ex.none hDl
      have ow : owned (G.set i0 (.odk Dl ns acc)) = owned (G.set i0 (.own Dl [])) := owned_same (e := .odk Dl ns acc) (e' := .own Dl []) rfl
      have nv : EntsOk (fun a => a = Dl ∨ mo W (X ++ owned G) a) H2 σ G := o.env.ok.widen n0 exA.up (fun a m => m) (own_ne o.env n0) (o.env.keepOwn exA)
      refine m.nx _ _ _ (hd ns acc Dl ja) ⟨⟨(EntsOk.set (x := some (.ref Dl)) (e := .odk Dl ns acc) ⟨rfl, hna, us, eD, rD⟩ i0 nv).less fun a m => mutSubK a m, by rw [ow]; exact nodup_setOwn o.env.nd fun z => nO (List.mem_append_right _ z), fun b q => ?_, o1.env.xs, inv2⟩, o1.ex, fun b q => ?_⟩
      · rw [ow] at q
        rcases owned_setOwn b q with z | z
        · subst z; exact ⟨nW, fun z => nO (List.mem_append_left _ z)⟩
        · exact o.env.ap b z
      · rw [ow] at q
        rcases owned_setOwn b q with z | z
        · subst z; exact .inl (o.ex.none n0)
        · exact o.nw b z
end
end Pd
namespace L2
open PySem PySem.Spec PyProof.Rows
/-! sorted of rows of ints, none empty: a first one and the others -/
abbrev RP := Int × List Int
def rowL (p : RP) : List Int := p.1 :: p.2
def rowE (p : RP) : PyData := .tuple (.int p.1 :: p.2.map .int)
def RowAt (H : Hp) (u : V) (p : RP) : Prop := ∃ a, u = V.ref a ∧ Rd H a (.tup ((rowL p).map V.int))
def sortR (ps : List RP) : List RP := ps.mergeSort (PySem.W.dataLe false rowE)
def rSortR (K : PySem.W.Frag) : List V → Hp → VK → Prop := fun vs H Q => ∃ (l : Addr) (us : List V) (ps : List RP), vs = [V.ref l] ∧ SqL K H l us ∧ PySem.W.EachIs (RowAt H) us ps ∧ ps.length ≤ 40000 ∧
  ∀ (qs : List V) (p : Addr), PySem.W.EachIs (RowAt H) qs (sortR ps) → H p = none → Q (.ref p) (upd H p (.lst qs))
section
variable {X : Cx} {pins : List (Addr × Obj)} {σ : List (Option V)} {H : Hp} {s : Shared}
theorem rowE_eq (p : RP) : rowE p = .tuple ((rowL p).map .int) := rfl
theorem reads_row (I : Inv X pins σ H s) {u : V} {v : Value} {p : RP} (r : RelV u v) (h : RowAt H u p) : ∃ as, Reads s.heap v (rowE p) as := by
  obtain ⟨a, rfl, ha⟩ := h
  cases r
  obtain ⟨_, its, r1, o, ho, hc, n, hd⟩ := ha.ok I.hok
  exact ⟨_, .tuple ho hc hd (reads_ints r1.ints)⟩
theorem each_valsR {R : V → RP → Prop} : ∀ {us : List V} {its : List Value} {ps : List RP}, Vals us its → PySem.W.EachIs R us ps → PySem.W.EachIs (fun v p => ∃ u, RelV u v ∧ R u p) its ps
  | _, _, _, .nil, .nil => .nil
  | _, _, _, .cons r rs, .cons h hs => .cons ⟨_, r, h⟩ (each_valsR rs hs)
theorem vals_eachR {R : V → RP → Prop} : ∀ {its : List Value} {ps : List RP}, PySem.W.EachIs (fun v p => ∃ u, RelV u v ∧ R u p) its ps → ∃ us, Vals us its ∧ PySem.W.EachIs R us ps
  | _, _, .nil => ⟨[], .nil, .nil⟩
  | _, _, .cons ⟨u, r, h⟩ hs => by
    obtain ⟨us, r1, h1⟩ := vals_eachR hs
    exact ⟨u :: us, .cons r r1, .cons h h1⟩
theorem alike_row (p q : RP) : PySem.W.alike (rowE p) (rowE q) = true := by
  rw [rowE_eq, rowE_eq]
  simp only [PySem.W.alike, PySem.W.alike_ints]
theorem depth_row (p : RP) : (rowE p).depth ≤ 2 := by
  rw [rowE_eq]
  simp only [PyData.depth, PySem.W.depth_ints]
  decide
theorem cr_sortR (hu : X.A.units + 64 < cLine) : CallR X (.builtin "sorted") (rSortR X.K) := by
  intro pins s σ H vs us Q I r h
  obtain ⟨a, vs, ps, rfl, hs, hp, hl4, q⟩ := h
  obtain ⟨its, rv, hl, hz⟩ := I.list hs
  rw [Vals.ref1 r]
  have e := each_valsR rv hp
  refine PySem.W.sorted_data (R := fun v p => ∃ u, RelV u v ∧ RowAt H u p) (enc := rowE) hl.isList e (e.mono fun v p ⟨u, r, h⟩ => reads_row I r h) (.of alike_row) (.tuples fun b => ⟨_, _, rfl⟩) (by rw [sizeLine_eq]; omega) (fun b _ => by have := depth_row b; omega) fun out hlen he => ?_
  obtain ⟨qs, rq, hq⟩ := vals_eachR he
  obtain ⟨ep, he'⟩ := PyProof.Rows.sortedAll_at s.heap its out.toArray
  have hle : qs.length ≤ sizeLine := by rw [rq.length, hlen, sizeLine_eq]; omega
  exact ⟨.ref _, upd H (s.heap.objs.size + 1) (.lst qs), I.laid (t' := s.toks) (fun _ _ => PyProof.Rows.sortedAll_old) (Nat.le_succ _) ⟨hle, out, ep, rq, he'⟩, rfl, q _ _ hq (I.hok.fresh (Nat.le_succ _))⟩
theorem pe_sortR {a : Expr} {ta : TE} {p2 q2 : Pos} (hu : X.A.units + 64 < cLine) (hg : Gl X "sorted") (hm : X.mg "sorted" = none) (ha : PE X a ta)
    (h3 : starEach [a] X.env = (false, eval a X.env) :: starEach [] X.env := by rfl) (h4 : (backTo q2 (starEach [] X.env)).any (·.1) = false := by rfl) :
    PE X (.Call (.Name "sorted" p2) [a] [] q2) (tCB (rSortR X.K) (tCons ta tNil)) :=
  pe_callB (cr_sortR hu) hg hm (by decide +kernel) (pa_cons ha pa_nil h3) (by decide) (by decide) h3 h4
theorem sortR_perm (ps : List RP) : (sortR ps).Perm ps := List.mergeSort_perm _ _
theorem sortR_up (ps : List RP) : (sortR ps).Pairwise fun p q => ¬ rowL q < rowL p :=
  (PySem.W.sort_pairwise (PySem.W.sortLe_total _ _ _) ps).imp fun {p q} h => by
    have h : (!PySem.W.dataLt (rowE q) (rowE p)) = true := h
    have e := PySem.W.dataLt_ints (rowL q) (rowL p)
    unfold PySem.W.rowLt at e
    rw [rowE_eq, rowE_eq, PySem.W.dataLt_tuple, e] at h
    simpa using h
/-- a method of a tuple of the heap -/
def tTM (K : PySem.W.Frag) (r : V → List V → Hp → VK → Prop) (to : TE) (t : TA) : TE := fun σ H Q => to σ H fun x H1 => (∃ (p : Addr) (o : Obj) (xs : List V), x = .ref p ∧ H1 p = some (.frz o (.tup xs)) ∧ o.dict = none) ∧ t σ H1 fun xs H2 => r x xs H2 Q
theorem pe_tm {o e : Expr} {es : List Expr} {to : TE} {t : TA} {name : Str} {apos cpos : Pos} {id : String} {r : V → List V → Hp → VK → Prop} (pa : PlainAttrs "tuple") (slot : Slot "tuple" name id) (hty : typeOf (.builtin id) = pure (.type "method_descriptor")) (hm : MtR X id r) (ho : PE X o to) (ha : PA X (e :: es) t)
    (hbase : attributeBase o name X.env (eval o X.env) = eval o X.env := by rfl)
    (hfew : ((backTo cpos (starEach (e :: es) X.env)).all (fun x => !x.1) && (backToKw cpos (keywordEach [] X.env)).all (fun x => x.1.isSome)
      && decide ((e :: es).length + ([] : List Keyword).length + (if ([] : List Keyword).isEmpty then 0 else 1) < 30)) = true := by rfl)
    (hline : (apos.endLine == cpos.line) = true := by rfl) (hs : starEach (e :: es) X.env = (false, eval e X.env) :: starEach es X.env := by rfl) (hplain : (backTo cpos (starEach es X.env)).any (·.1) = false := by rfl) :
    PE X (.Call (.Attribute o name apos) (e :: es) [] cpos) (tTM X.K r to t) := by
  refine ⟨fun pins s σ H Q I h => ?_⟩
  refine wpAny_Call_method_late hbase hfew hline rfl (thn (ho.run pins s σ H _ I h) fun v s1 ⟨x, H1, I1, r1, ty, q1⟩ => ?_)
  have h12 : s1.TypeIs v "tuple" ∧ ∀ a, v = .ref a → ∃ ob, s1.heap.get? a = some ob ∧ ob.dict = none := by
    obtain ⟨p, ob, xs, rfl, hq, hd⟩ := ty
    cases r1
    obtain ⟨e1, hz, its, _, o2, e2, hc, _⟩ := I1.hok p _ hq
    have : ob = o2 := Option.some.inj (e1.symm.trans e2)
    subst this
    exact ⟨⟨_, e1, hc⟩, fun a e2 => by cases e2; exact ⟨_, e1, hd⟩⟩
  obtain ⟨h1, h2⟩ := h12
  refine ⟨"tuple", id, pa, slot, hty, h1, h2, ?_⟩
  have hA := ha.run cpos pins s1 σ H1 _ I1 q1
  rw [hs] at hA ⊢
  refine Calls.callWith_builtin (by show (false || (backTo cpos (starEach es X.env)).any (·.1)) = false; rw [hplain] <;> rfl) (Calls.evalArgs_plain ?_)
  exact thn hA fun us s2 ⟨vs, H2, I2, r2, q2⟩ => hm pins s2 σ H2 x vs v us Q I2 r1 r2 q2
/-- t.index(n), flat items -/
def rTupIndex (K : PySem.W.Frag) : V → List V → Hp → VK → Prop := fun x xs H Q => ∃ (a : Addr) (ys : List V) (y : V) (j : Nat) (z : V), x = V.ref a ∧ xs = [y] ∧ SqT K H a ys ∧ flatV y = true ∧ ys.all flatV = true ∧ ys[j]? = some z ∧ eqV z y = true ∧
  (∀ (m : Nat) (z' : V), m < j → ys[m]? = some z' → eqV z' y = false) ∧ Q (.int (j : Nat)) H
theorem mt_tupIndex : MtR X "tuple.index" (rTupIndex X.K) := by
  intro pins s σ H x xs v us Q I rx rxs h
  obtain ⟨a, ys, y, j, z, rfl, rfl, hs, fy, fys, hz, hzj, hno, q⟩ := h
  cases rx
  cases rxs with
  | cons ry rt =>
    rename_i uy ut
    cases rt
    obtain ⟨its, rv, ⟨⟨cls, dd, data, sl⟩, ho, hc, n, hd⟩, hlen⟩ := I.tuple hs
    simp only at hc hd
    subst hc hd
    obtain ⟨u, hu, ru⟩ := rv.get hz
    obtain ⟨hjl, hje⟩ := List.getElem?_eq_some_iff.mp hu
    have hvl := rv.length
    have hj : j < its.toArray.size := by simpa using hjl
    have hsl := sizeLine_eq
    refine call_meets PySem.F.slot_tuple_index ⟨_, ho, rfl⟩ PySem.F.entry_tuple_index (PySem.F.args_tuple_index_2 _ _)
      (TI.tuple_indexAt a its.toArray n dd sl uy (eqU y) j hj ?_ ?_) ⟨ho, fun u' hu' => mem_eqAt ry fy rv fys u' (by simpa using hu'), ?_⟩
    · have e1 : its.toArray[j] = u := by simpa using hje
      rw [e1, eqU_of ru (flat_at fys hz)]
      exact hzj
    · intro m hm hmj
      have hml : m < its.length := by simpa using hm
      have hmy : m < ys.length := by omega
      have hy' : ys[m]? = some ys[m] := List.getElem?_eq_getElem hmy
      obtain ⟨u2, hu2, ru2⟩ := rv.get hy'
      obtain ⟨_, hme⟩ := List.getElem?_eq_some_iff.mp hu2
      have e1 : its.toArray[m] = u2 := by simpa using hme
      rw [e1, eqU_of ru2 (flat_at fys hy')]
      exact hno m _ hmj hy'
    · exact ⟨.int (j : Nat), H, I.tok _, ⟨_, rfl⟩, q⟩
end
end L2
namespace Pd
open PySem L2 RZ PyProof.Rows
def rowD (p : RP) : D := .tup ((rowL p).map D.int)
theorem row_of {M : Addr → Prop} {H : Hp} {v : V} {p : RP} (r : Rep M H v (rowD p)) : RowAt H v p := by
  unfold rowD at r
  cases r with
  | @tup a us _ ha s =>
    have e := RepAll.ints s
    subst e
    exact ⟨a, rfl, ha⟩
theorem rows_of {M : Addr → Prop} {H : Hp} : ∀ {vs : List V} {ps : List RP}, RepAll M H vs (ps.map rowD) → PySem.W.EachIs (RowAt H) vs ps
  | [], [], _ => .nil
  | _ :: _, p :: ps, .cons r s => .cons (row_of r) (rows_of s)
theorem of_row {M : Addr → Prop} {H : Hp} {v : V} {p : RP} (h : RowAt H v p) : Rep M H v (rowD p) := by
  obtain ⟨a, rfl, ha⟩ := h
  exact .tup ha (RepAll.of_ints _)
theorem of_rows {M : Addr → Prop} {H : Hp} : ∀ {vs : List V} {ps : List RP}, PySem.W.EachIs (RowAt H) vs ps → RepAll M H vs (ps.map rowD)
  | _, _, .nil => .nil
  | _, _, .cons h hs => .cons (of_row h) (of_rows hs)
section
variable {W : Wd} {G : List Ent} {te tl : TE} {K : PySem.W.Frag} {KK : D → Prop}
/-- sorted of rows of ints -/
theorem evl_sortR {KL : List D → Prop} (h : Ev W G te fun d => ∃ ps : List RP, d = .lst (ps.map rowD) ∧ ps.length ≤ 40000 ∧ KL ((sortR ps).map rowD)) :
    EvL W G (tCB (rSortR K) (tCons te tNil)) KL := fun X σ H E Q q =>
  h X σ H E _ fun d v H' k ex inv r => by
    obtain ⟨ps, rfl, hl, k⟩ := k
    cases r with
    | @lst a us _ hm ha s => exact ⟨a, us, ps, rfl, .inl (.inl ha), rows_of s, hl, fun qs p hq hp => evl_new E q ex inv k (of_rows hq) p hp⟩
end
end Pd
namespace Pd
open PySem L2 RZ PyProof.Rows
/-- a new list is told -/
theorem st_retL {W : Wd} {G : List Ent} {te : TE} {E : Post} (h : EvL W G te E.rl) : St W G (tRet te) E := fun X N H0 σ H o D m =>
  h X σ H o.env _ fun ds p vs H' k n ex inv e nm r => m.rl ds p vs H' k (.inl (o.ex.none n)) (o.ex.trans ex.up) inv e nm (fun z => own_neX o.env n (List.mem_append_left _ z)) (r.less fun a q => q.imp id (mo_sub (List.subset_append_left _ _) a))
end Pd
namespace Pd
theorem intsD_ints1 (l : List Nat) : intsD l = (l.map fun (k : Nat) => (k : Int)).map D.int := by
  unfold intsD; rw [List.map_map]; rfl
end Pd
namespace Pd
open PySem L2 RZ PyProof.Rows
theorem toP_lstN (rows : List (List Nat)) : toP (.lst (rows.map nT)) = .list (rows.map fun r => toP (nT r)) := by
  show PyData.list (toPs _) = _
  rw [toPs_map]
theorem ok_lstN (rows : List (List Nat)) : okD (.lst (rows.map nT)) = true := by
  unfold okD
  have h1 : plain (.lst (rows.map nT)) = true := plains_map _ plain_nT rows
  have h2 : (toP (.lst (rows.map nT))).canLay0 = true := by
    rw [toP_lstN]
    exact lay_all _ lay_nT rows
  have h3 : (toP (.lst (rows.map nT))).depth ≤ 2 := by
    rw [toP_lstN]
    have := depth_all (fun r => toP (nT r)) 1 depth_nT rows
    show PyData.depthAll _ + 1 ≤ 2
    omega
  rw [h1]
  show (PyData.canLay0 _ && decide _) = true
  rw [h2]
  simp; omega
theorem eqD_lstN (a b : List (List Nat)) : eqD (.lst (a.map nT)) (.lst (b.map nT)) = decide (a = b) := by
  unfold eqD
  rw [toP_lstN, toP_lstN]
  show PyData.eqvAll _ _ = _
  exact eqv_map _ eqD_nT a b
end Pd
namespace L2
open PySem PySem.Spec PyProof.Rows
section
variable {X : Cx}
/-- tuple(xs) of a list, its object known -/
def rTupZ (K : PySem.W.Frag) : List V → Hp → VK → Prop := fun xs H Q => ∃ p ys, xs = [.ref p] ∧ SqL K H p ys ∧ ∀ (l : Addr) (o : Obj), o.dict = none → H l = none → Q (.ref l) (upd H l (.frz o (.tup ys)))
theorem call_tupZ : CallR X (.type "tuple") (rTupZ X.K) := by
  intro pins s σ H xs us Q I r h
  obtain ⟨p, ys, rfl, hq, q⟩ := h
  obtain ⟨u, rfl, rx⟩ := vals1 r
  cases rx
  obtain ⟨its, r', pl, hz⟩ := I.list hq
  have hlen := r'.length
  refine call_tuple_list pl.isList (fun h' kp => ?_) (by simp only [List.size_toArray] <;> omega)
  have I1 : Inv X pins σ H { s with heap := h' } := I.kept (t' := s.toks) kp
  have I2 : Inv X pins σ (upd H h'.objs.size (.frz { cls := .type "tuple", data := .seq its.toArray } (.tup ys))) { s with heap := h'.push { cls := .type "tuple", data := .seq its.toArray } } :=
    I1.laid (t' := s.toks) (fun b o e => Heap.get?_push_of_some _ e) (Nat.le_refl _) (show ObjOk X.prog X.w _ _ _ (.frz _ (.tup ys)) from ⟨Heap.get?_push_size _ rfl, hz, its, r', IsTup.new _ _⟩)
  exact ⟨.ref h'.objs.size, _, I2, rfl, q _ _ rfl (I1.hok.fresh (Nat.le_refl _))⟩
end
end L2
namespace Pd
open PySem L2 RZ PyProof.Rows
def intsV (ns : List Nat) : List V := ns.map fun (k : Nat) => V.int (k : Int)
/-- the promise of a def that tells a new tuple of numbers, its object known -/
def FSpZ (pre : Wd → List Ent → (List Nat → Prop) → Prop) : Sp := fun vs H Q _ => ∃ W X es K, pre W es K ∧ W.inv H ∧ (∀ l ∈ X, ¬ W.M l ∧ ∃ o, H l = some o) ∧ EntVs (mo W X) H vs es ∧ owned es = [] ∧
  ∀ (ns : List Nat) (p : Addr) (o : Obj) H', K ns → o.dict = none → Ex W.M H H' → W.inv H' → H' p = some (.frz o (.tup (intsV ns))) → Q (.ref p) H'
def StZ (W : Wd) (G : List Ent) (t : TS) (KK : List Nat → Prop) : Prop := ∀ X N H0 σ H, Ok W X N H0 H σ G → ∀ D : Ends, (∀ (ns : List Nat) (p : Addr) (o : Obj) H', KK ns → o.dict = none → Ex (mo W N) H0 H' → W.inv H' → H' p = some (.frz o (.tup (intsV ns))) → D.rt (.ref p) H') → t D σ H
theorem fn_startZ {N ps : List Str} {t : TS} {pre : Wd → List Ent → (List Nat → Prop) → Prop} {vs : List V} {H : Hp} {Q : VK} {E : XK}
    (hb : ∀ W es K, pre W es K → es.length = ps.length ∧ StZ W (es ++ List.replicate (N.length - es.length) .no) t K) (h : FSpZ pre vs H Q E) :
    t { nx := fun _ H' => Q .non H', rt := Q } (L2.start N vs) H := by
  obtain ⟨W, X, es, K, hp, inv, hX, hv, ho, q⟩ := h
  obtain ⟨hl, hs⟩ := hb W es K hp
  have ow : owned (es ++ List.replicate (N.length - es.length) .no) = [] := by rw [owned_append, ho, owned_rep]; rfl
  have en : Env W X H (L2.start N vs) (es ++ List.replicate (N.length - es.length) .no) := by
    refine ⟨?_, by rw [ow]; exact List.nodup_nil, fun l hl => (by rw [ow] at hl; cases hl), hX, inv⟩
    unfold L2.start
    rw [ow, hv.length, List.append_nil]
    exact ents_of hv _
  exact hs X [] H _ H ⟨en, Ex.refl _ _, fun l hl => (by rw [ow] at hl; cases hl)⟩ _ fun ns p o H' k hd ex inv' e => q ns p o H' k hd (ex.weak fun a m => m.elim id fun z => nomatch z) inv' e
theorem fn_lenZ {pre : Wd → List Ent → (List Nat → Prop) → Prop} {n : Nat} (hb : ∀ W es K, pre W es K → es.length = n) {vs : List V} {H : Hp} {Q : VK} {E : XK} (h : FSpZ pre vs H Q E) : vs.length = n := by
  obtain ⟨W, X, es, K, hp, inv, hX, hv, ho, q⟩ := h
  rw [hv.length, hb W es K hp]
section
variable {W : Wd} {G : List Ent} {te tl : TE} {ta : TA} {E : Post} {K : PySem.W.Frag} {KK : D → Prop}
theorem stz_seq {t u : TS} {KZ : List Nat → Prop} (h : St W G t { nx := fun G' => StZ W G' u KZ, rt := fun _ => False }) : StZ W G (tSeq t u) KZ := fun X N H0 σ H o D m =>
  h X N H0 σ H o _ ⟨fun G' σ' H' k o' => k X N H0 σ' H' o' D m, fun _ _ _ z => z.elim, fun _ _ _ z => z.elim, fun _ _ _ z => z.elim, fun _ _ _ _ _ _ z => z.elim, fun _ _ _ _ z => z.elim⟩
theorem stz_ret {i : Nat} {l : Addr} {ns : List Nat} {KZ : List Nat → Prop} (h : G[i]? = some (.own l (intsD ns))) (k : KZ ns) : StZ W G (tRet (tCB (rTupZ K) (tCons (tVar i) tNil))) KZ := fun X N H0 σ H o D m => by
  obtain ⟨e, vs, hl, r⟩ := o.at h
  rw [intsD_ints1] at r
  have ev := RepAll.ints r
  subst ev
  refine ⟨_, e, l, _, rfl, .inl (.inl hl), fun p ob hd hp => ?_⟩
  refine m ns p ob _ k hd (o.ex.trans (Ex.new hp)) (inv_same o.env.inv fun _ => Ex.new hp) ?_
  rw [upd_same]
  unfold intsV
  rw [List.map_map]
  rfl
theorem Ok.putFrz {X N : List Addr} {H0 H : Hp} {σ : L2.St} {i : Nat} {p : Addr} {ob : Obj} {ns : List Nat} (o : Ok W X N H0 H σ G) (hd : ob.dict = none) (hp : H p = some (.frz ob (.tup (intsV ns)))) : Ok W X N H0 H (σ.set i (some (.ref p))) (G.set i (.frz p ob ns)) := by
  have s := owned_set (G := G) (i := i) (e := .frz p ob ns) rfl
  have sub : ∀ a, mo W (X ++ owned (G.set i (.frz p ob ns))) a → mo W (X ++ owned G) a := mo_sub (List.append_subset.mpr ⟨List.subset_append_left _ _, fun a h => List.mem_append_right _ (s.subset h)⟩)
  exact ⟨⟨(EntsOk.set (x := some (.ref p)) (e := .frz p ob ns) ⟨rfl, hd, hp⟩ i o.env.ok).less sub, s.nodup o.env.nd, fun l h => o.env.ap l (s.subset h), o.env.xs, o.env.inv⟩, o.ex, fun l h => o.nw l (s.subset h)⟩
/-- x = f(..), f tells such a tuple -/
theorem st_asgZ {pre : Wd → List Ent → (List Nat → Prop) → Prop} {i : Nat} {E0 : XK} (h : EvA W G ta fun es => owned es = [] ∧ pre W es fun ns => ∀ p ob, E.nx (G.set i (.frz p ob ns))) : St W G (tAsg (tCall (FSpZ pre) [] E0 ta) (gName i)) E := fun X N H0 σ H o D m =>
  h X σ H o.env _ fun es vs H' k ho ex inv r => by
    have E1 := o.env.mono ex inv
    rw [List.append_nil]
    refine ⟨W, X ++ owned G, es, _, k.2, inv, fun l hl => ?_, r, k.1, fun ns p ob H2 k2 hd ex2 inv2 e => ?_⟩
    · rcases List.mem_append.mp hl with z | z
      · exact E1.xs l z
      · exact ⟨(E1.ap l z).1, mo_there E1 l (.inr (List.mem_append_right _ z))⟩
    · exact m.nx _ _ _ (k2 p ob) ((o.mono (ex.trans ex2) inv2).putFrz hd e)
theorem intsV_rep {M : Addr → Prop} {H : Hp} (ns : List Nat) : RepAll M H (intsV ns) (intsD ns) := by
  have := RepAll.of_ints (M := M) (H := H) (ns.map fun (k : Nat) => (k : Int))
  rw [intsD_ints1]
  unfold intsV
  rwa [List.map_map] at this
/-- such a name as data -/
theorem ev_frz {i : Nat} {p : Addr} {ob : Obj} {ns : List Nat} (h : G[i]? = some (.frz p ob ns)) (k : KK (nT ns)) : Ev W G (tVar i) KK := fun X σ H E1 Q q => by
  obtain ⟨x, e, r⟩ := E1.ok.get h
  obtain ⟨rfl, hd, hp⟩ := r
  exact ⟨_, e, q _ _ H k (Ex.refl _ _) E1.inv (.tup (.inr ⟨_, hp⟩) (intsV_rep ns))⟩
/-- t.index(y) -/
theorem ev_frzIndex {i : Nat} {p : Addr} {ob : Obj} {ns : List Nat} (h : G[i]? = some (.frz p ob ns)) (k : Ev W G te fun y => ∃ j x : Nat, y = .int (x : Nat) ∧ ns[j]? = some x ∧ (∀ n, n < j → ns[n]? ≠ some x) ∧ KK (.int (j : Nat))) :
    Ev W G (tTM K (rTupIndex K) (tVar i) (tCons te tNil)) KK := fun X σ H E1 Q q => by
  obtain ⟨x, e, r⟩ := E1.ok.get h
  obtain ⟨rfl, hd, hp⟩ := r
  refine ⟨_, e, ⟨_, _, _, rfl, hp, hd⟩, ?_⟩
  refine k X σ H E1 _ fun y v H2 ⟨j, z, hy, hz, hno, k2⟩ ex2 inv2 ry => ?_
  subst hy
  cases ry
  have hp2 := ex2.kp _ _ hp fun _ => trivial
  refine ⟨p, intsV ns, .int (z : Nat), j, .int (z : Nat), rfl, rfl, .inl (.inr ⟨_, hp2⟩), rfl, ?_, ?_, ?_, fun m z' hm hz' => ?_, q _ _ H2 k2 ex2 inv2 (.int _)⟩
  · unfold intsV
    rw [List.all_map, List.all_eq_true]
    intro _ _; rfl
  · unfold intsV; rw [List.getElem?_map, hz]; rfl
  · show ((z : Int) == (z : Int)) = true
    exact beq_self_eq_true _
  · unfold intsV at hz'
    rw [List.getElem?_map] at hz'
    obtain ⟨w, hw, rfl⟩ := Option.map_eq_some_iff.mp hz'
    show ((w : Int) == (z : Int)) = false
    refine beq_eq_false_iff_ne.mpr fun e => hno m hm ?_
    rw [hw]; congr 1; omega
end
end Pd

/-! tuple * 1; an own list lent as data -/
namespace L2
open PySem PySem.Spec PyProof.Rows
theorem tuple_mul1 (l : Addr) (items : Array Value) (n : Nat) (dd : Option Addr) (sl : Array (Option Value)) (u : Tok) :
    Meets (Builtin.«tuple.__mul__» ⟨[.ref l, .int 1 u], []⟩) (fun _ R s => s.heap.get? l = some { cls := .type "tuple", dict := dd, data := .seq items n, slots := sl } ∧ R (.ok (.ret (Value.ref l))) s) :=
  .of_wp fun prog w A R s h => by
    obtain ⟨hp, g, d, tk, os⟩ := s
    obtain ⟨hl, h⟩ := h
    have f1 := AutoSeq1.idx_int
    have c0 : (decide ((1 : Int) < -(2 ^ 63)) || decide ((1 : Int) ≥ 2 ^ 63)) = false := by decide
    have c1 : (items.isEmpty || (1 : Int) == 1) = true := by rw [Bool.or_eq_true]; exact .inr rfl
    wp_walk using wpAny_loadPart' hl
    repeat (first
      | (refine wpAny_ite_false (decide_eq_false (by rw [c0]; exact Bool.false_ne_true)) ?_; wp_walk using wpAny_loadPart' hl)
      | (refine wpAny_ite_true (decide_eq_true c1) ?_; wp_walk using wpAny_loadPart' hl))
    exact ⟨_, rfl, h⟩
def rRepT1 (K : PySem.W.Frag) : R2 := fun x y H Q => ∃ l xs, x = .ref l ∧ y = .int 1 ∧ SqT K H l xs ∧ Q (.ref l) H
section
variable {X : Cx}
theorem op_repT1 : OpR X (binaryOp .Mult) (rRepT1 X.K) := by
  intro pins s σ H x y v u Q I rx ry h
  obtain ⟨l, xs, rfl, rfl, hT, q⟩ := h
  cases rx
  obtain ⟨t, rfl⟩ := ry
  obtain ⟨its, r, ⟨⟨cls, dd, data, sl⟩, ho, hc, n, hd⟩, hs⟩ := I.tuple hT
  simp only at hc hd
  subst hc hd
  refine wpAny_binaryOp_repeat_ref (T := "tuple") (U := "int") (by decide) ⟨_, ho, rfl⟩ (fun s' => typeIs_int s' 1 t) noFill_tuple_mul F.fills_int_mul F.slot_int_rmul repeat_tuple F.slot_int_index.lookup
    (call_meets F.slot_int_rmul (typeIs_int s 1 t) F.entry_int_rmul (F.args_int_rmul_2 _ _) (int_rmul_tuple 1 t l its.toArray n dd sl)
      ⟨ho, rfl, ⟨_, ho, rfl⟩, call_meets F.slot_tuple_mul ⟨_, ho, rfl⟩ F.entry_tuple_mul (F.args_tuple_mul_2 _ _) (tuple_mul1 l its.toArray n dd sl t) ⟨ho, .ref l, H, I, rfl, q⟩⟩)
end
end L2
namespace Pd
open PySem L2 RZ PyProof.Rows
def rTimesW (K : PySem.W.Frag) : R2 := fun x y H Q => rTimes K x y H Q ∨ rRepT1 K x y H Q
theorem op_timesW {X : Cx} : OpR X (binaryOp .Mult) (rTimesW X.K) := OpR.or2 op_times op_repT1
section
variable {W : Wd} {G : List Ent} {te ta : TE} {tt : TT} {E : Post} {K : PySem.W.Frag} {KK : D → Prop}
theorem opd_timesT1 {xs : List D} {n : Int} (h0 : 1 ≤ n) (h1 : n ≤ 1000) (hl : xs.length ≤ 1000) (hne : xs ≠ []) (k : KK (.tup (List.replicate n.toNat xs).flatten)) : OpD (rTimesW K) (.tup xs) (.int n) KK := fun Mw M v u H r1 r2 th Q q => by
  by_cases c : n = 1
  · subst c
    obtain ⟨a, vs, rfl, ha, r⟩ := r1.tup
    rw [r2.int]
    refine .inr ⟨a, vs, rfl, rfl, .inl ha, q _ _ H k (fun _ => Ex.refl _ _) (.tup ha ?_)⟩
    have e : (List.replicate (1 : Int).toNat xs).flatten = xs := by simp
    rw [e]; exact r
  · exact .inl (opd_timesT (by omega) h1 hl hne k Mw M v u H r1 r2 th Q q)
/-- an own list read as data by an expression -/
theorem Env.lend {X : List Addr} {H : Hp} {σ : L2.St} {i : Nat} {l : Addr} {ds : List D} (E1 : Env W X H σ G) (h : G[i]? = some (.own l ds)) : Env W X H σ (G.set i (.d (.lst ds))) := ((Ok.base E1).freeze h).env
theorem evt_lend {i : Nat} {l : Addr} {ds : List D} {KB : Bool → Prop} (h : G[i]? = some (.own l ds)) (k : EvT W (G.set i (.d (.lst ds))) tt KB) : EvT W G tt KB := fun X σ H E1 Q q => k X σ H (E1.lend h) Q q
end
end Pd

/-! list.count of numbers; max of a list; a comprehension that pops from an own list -/
namespace L2
open PySem PySem.Spec PyProof.Rows
section
variable {X : Cx}
def rCountI (K : PySem.W.Frag) : V → List V → Hp → VK → Prop := fun x xs H Q => ∃ (a : Addr) (ns : List Int) (b : Int), x = .ref a ∧ xs = [.int b] ∧ SqL K H a (ns.map V.int) ∧ Q (.int ((ns.countP fun y => decide (y = b) : Nat) : Int)) H
theorem hold_ints (h : Heap) : ∀ {us : List Value} {ns : List Int}, IntsAre us ns → PySem.W.HoldAll h us ns
  | _, _, .nil => .nil
  | _, _, .cons _ _ r => .cons ⟨_, .int _ _⟩ (hold_ints h r)
theorem mt_countI (hu : X.A.units + 1 < cLine) : MtR X "list.count" (rCountI X.K) := by
  intro pins s σ H x xs v us Q I rx rxs h
  obtain ⟨a, ns, b, rfl, rfl, hs, q⟩ := h
  cases rx
  cases rxs with
  | cons ry rt =>
    cases rt
    obtain ⟨tb, rfl⟩ := ry
    obtain ⟨its, rv, pl, hz⟩ := I.list hs
    exact PySem.W.count_list_datum (α := Int) pl.isList (hold_ints _ rv.ints) ⟨_, .int b tb⟩ hu ⟨.int ((ns.countP fun y => decide (y = b) : Nat) : Int), H, I.tok _, ⟨_, rfl⟩, q⟩
end
end L2
namespace Pd
open PySem L2 RZ PyProof.Rows
section
variable {W : Wd} {G : List Ent} {te tl ta : TE} {tt : TT} {E : Post} {K : PySem.W.Frag} {KK : D → Prop}
theorem ev_countI (h : Ev W G tl fun x => ∃ ns : List Int, x = .lst (ns.map D.int) ∧ Ev W G te fun y => ∃ b, y = .int b ∧ KK (.int ((ns.countP fun y => decide (y = b) : Nat) : Int))) :
    Ev W G (tBM K "list" (rCountI K) tl (tCons te tNil)) KK := fun X σ H E1 Q q =>
  h X σ H E1 _ fun x v H' k ex inv r => by
    obtain ⟨ns, rfl, k⟩ := k
    cases r with
    | @lst p vs _ nm e r =>
    have ev := RepAll.ints r
    subst ev
    refine ⟨.inl ⟨rfl, _, SqL.of e⟩, ?_⟩
    refine k X σ H' (E1.mono ex inv) _ fun y v H2 ⟨b, hy, k2⟩ ex2 inv2 ry => ?_
    subst hy
    cases ry
    have e2 : H2 p = some (.lst (ns.map V.int)) := ex2.kp _ _ e fun m => absurd (.inl m) nm
    exact ⟨p, ns, b, rfl, rfl, .inl (.inl e2), q _ _ H2 k2 (ex.trans ex2) inv2 (.int _)⟩
theorem cd_maxL {e : Ent} {ns : List Int} (h : entD e = some (.lst (ns.map D.int))) (hne : 0 < ns.length) (k : ∀ m, m ∈ ns → (∀ y, y ∈ ns → y ≤ m) → KK (.int m)) : CallD (rMax K) [e] KK := fun M vs H r0 th Q q => by
  obtain ⟨v, rfl, r⟩ := vs1 r0
  obtain ⟨a, us, rfl, ha, s⟩ := entV_lst r h
  have e := RepAll.ints s
  subst e
  exact ⟨a, ns, rfl, .inl (.inl ha), hne, fun m h1 h2 => q _ _ H (k m h1 h2) (fun _ => Ex.refl _ _) (.int _)⟩
theorem Env.addX {X : List Addr} {H H2 : Hp} {σ : L2.St} {p : Addr} {o : HO} (E1 : Env W X H σ G) (hp : H p = none) (e : Ex W.M H H2) (inv2 : W.inv H2) (ep : H2 p = some o) : Env W (p :: X) H2 σ G := by
  have nW : ¬ W.M p := new_ne E1.inv hp
  have nO : p ∉ X ++ owned G := own_neX E1 hp
  refine ⟨E1.ok.widen (M := mo W (X ++ owned G)) (p := p) hp e.up (fun a m => ?_) (fun z => nO (List.mem_append_right _ z)) (fun l hl o q => e.kp l o q fun m => absurd m (E1.ap l hl).1), E1.nd, fun l hl => ⟨(E1.ap l hl).1, fun z => ?_⟩, fun l hl => ?_, inv2⟩
  · rcases m with m | m
    · exact .inr (.inl m)
    · rcases List.mem_cons.mp m with z | z
      · exact .inl z
      · exact .inr (.inr z)
  · rcases List.mem_cons.mp z with z | z
    · exact nO (List.mem_append_right _ (by rw [← z]; exact hl))
    · exact (E1.ap l hl).2 z
  · rcases List.mem_cons.mp hl with z | z
    · rw [z]; exact ⟨nW, _, ep⟩
    · obtain ⟨n, o, q⟩ := E1.xs l z
      exact ⟨n, e.th l o q⟩
theorem st_retPop {wi : TI} {g : TG} {vs : List Nat} {i : Nat} {l : Addr} {ds : List D} (hG : G[i]? = some (.own l ds)) (hl : ds.length < 100000) (h : EvI W G wi fun es => es.length < 100000 ∧ ∃ J : Nat → List D → List D → Prop, J 0 ds [] ∧ (∀ t d us acc, es[t]? = some d → J t us acc → us.length < 100000 ∧ TgC W (wipeG (G.set i (.own l us)) vs) g vs d fun G2 => G2[i]? = some (.own l us) ∧ owned G2 = owned G ∧ EvT W G2 tt fun b => b = true ∧ Ev W G2 te fun x => ∃ (q : Nat) (d0 : D), x = .int (q : Nat) ∧ us[q]? = some d0 ∧ J (t + 1) (us.eraseIdx q) (acc ++ [d0])) ∧ ∀ us acc, J es.length us acc → E.rt (.tup acc)) :
    St W G (tRet (tCB (rTupOf K) (tCons (tLc wi g tt (tBM K "list" rPopAt (tVar i) (tCons te tNil)) vs) tNil))) E := fun X N H0 σ H o D m => by
  refine h X σ H o.env _ fun es It0 H' Gd Y k ex inv wk st it => ?_
  obtain ⟨hlen, J, j0, hs, hd⟩ := k
  intro Dl hDl
  have E1 := o.env.mono ex inv
  have nW : ¬ W.M Dl := new_ne inv hDl
  have nO : Dl ∉ X ++ owned G := own_neX E1 hDl
  have inv0 : W.inv (upd H' Dl (.lst [])) := inv_same inv fun _ => Ex.new hDl
  have setG : ∀ us, owned (G.set i (.own l us)) = owned G := fun us => by
    rw [owned_same (show ownOf (.own l us) = ownOf (.own l ds) from rfl), set_self hG]
  have getG : ∀ us, (G.set i (.own l us))[i]? = some (.own l us) := fun us => by
    rw [List.getElem?_set, if_pos rfl, if_pos (List.getElem?_eq_some_iff.mp hG).1]
  refine it_gen wk (fun t H2 => ∃ us acc ws, J t us acc ∧ acc.length ≤ t ∧ Env W (Dl :: X) H2 σ (G.set i (.own l us)) ∧ Ex (mo W (owned G)) H' H2 ∧ H2 Dl = some (.lst ws) ∧ RepAll (fun a => a = Dl ∨ mo W (X ++ owned G) a) H2 ws acc)
    ⟨ds, [], [], j0, Nat.le_refl _, by rw [set_self hG]; exact E1.addX hDl (Ex.new hDl) inv0 upd_same, Ex.new hDl, upd_same, .nil⟩ (fun t H2 _ ⟨_, _, _, _, _, _, e2, _⟩ => st H2 e2) ?_ ?_
  · rintro t x H2 H3 hi ⟨us, acc, ws, ja, la, Eu, e2, eD, rD⟩ y
    obtain ⟨ex3, d, hd', rd⟩ := it t H2 x H3 e2 hi y
    have inv3 : W.inv H3 := inv_same Eu.inv ex3
    have E3 := Eu.mono (ex3 W.M) inv3
    have e3 : Ex (mo W (owned G)) H' H3 := e2.trans (ex3 _)
    have eD3 : H3 Dl = some (.lst ws) := (ex3 fun _ => False).kp _ _ eD fun m => m.elim
    have rD3 : RepAll (fun a => a = Dl ∨ mo W (X ++ owned G) a) H3 ws acc := rD.mono (ex3 fun _ => False) fun _ m => m.elim
    have Eb := E3.wipe vs
    have sub := owned_wipe vs (G.set i (.own l us))
    rw [setG] at sub
    have rx : Rep (mo W (Dl :: X ++ owned (wipeG (G.set i (.own l us)) vs))) H3 x d := rd _ fun a m => by
      rcases m with m | m
      · exact .inl (.inl m)
      · rcases List.mem_cons.mp m with z | z
        · rw [z]; exact .inr hDl
        · rcases List.mem_append.mp z with z | z
          · exact .inl (.inr (List.mem_append_left _ z))
          · exact .inl (.inr (List.mem_append_right _ (sub.subset z)))
    obtain ⟨hul, step⟩ := hs t d us acc hd' ja
    refine step (Dl :: X) _ H3 σ H3 x (Ok.base Eb) rx _ fun G2 σ2 k2 w2 o2 => ⟨w2, ?_⟩
    obtain ⟨hG2, ow, k2⟩ := k2
    refine k2 (Dl :: X) σ2 H3 o2.env _ fun b H4 kb ex4 inv4 => ?_
    obtain ⟨rfl, k4⟩ := kb
    have E4 := o2.env.mono ex4 inv4
    show (tBM K "list" rPopAt (tVar i) (tCons te tNil)) σ2 H4 _
    obtain ⟨ei, us0, el, rl0⟩ := (Ok.base E4).at hG2
    refine ⟨_, ei, .inl ⟨rfl, _, SqL.of el⟩, ?_⟩
    refine k4 (Dl :: X) σ2 H4 E4 _ fun dx v H5 k5 ex5 inv5 r5 => ?_
    obtain ⟨q, d0, rfl, hq, j5⟩ := k5
    cases r5
    have E5 := E4.mono ex5 inv5
    obtain ⟨_, us5, el5, rl5⟩ := (Ok.base E5).at hG2
    obtain ⟨w, hw, rw'⟩ := rl5.get hq
    have hn : q < us5.length := (List.getElem?_eq_some_iff.mp hw).1
    have hlen5 := rl5.length
    have ix : seqIndex? (q : Int) us5.length = some q := by
      have h1 : ¬ ((q : Int) < 0) := by omega
      have h2 : (q : Int) < (us5.length : Int) := by omega
      have h3 : (0 : Int) ≤ (q : Int) := by omega
      unfold seqIndex?
      simp only [if_neg h1]
      simp [h2, h3]
    refine ⟨l, us5, (q : Int), q, w, rfl, rfl, el5, by omega, by omega, ix, hw, ?_⟩
    have ex35 : Ex W.M H3 H5 := ex4.trans ex5
    have eD5 : H5 Dl = some (.lst ws) := ex35.kp _ _ eD3 fun m => absurd m nW
    have rD5 : RepAll (fun a => a = Dl ∨ mo W (X ++ owned G) a) H5 ws acc := rD3.mono ex35 fun _ m => .inr (.inl m)
    have lm : l ∈ owned G := mem_owned hG
    have lD : l ≠ Dl := fun z => nO (List.mem_append_right _ (by rw [← z]; exact lm))
    -- the def's own state
    have E5b := E3.mono ex35 inv5
    obtain ⟨_, us6, el6, rl6⟩ := (Ok.base E5b).at (getG us)
    have : us6 = us5 := by rw [el5] at el6; cases el6; rfl
    subst this
    have o6 := (Ok.base E5b).change (getG us) el6 (rl6.eraseIdx q)
    rw [List.set_set] at o6
    have eD6 : (upd H5 l (.lst (us6.eraseIdx q))) Dl = some (.lst ws) := by rw [upd_ne (Ne.symm lD)]; exact eD5
    have hk : ∀ a o, a ≠ l → H5 a = some o → (upd H5 l (.lst (us6.eraseIdx q))) a = some o := fun a o z e => by rw [upd_ne z]; exact e
    have hp : ∀ o, H5 l = some o → ∃ xs, o = .lst xs := fun o e => by rw [el5] at e; cases e; exact ⟨_, rfl⟩
    have rD6 : RepAll (fun a => a = Dl ∨ mo W (X ++ owned G) a) (upd H5 l (.lst (us6.eraseIdx q))) ws acc := RepAll.upd' hk hp (fun a m => .inr m) (.inr (.inr (List.mem_append_right _ lm))) rD5
    have rw5 : Rep (fun a => a = Dl ∨ mo W (X ++ owned G) a) H5 w d0 := rw'.less fun a m => by
      rw [ow]
      rcases m with m | m
      · rw [m]; exact .inr (List.mem_cons_self ..)
      · exact m.imp id fun z => List.mem_cons_of_mem _ z
    have rw6 : Rep (fun a => a = Dl ∨ mo W (X ++ owned G) a) (upd H5 l (.lst (us6.eraseIdx q))) w d0 := Rep.upd' hk hp (fun a m => .inr m) (.inr (.inr (List.mem_append_right _ lm))) rw5
    refine ⟨ws, eD6, small_len (by rw [rD.length]; omega), us.eraseIdx q, acc ++ [d0], ws ++ [w], j5, by rw [List.length_append, List.length_singleton]; omega, ?_, ?_, upd_same, ?_⟩
    · have e7 : Ex (fun a => W.M a ∨ a = Dl) (upd H5 l (.lst (us6.eraseIdx q))) (upd (upd H5 l (.lst (us6.eraseIdx q))) Dl (.lst (ws ++ [w]))) := Ex.mut (.inr rfl) eD6
      exact o6.env.turn (us := []) e7 (W.dep _ _ o6.env.inv fun a o ma e => by rw [upd_ne fun z => nW (by rw [← z]; exact ma)]; exact e)
    · have e5 : Ex (mo W (owned G)) H' H5 := e3.trans ex35.up
      exact (e5.trans (Ex.mut (.inr lm) el5)).mutN hDl
    · exact RepAll.upd' (M := fun a => a = Dl ∨ mo W (X ++ owned G) a) (p := Dl) (fun a o z e => by rw [upd_ne z]; exact e) (fun o e => by rw [eD6] at e; cases e; exact ⟨_, rfl⟩) (fun a m => .inr m) (.inl rfl) (rD6.append (.cons rw6 .nil))
  · rintro H2 ⟨us, acc, ws, ja, _, Eu, e2, eD, rD⟩
    refine ⟨Dl, ws, rfl, .inl ⟨.inl (.inl eD), fun p hp => ?_⟩⟩
    have exA : Ex (mo W N) H0 H2 := o.exb (ex.up.trans e2)
    refine m.rt _ _ _ (hd us acc ja) (exA.trans (Ex.new hp)) (inv_same Eu.inv fun _ => Ex.new hp) (.tup (.inl upd_same) ?_)
    have r1 : RepAll (mo W X) H2 ws acc := rD.less fun a m => .inr (m.imp id fun z => List.mem_append_left _ z)
    exact r1.mono (M := fun _ => False) (Ex.new hp) fun _ z => z.elim
end
end Pd
namespace Pd
open PySem L2 RZ PyProof.Rows
/-- an own list read as data by an expression that tells no list -/
theorem ev_lend {W : Wd} {G : List Ent} {te : TE} {KK : D → Prop} {i : Nat} {l : Addr} {ds : List D} (h : G[i]? = some (.own l ds)) (k : Ev W (G.set i (.d (.lst ds))) te fun d => imm d = true ∧ KK d) : Ev W G te KK := fun X σ H E1 Q q =>
  k X σ H (E1.lend h) Q fun d v H' kd ex inv r => q d v H' kd.2 ex inv (r.keepT (fun _ _ z => z) kd.1)
theorem cutD_last (ds : List D) : cutD ds none (some (-1)) = ds.dropLast := by
  unfold Pd.cutD
  rw [show HT.sIx ds.length 0 none = 0 from rfl, List.drop_zero]
  have e : HT.sIx ds.length ds.length (some (-1)) = ds.length - 1 := by
    unfold HT.sIx
    cases ds with
    | nil => rfl
    | cons d ds => simp [HT.sIx]; omega
  rw [e, Nat.sub_zero, List.dropLast_eq_take]
end Pd

/-! a pair of a text and a call that may raise -/
namespace Pd
open PySem L2 RZ PyProof.Rows
section
variable {W : Wd} {G : List Ent} {te : TE} {Wx : WX} {KK : D → Prop} {KE : KX}
theorem evx_tupS {s : Str} (h : EvX Wx W G te (fun d => KK (.tup [.str s, d])) KE) : EvX Wx W G (tTup (tCons (tC (.str s)) (tCons te tNil))) KK KE := fun X σ H E Q q qe =>
  h X σ H E _ (fun d v H' k ex inv r => ⟨small_le (by show 2 ≤ 100000; decide), fun p hp => q _ _ _ k (ex.trans (Ex.new hp)) (inv_same inv fun _ => Ex.new hp) (.tup (.inl upd_same) (.cons (.str s) (.cons (r.mono (M := fun _ => False) (Ex.new hp) fun _ z => z.elim) .nil)))⟩) qe
end
end Pd

/-! Several except clauses, each with a name or without. -/
namespace L2
open PySem PySem.Spec PyProof.Rows
/-- a clause: its class, its name's slot, its suite -/
structure Clause where
  c : Value
  i : Option Nat
  ts : Addr → Value → Option Addr → TS
/-- after the suite of a clause its name is gone -/
def Clause.ends (q : Clause) (D : Ends) : Ends :=
  match q.i with
  | none => D
  | some i => { nx := fun σ H => D.nx (σ.set i none) H, rt := D.rt, bk := fun σ H => D.bk (σ.set i none) H, ct := fun σ H => D.ct (σ.set i none) H }
def Clause.start (q : Clause) (σ : St) (a : Addr) : St :=
  match q.i with
  | none => σ
  | some i => σ.set i (some (.ref a))
def wCl (K : PySem.W.Frag) (Wout : WX) (D : Ends) : List Clause → WX
  | [] => Wout
  | q :: r => fun cls d σ H => ∃ b, PySem.W.exmOne K cls q.c = some b ∧ (b = true → ∀ a, H a = none → q.ts a cls d (q.ends D) (q.start σ a) H) ∧ (b = false → wCl K Wout D r cls d σ H)
def SuiteOk (X : Cx) (body : List Stmt) (ts : Addr → Value → Option Addr → TS) : Prop :=
  ∀ (a : Addr) (oe : Obj) (cls : Value) (d : Option Addr) (pn : List (Addr × Obj)), Zc cls d oe → (∃ vs, oe.data = .fields vs) → PSs (X.suite a ((a, oe) :: pn)) body (ts a cls d)
inductive ClOk (X : Cx) : List ExceptHandler → List Clause → Prop
  | nil : ClOk X [] []
  | bare {x : Str} {c : Value} {ts : Addr → Value → Option Addr → TS} {b₀ : Stmt} {suite : List Stmt} {np pos' : Pos} {hds : List ExceptHandler} {l : List Clause} (hc : Names X x c) (hsu : SuiteOk X (b₀ :: suite) ts) (r : ClOk X hds l) :
      ClOk X (.ExceptHandler (some (.Name x np)) none (b₀ :: suite) pos' :: hds) (⟨c, none, ts⟩ :: l)
  | named {x n : Str} {c : Value} {i : Nat} {ts : Addr → Value → Option Addr → TS} {b₀ : Stmt} {suite : List Stmt} {np pos' : Pos} {hds : List ExceptHandler} {l : List Clause} (hi : X.N[i]? = some n) (hln : X.env.kindOf n = some .local) (hc : Names X x c) (hsu : SuiteOk X (b₀ :: suite) ts) (r : ClOk X hds l) :
      ClOk X (.ExceptHandler (some (.Name x np)) (some n) (b₀ :: suite) pos' :: hds) (⟨c, some i, ts⟩ :: l)
/-- a caught exception, its flight ended: sI is the state without it -/
structure Caught (X : Cx) (pins : List (Addr × Obj)) (σ : St) (H : Hp) (a : Addr) (B : Heap) (cls : Value) (d : Option Addr) (sI s : Shared) : Prop where
  J : Inv X pins σ H sI
  nb : ∀ b o, sI.heap.get? b = some o → b ∉ frs X.stack → B.get? b = some o
  fl : HandSPX.FlyingZ B (X.env :: X.outer) a (Zc cls d) s.heap
  up : sI.heap.UpToSlots s.heap
  os : s.os = sI.os
  ag : AllBare s.gens
  na : H a = none
section
variable {X : Cx} {pins : List (Addr × Obj)} {σ : St} {H : Hp} {D : Ends} {Wout : WX} {a : Addr} {B : Heap} {cls : Value} {d : Option Addr} {sI s : Shared}
theorem Caught.inv (C : Caught X pins σ H a B cls d sI s) : Inv X pins σ H s := C.J.landed C.nb C.fl.1 C.up C.os C.ag
/-- its object, and the suite's frame -/
theorem Caught.suite (C : Caught X pins σ H a B cls d sI s) (hf : X.env.frame = some X.env.locals) : ∃ oe vs, s.heap.get? a = some oe ∧ Zc cls d oe ∧ oe.data = .fields vs ∧ Inv (X.suite a ((a, oe) :: (X.pn ++ pins))) [] σ H s := by
  obtain ⟨oe, vs, e, z, dd⟩ := C.fl.there
  have far : a ∉ frs (X.env :: X.outer) := fun m => by
    obtain ⟨_, o', e', no⟩ := C.fl.2.2.1.mem m
    rw [e] at e'
    cases e'
    exact no _ dd
  refine ⟨oe, vs, e, z, dd, C.inv.suite e dd C.na (fun q => ?_) fun q => ?_⟩
  · exact far (List.mem_filterMap.mpr ⟨X.env, List.mem_cons_self, by rw [hf, q]⟩)
  · obtain ⟨b, hb, r⟩ := List.mem_filterMap.mp q
    exact far (List.mem_filterMap.mpr ⟨b, List.mem_cons_of_mem _ hb, r⟩)
/-- a name of a class, in an except clause -/
theorem Caught.name {x : Str} {np : Pos} {c : Value} {Q E : Value → Shared → Prop} (C : Caught X pins σ H a B cls d sI s) (hf : X.env.frame = some X.env.locals) (hc : Names X x c) (q : Q c s) : wpAny (model X.prog X.w) (X.A.mark (some (.ref a))) (eval (.Name x np) X.env) Q E s := by
  obtain ⟨oe, _, _, _, _, S⟩ := C.suite hf
  obtain ⟨hg, hd, h | ⟨hm, hv, hn⟩⟩ := hc
  · exact ld_glob (X := X.suite a ((a, oe) :: (X.pn ++ pins))) S hg h q hd
  · exact ld_blt (X := X.suite a ((a, oe) :: (X.pn ++ pins))) S hg hm hv q hn hd
/-- no clause takes it -/
theorem Caught.pass (C : Caught X pins σ H a B cls d sI s) (hs : X.stack = X.env :: X.outer) (hf : X.env.frame = some X.env.locals) (tk : Takes X Wout) (w : Wout cls d σ H) : wpAny (model X.prog X.w) X.A (handleBy (.ref a) X.env []) (SP X pins D) X.xe s := by
  refine wpAny_handleBy_nil ?_
  obtain ⟨_, _, _, oe, vs, T, oT, ts', he, hz, hd, h1, hr⟩ := id C.fl
  unfold PySem.passOn
  refine wpAny_bind (wpAny_field he hd h1 ?_)
  rw [if_neg (show ¬ ((Value.ref T == Value.none) = true) from by simp)]
  have out : wpAny (model X.prog X.w) X.A (setFlight (.ref a) X.env.frame) (fun _ s4 => wpAny (model X.prog X.w) X.A (throw (.ref a) : Sem Flow) (SP X pins D) X.xe s4) X.xe s := by
    rw [hf]
    refine HandSPX.setFlight_upZ C.fl fun h4 hh up4 => wpAny_throw (tk _ _ ?_)
    exact ⟨a, B, sI, pins, σ, H, cls, d, rfl, C.J, C.nb, C.up.trans up4, .inr (.inr (by rw [hs]; exact hh)), C.na, C.os, C.ag, w⟩
  first
    | exact wpAny_bind (wpAny_pure (wpAny_bind out))
    | exact wpAny_bind out
/-- the clauses, one after the other -/
theorem Caught.clauses (hs : X.stack = X.env :: X.outer) (hf : X.env.frame = some X.env.locals) (hN : X.N.Nodup) (tk : Takes X Wout) (ok : X.Ok) {hds : List ExceptHandler} {l : List Clause} (hk : ClOk X hds l) :
    Caught X pins σ H a B cls d sI s → wCl X.K Wout D l cls d σ H → wpAny (model X.prog X.w) X.A (handleBy (.ref a) X.env hds) (SP X pins D) X.xe s := by
  induction hk with
  | nil => exact fun C w => C.pass hs hf tk w
  | @bare x c ts b₀ suite np pos' hds l hc hsu r ih =>
    rintro C ⟨b, hb, yes, no⟩
    obtain ⟨oe, vs, e, z, dd, S⟩ := C.suite hf
    refine wpAny_handleBy_cons (codeAny_handlers_test (C.name hf hc ?_)) (fun q => by cases q)
    refine (PySem.W.exm_one (M := model X.prog X.w) C.inv.kIn (fun A Q E s' k q => wpAny_typeOf_ref (k _ _ e) (by rw [z.1]; exact q)) hb).here ?_
    cases b with
    | false => exact ih C (no rfl)
    | true =>
      refine codeAny_handlers_suite (HandSPX.lands_againZ C.fl fun h4 fl4 up4 => ?_)
      have C4 : Caught X pins σ H a B cls d sI { s with heap := h4 } := ⟨C.J, C.nb, fl4, C.up.trans up4, C.os, C.ag, C.na⟩
      obtain ⟨oe4, vs4, e4, z4, dd4, S4⟩ := C4.suite hf
      refine wpAny_mono ((hsu a oe4 cls d (X.pn ++ pins) z4 ⟨_, dd4⟩).run [] _ _ H _ S4 (yes rfl a C.na)) (fun f s6 p => ?_) fun _ _ q => False.elim q
      cases f with
      | ret u => obtain ⟨v, σ6, H6, S6, rv, q⟩ := p; exact ⟨v, σ6, H6, S6.unsuite ok, rv, q⟩
      | _ => obtain ⟨σ6, H6, S6, q⟩ := p; exact ⟨σ6, H6, S6.unsuite ok, q⟩
  | @named x n c i ts b₀ suite np pos' hds l hi hln hc hsu r ih =>
    rintro C ⟨b, hb, yes, no⟩
    obtain ⟨oe, vs, e, z, dd, S⟩ := C.suite hf
    refine wpAny_handleBy_cons (codeAny_handlers_test (C.name hf hc ?_)) (fun q => by cases q)
    refine (PySem.W.exm_one (M := model X.prog X.w) C.inv.kIn (fun A Q E s' k q => wpAny_typeOf_ref (k _ _ e) (by rw [z.1]; exact q)) hb).here ?_
    cases b with
    | false => exact ih C (no rfl)
    | true =>
      refine codeAny_handlers_suite_as (HandSPX.lands_againZ C.fl fun h4 fl4 up4 => ?_)
      have C4 : Caught X pins σ H a B cls d sI { s with heap := h4 } := ⟨C.J, C.nb, fl4, C.up.trans up4, C.os, C.ag, C.na⟩
      obtain ⟨oe4, vs4, e4, z4, dd4, S4⟩ := C4.suite hf
      refine store_ok (X := X.suite a ((a, oe4) :: (X.pn ++ pins))) (v := .ref a) S4 hN hi (.inl hln) rfl (fun s5 S5 => ?_) (.inr hln)
      refine wpAny_mono ((hsu a oe4 cls d (X.pn ++ pins) z4 ⟨_, dd4⟩).run [] s5 _ H _ S5 (yes rfl a C.na)) (fun f s6 p => ?_) fun _ _ q => False.elim q
      have gone : ∀ {σ6 : St} {H6 : Hp} {Q : Shared → Prop}, Inv (X.suite a ((a, oe4) :: (X.pn ++ pins))) [] σ6 H6 s6 → (∀ s7, Inv X pins (σ6.set i none) H6 s7 → Q s7) →
          wpAny (model X.prog X.w) X.A (do bindName X.env n .none; unbindBehindTheSuite X.env n pos') (fun _ s7 => Q s7) X.xe s6 := fun S6 q => gone_ok (S6.unsuite ok) hN hi hln q
      cases f with
      | ret u => obtain ⟨v, σ6, H6, S6, rv, q⟩ := p; exact gone S6 fun s7 J7 => ⟨v, _, H6, J7, rv, q⟩
      | next => obtain ⟨σ6, H6, S6, q⟩ := p; exact gone S6 fun s7 J7 => ⟨_, H6, J7, q⟩
      | brk => obtain ⟨σ6, H6, S6, q⟩ := p; exact gone S6 fun s7 J7 => ⟨_, H6, J7, q⟩
      | cont => obtain ⟨σ6, H6, S6, q⟩ := p; exact gone S6 fun s7 J7 => ⟨_, H6, J7, q⟩
/-- the tree, kept whole -/
def tTryCl (K : PySem.W.Frag) (l : List Clause) (tb : WX → TS) (W0 : WX) : TS := fun D σ H => tb (wCl K W0 D l) D σ H
theorem ps_try_cl {body : List Stmt} {h₀ : ExceptHandler} {hds : List ExceptHandler} {l : List Clause} {tb : WX → TS} {pos : Pos} (hs : X.stack = X.env :: X.outer) (hf : X.env.frame = some X.env.locals) (hN : X.N.Nodup) (tk : Takes X Wout)
    (hb : ∀ (W : WX) (pn : List (Addr × Obj)) (xe : Value → Shared → Prop), Takes (X.tr pn xe) W → PassesOwn (model X.prog X.w) X.A X.env xe → PSs (X.tr pn xe) body (tb W))
    (hh : ClOk X (h₀ :: hds) l) : PS X (.Try body (h₀ :: hds) [] [] pos) (tTryCl X.K l tb Wout) := by
  refine ⟨fun pins s σ H D I h => wpAny_Try_except ?_⟩
  have ok := I.ok
  have fr : X.A.frames = some (X.env :: X.outer) := by rw [ok.frames, hs]
  refine wpAny_mono ((hb (wCl X.K Wout D l) (X.pn ++ pins) (fun e s₁ => wpAny (model X.prog X.w) X.A (noteFrame e X.env) (fun _ s₂ => wpAny (model X.prog X.w) X.A (setFlight e none) (fun _ s₃ =>
    wpAny (model X.prog X.w) X.A (handleBy e X.env (h₀ :: hds)) (SP X pins D) X.xe s₃) X.xe s₂) X.xe s₁) (fun u s' xx => ?_) PassesOwn.looking).run [] s σ H D (I.toTry _) h) (fun f s1 p => ?_) fun _ _ q => q
  · obtain ⟨a, B, sI, pins', σ', H', cls, d, rfl, J', nb, up, sky, na, os, ag, w⟩ := xx
    refine Sky.land Zc.steady fr hf (by rw [← hs]; exact sky) fun h3 fl up3 => ?_
    exact Caught.clauses hs hf hN tk ok hh ⟨J'.ofTry ok, nb, fl, up.trans up3, os, ag, na⟩ w
  · cases f with
    | next => obtain ⟨σ', H', J', q⟩ := p; exact wpAny_execs_nil ⟨σ', H', J'.ofTry ok, q⟩
    | ret u => obtain ⟨v, σ', H', J', r, q⟩ := p; exact ⟨v, σ', H', J'.ofTry ok, r, q⟩
    | brk => obtain ⟨σ', H', J', q⟩ := p; exact ⟨σ', H', J'.ofTry ok, q⟩
    | cont => obtain ⟨σ', H', J', q⟩ := p; exact ⟨σ', H', J'.ofTry ok, q⟩
end
end L2
namespace Pd
open PySem L2 RZ PyProof.Rows
/-- what the clauses must do with an error of the class C -/
def ClSt (W : Wd) (K : PySem.W.Frag) (E : Post) : List Clause → List Ent → Addr → List (Str × D) → Prop
  | [], G, C, fs => E.ex G C fs
  | q :: r, G, C, fs => ∃ b, PySem.W.exmOne K (.ref C) q.c = some b ∧ (b = true → ∀ a d, (d = none ↔ fs = []) →
      match q.i with
      | none => St W G (q.ts a (.ref C) d) { nx := E.nx, rt := E.rt, rl := E.rl, bk := E.bk, ct := E.ct }
      | some i => St W (G.set i (.raw (.ref a))) (q.ts a (.ref C) d) { nx := fun G2 => E.nx (G2.set i .no), rt := E.rt, rl := E.rl, bk := fun G2 => E.bk (G2.set i .no), ct := fun G2 => E.ct (G2.set i .no) }) ∧ (b = false → ClSt W K E r G C fs)
/-- try: body, except c1 as n1: s1, except c2: s2 .. -/
theorem st_tryCl {W : Wd} {G : List Ent} {E : Post} {K : PySem.W.Frag} {l : List Clause} {tb : WX → TS} {W0 : WX} (hW : W0 = E.wx) (KB : List Ent → KX) (hb : ∀ Wx, St W G (tb Wx) { E with ex := KB, wx := Wx })
    (hs : ∀ G' C fs, KB G' C fs → ClSt W K E l G' C fs) : St W G (tTryCl K l tb W0) E := fun X N H0 σ H o D m => by
  subst hW
  have run : ∀ (r : List Clause) (G' : List Ent) (C : Addr) (fs : List (Str × Pd.D)) (d : Option Addr) (σ' : L2.St) (H' : Hp), ClSt W K E r G' C fs → Ok W X N H0 H' σ' G' → ExR (mo W (X ++ owned G')) H' d fs → wCl K E.wx D r (.ref C) d σ' H' := by
    intro r G' C fs d σ' H' h o' x
    have hd : d = none ↔ fs = [] := by
      rcases x with ⟨r1, r2⟩ | ⟨dd, vs, r1, r2, r3⟩
      · rw [r1, r2]; exact ⟨fun _ => rfl, fun _ => rfl⟩
      · subst r1
        exact ⟨(fun z => nomatch z), fun z => absurd z r2⟩
    induction r with
    | nil => exact m.ex G' C fs d σ' H' h o' x
    | cons q r ih =>
      obtain ⟨b, e, yes, no⟩ := h
      refine ⟨b, e, fun hb a ha => ?_, fun hb => ih (no hb)⟩
      have y := yes hb a d hd
      obtain ⟨c, i, ts⟩ := q
      cases i with
      | none => exact y X N H0 _ H' o' _ ⟨m.nx, m.bk, m.ct, m.rt, (fun _ _ _ _ _ _ z => z.elim), m.rl⟩
      | some i => exact y X N H0 _ H' o'.putRaw _ ⟨fun G2 σ2 H2 k2 o2 => m.nx _ _ H2 k2 o2.putNo, fun G2 σ2 H2 k2 o2 => m.bk _ _ H2 k2 o2.putNo, fun G2 σ2 H2 k2 o2 => m.ct _ _ H2 k2 o2.putNo, m.rt, (fun _ _ _ _ _ _ z => z.elim), m.rl⟩
  exact hb (wCl K E.wx D l) X N H0 σ H o D ⟨m.nx, m.bk, m.ct, m.rt, fun G' C fs d σ' H' k o' x => run l G' C fs d σ' H' (hs G' C fs k) o' x, m.rl⟩
end Pd

/-! sorted of a tuple of ints. -/
namespace L2
open PySem PySem.Spec PyProof.Rows
section
variable {P : Program} {w : World} {A : Around} {E : Value → Shared → Prop} {s : Shared}
theorem pd_sorted_tup {a : Addr} {o : Obj} {items : Array Value} {n : Nat} {R : Value → Shared → Prop} (ho : s.heap.get? a = some o) (hc : o.cls = .type "tuple") (hd : o.data = .seq items n) (hz : items.size ≤ sizeLine) {ns : List Int} (areI : IntsAre items.toList ns)
    (fin : ∀ (h' : Heap) (tk : Nat) (p : Addr) (out : List Value) (c : Nat) (ms : List Int), (∀ b u, s.heap.get? b = some u → h'.get? b = some u) → s.heap.get? p = none →
      h'.get? p = some (seqObj "list" out.toArray c) → IntsAre out ms → ms.Perm ns → ms.Pairwise (· ≤ ·) → R (.ref p) { s with heap := h', toks := tk }) :
    wpAny (model P w) A (call (.builtin "sorted") [.ref a]) R E s := by
  refine Calls.call_function_entry kind_sorted plain_sorted entry_sorted (args_sorted1 _) ?_
  unfold Builtin.«sorted»
  refine wpAny_bind (m := checkCount "sorted" 1 1 _) (wpAny_pure ?_)
  refine wpAny_bind (wpAny_collect_seq a (.inr rfl) ho hc hd (fun h1 keep => ?_) hz)
  generalize hvs : items.toList = vs at areI
  have small : vs.length ≤ sizeLine := by rw [← hvs, Array.length_toList]; exact hz
  refine wpAny_bind (wpAny_newList ?_ small)
  have new0 : (h1.push (seqObj "list" vs.toArray 0)).get? h1.objs.size = some (seqObj "list" vs.toArray 0) := Heap.get?_push_size _ rfl
  refine wpAny_bind (wpAny_holding (wpAny_call_entry slot_list_sort ⟨_, new0, rfl⟩ entry_list_sort
    (SrtO.list_sort_ord SrtO.swo_int new0 small (fun two => SrtO.ints_sortable areI two) fun out srt stb => ⟨_, rfl, ?_⟩) (args_list_sort _)))
  obtain ⟨i1, i2, i3⟩ := SrtO.ints_out areI srt stb
  obtain ⟨c, at1⟩ := sortedHeap_at (vs := vs) (out := out.toArray) new0
  refine wpAny_pure ⟨_, rfl, fin _ _ h1.objs.size out c _ (fun b u e => ?_) ?_ at1 i1 i2 i3⟩
  · have there := keep b u e
    have below := Heap.lt_size there
    refine Eq.trans (sortedHeap_old (Nat.ne_of_lt below) ?_) (Heap.get?_push_of_some _ there)
    rw [size_push']; exact Nat.lt_succ_of_lt below
  · cases q : s.heap.get? h1.objs.size with
    | none => rfl
    | some u => exact absurd (Heap.lt_size (keep _ u q)) (Nat.lt_irrefl _)
end
section
variable {X : Cx}
/-- sorted(t), a tuple of ints -/
def rSortedT (K : PySem.W.Frag) : List V → Hp → VK → Prop := fun vs H Q => ∃ (a : Addr) (ns : List Int), vs = [V.ref a] ∧ SqT K H a (ns.map V.int) ∧
  ∀ (ns' : List Int) (p : Addr), ns'.Perm ns → ns'.Pairwise (· ≤ ·) → H p = none → Q (.ref p) (upd H p (.lst (ns'.map V.int)))
theorem cr_sortedT : CallR X (.builtin "sorted") (rSortedT X.K) := by
  intro pins s σ H vs us Q I r h
  obtain ⟨a, ns, rfl, ha, q⟩ := h
  rw [Vals.ref1 r]
  obtain ⟨its, rv, ⟨o, e, hc, n, hd⟩, hz⟩ := I.tuple ha
  have l1 := rv.length
  have hi := ints_of_vals rv
  refine pd_sorted_tup e hc hd (by rw [List.size_toArray]; omega) hi fun h' tk p out c ms kept free at1 are pm up => ?_
  have hn : H p = none := by
    cases z : H p with
    | none => rfl
    | some u =>
      obtain ⟨v, hv⟩ := objOk_get (I.hok p u z)
      rw [free] at hv; cases hv
  have small : (ms.map V.int).length ≤ sizeLine := by
    rw [List.length_map] at hz
    rw [List.length_map, pm.length_eq]; omega
  exact ⟨.ref p, _, I.laidN (t' := tk) (o := .lst (ms.map V.int)) kept free hn ⟨small, out, c, vals_of_ints are, at1⟩, rfl, q ms p pm up hn⟩
end
end L2
namespace Pd
open PySem L2 RZ PyProof.Rows
theorem evl_sortedT {W : Wd} {G : List Ent} {K : PySem.W.Frag} {KL : List Pd.D → Prop} {tt : TA} (h : EvA W G tt fun es => ∃ e ns, es = [e] ∧ entD e = some (.tup (ns.map Pd.D.int)) ∧ ∀ ns' : List Int, ns'.Perm ns → ns'.Pairwise (· ≤ ·) → KL (ns'.map Pd.D.int)) : EvL W G (tCB (rSortedT K) tt) KL := fun X σ H E Q q =>
  h X σ H E _ fun es vs H' ⟨e, ns, he, hd, k⟩ ho ex inv r0 => by
    subst he
    obtain ⟨v, rfl, r⟩ := vs1 r0
    obtain ⟨a, us, rfl, ha, s⟩ := entV_tup r hd
    have e := RepAll.ints s
    subst e
    exact ⟨a, ns, rfl, .inl ha, fun ns' p pm pw hp => evl_new E q ex inv (k ns' pm pw) (RepAll.of_ints ns') p hp⟩
end Pd

/-! t[::-1] of a tuple. -/
namespace L2
open PySem PySem.Spec PyProof.Rows
section
variable {prog : Program} {w : World} {A : Around} {E : Value → Shared → Prop} {s : Shared}
theorem adjust_rev (n : Nat) : Builtin.Slice.sliceAdjust none none (-1) (n : Int) = ((n : Int) - 1, -1) := by
  unfold Builtin.Slice.sliceAdjust
  simp
theorem places_rev (n : Nat) : Builtin.Slice.slicePlaces ((n : Int) - 1) (-1) (-1) = n := by
  unfold Builtin.Slice.slicePlaces
  rw [if_neg (by decide)]
  simp only [Int.neg_neg, Int.ediv_one]
  split <;> omega
theorem fm_some {α β : Type} {f : α → Option β} {g : α → β} : ∀ {l : List α}, (∀ k ∈ l, f k = some (g k)) → l.filterMap f = l.map g
  | [], _ => rfl
  | k :: l, h => by rw [List.filterMap_cons, h k (List.mem_cons_self ..), List.map_cons, fm_some fun x hx => h x (List.mem_cons_of_mem _ hx)]
theorem pick_rev (xs : Array Value) : ((List.range xs.size).filterMap fun (k : Nat) => xs[((xs.size : Int) - 1 + (k : Int) * (-1)).toNat]?).toArray = xs.toList.reverse.toArray := by
  congr 1
  refine List.ext_getElem? fun i => ?_
  have h1 : (List.range xs.size).filterMap (fun (k : Nat) => xs[((xs.size : Int) - 1 + (k : Int) * (-1)).toNat]?) = (List.range xs.size).map fun k => xs.getD (xs.size - 1 - k) .none := by
    refine fm_some fun k hk => ?_
    have hk := List.mem_range.mp hk
    have e : ((xs.size : Int) - 1 + (k : Int) * (-1)).toNat = xs.size - 1 - k := by omega
    rw [e]
    have hl : xs.size - 1 - k < xs.size := by omega
    rw [Array.getElem?_eq_getElem hl]
    simp [Array.getD, hl]
  rw [h1, List.getElem?_map]
  by_cases hi : i < xs.size
  · have hl : xs.size - 1 - i < xs.size := by omega
    rw [List.getElem?_range hi, List.getElem?_reverse (by rw [Array.length_toList]; exact hi)]
    simp [Array.getD, hl]
  · rw [List.getElem?_eq_none (by rw [List.length_range]; omega), List.getElem?_eq_none (by rw [List.length_reverse, Array.length_toList]; omega)]
    rfl
theorem sliceApplied_rev {sl : Addr} {n : Nat} {u : Tok} {Q : Int × Int × Nat → Shared → Prop} (hs : s.heap.IsSliceOf sl .none .none (.int (-1) u)) (h : Q ((n : Int) - 1, -1, n) s) :
    wpAny (model prog w) A (Builtin.Slice.sliceApplied (.ref sl) (pure (n : Int))) Q E s := by
  obtain ⟨os, hos, hcs, hds⟩ := id hs
  unfold Builtin.Slice.sliceApplied Builtin.Slice.sliceFields
  refine wpAny_bind (wpAny_bind (wpAny_field hos hds (x := .none) rfl (wpAny_bind (wpAny_field hos hds (x := .none) rfl (wpAny_bind (wpAny_field hos hds (x := .int (-1) u) rfl (wpAny_pure ?_)))))))
  refine wpAny_bind (slicePart_int ?_)
  show wpAny _ _ (if ((-1 : Int) == 0) = true then _ else _) _ _ s
  rw [if_neg (by decide)]
  refine wpAny_bind (slicePart_none (wpAny_bind (slicePart_none (wpAny_bind (wpAny_pure ?_)))))
  show wpAny _ _ (match Builtin.Slice.sliceAdjust none none (-1) (n : Int) with | (lo, hi) => pure (lo, (-1 : Int), Builtin.Slice.slicePlaces lo hi (-1))) _ _ s
  rw [adjust_rev n]
  show wpAny _ _ (pure ((n : Int) - 1, (-1 : Int), Builtin.Slice.slicePlaces ((n : Int) - 1) (-1) (-1))) _ _ s
  rw [places_rev n]
  exact wpAny_pure h
theorem getItem_tuple_rev {t sl : Addr} {items : Array Value} {u : Tok} {Q : Value → Shared → Prop} (ht : IsTup s.heap t items) (hs : s.heap.IsSliceOf sl .none .none (.int (-1) u))
    (h : Q (.ref s.heap.objs.size) { s with heap := s.heap.push { cls := .type "tuple", data := .seq items.toList.reverse.toArray } }) (hsz : items.size ≤ sizeLine) : wpAny (model prog w) A (getItem (.ref t) (.ref sl)) Q E s := by
  have fits : sizeOk (.seq items.toList.reverse.toArray) := by
    show items.toList.reverse.toArray.size ≤ sizeLine
    rw [List.size_toArray, List.length_reverse, Array.length_toList]; exact hsz
  obtain ⟨os, hos, hcs, hds⟩ := id hs
  have hTs : s.TypeIs (.ref sl) "slice" := ⟨os, hos, hcs⟩
  unfold getItem
  try with_reducible refine wpAny_holding ?_
  first | refine wpAny_bind (wpAny_pure ?_) | skip
  refine wpAny_bind (wpAny_sequenceKey ht.typeIs (by decide) ?_)
  refine wpAny_bind (wpAny_callSpecial?_slot (name := Str.ofString "__getitem__") ht.typeIs PyProof.Rows.slot_tuple_getitem
    (wpAny_call_entry PyProof.Rows.slot_tuple_getitem ht.typeIs entry_tuple_getitem ?_ (args_tuple_getitem _ _)))
  show wpAny _ _ (Builtin.Tuple.tupleItemsOf (.ref t) >>= _) _ _ s
  refine wpAny_bind (tupleItemsOf_ ht ?_)
  refine wpAny_bind (wpAny_typeOf hTs ?_)
  rw [if_pos (by decide)]
  refine wpAny_bind (sliceApplied_rev hs ?_)
  have no : ¬ ((((items.size : Int) - 1) == 0 && (-1 : Int) == 1 && items.size == items.size) = true) := by
    rw [show ((-1 : Int) == 1) = false from by decide]; simp
  show wpAny _ _ (if (((items.size : Int) - 1) == 0 && (-1 : Int) == 1 && items.size == items.size) = true then _ else _) _ _ s
  rw [if_neg no, pick_rev items]
  first
    | exact wpAny_bind (m := Builtin.Tuple.tupleExact _) (wpAny_newObj_type (wpAny_pure ⟨_, rfl, wpAny_pure h⟩) fits)
    | exact wpAny_bind (m := Builtin.Tuple.tupleExact _) (wpAny_newObj_type (wpAny_bind (wpAny_pure (wpAny_pure ⟨_, rfl, wpAny_pure h⟩))) fits)
    | exact wpAny_bind (wpAny_bind (m := Builtin.Tuple.tupleExact _) (wpAny_newObj_type (wpAny_pure (wpAny_pure ⟨_, rfl, wpAny_pure h⟩)) fits))
    | exact wpAny_bind (wpAny_bind (m := Builtin.Tuple.tupleExact _) (wpAny_newObj_type (wpAny_pure ⟨_, rfl, wpAny_pure h⟩) fits))
end
end L2
namespace L2
open PySem PySem.Spec PyProof.Rows
section
variable {X : Cx}
/-- t[::-1], a tuple -/
def tRevT (K : PySem.W.Frag) (te : TE) : TE := fun σ H Q => te σ H fun x H1 => ∃ a xs, x = .ref a ∧ SqT K H1 a xs ∧ ∀ p, H1 p = none → Q (.ref p) (upd H1 p (.tup xs.reverse))
theorem pe_revT {e : Expr} {te : TE} {k : Nat} {p1 p2 p3 pos : Pos} (he : PE X e te) : PE X (.Subscript e (.Slice none none (some (.UnaryOp .USub (.Constant (.int 1) k p1) p2)) p3) pos) (tRevT X.K te) := by
  refine ⟨fun pins s σ H Q I h => Subscript_ (thn (he.run pins s σ H _ I h) fun v s1 ⟨x, H1, I1, r1, a, xs, ex, hx, q⟩ => ?_)⟩
  subst ex
  cases r1
  have minus : PO X (some (.UnaryOp .USub (.Constant (.int 1) k p1) p2)) (tPart (tUn (rU fun i => .int (-i)) (tC (.int 1)))) := po_some (pe_un un_neg pe_int)
  refine wpAny_Slice (thn (po_none.run pins s1 σ H1 (fun o H2 => o = none ∧ H2 = H1) I1 ⟨rfl, rfl⟩) fun vl s2 ⟨l, H2, I2, pl, el, e2⟩ => ?_)
  subst el e2
  refine thn (po_none.run pins s2 σ H2 (fun o H3 => o = none ∧ H3 = H2) I2 ⟨rfl, rfl⟩) fun vu s3 ⟨u, H3, I3, pu, eu, e3⟩ => ?_
  subst eu e3
  refine thn (minus.run pins s3 σ H3 (fun o H4 => o = some (-1) ∧ H4 = H3) I3 ⟨1, rfl, -1, rfl, rfl, rfl⟩) fun vs s4 ⟨o, H4, I4, ps, eo, e4⟩ => ?_
  subst eo e4
  cases pl
  cases pu
  cases ps with | int _ u =>
  have I5 : Inv X pins σ H4 { s4 with heap := s4.heap.push { cls := .type "slice", data := .fields #[.none, .none, .int (-1) u] } } := I4.kept (t' := s4.toks) fun b ob z => Heap.get?_push_of_some _ z
  obtain ⟨its, r, ht, hz⟩ := I5.tuple hx
  have hl := r.length
  show wpAny (model X.prog X.w) X.A (subscriptTail e (.Slice none none (some (.UnaryOp .USub (.Constant (.int 1) k p1) p2)) p3) (.ref a) (.ref s4.heap.objs.size)) (EP X pins σ Q) X.xe { s4 with heap := s4.heap.push { cls := .type "slice", data := .fields #[.none, .none, .int (-1) u] } }
  refine tail_any (ops := [.ref a, .ref s4.heap.objs.size]) ht.typeIs PyProof.Rows.slot_tuple_getitem.lookup (getItem_tuple_rev ht (Heap.IsSliceOf.new ..) ?_ (by rw [List.size_toArray]; omega)) (by with_unfolding_all rfl)
  refine ⟨.ref _, _, I5.laid (t' := s4.toks) (o := .tup xs.reverse) (fun b ob z => Heap.get?_push_of_some _ z) (Nat.le_refl _) ?_, rfl, q _ (I5.hok.fresh (Nat.le_refl _))⟩
  exact ⟨by rw [List.length_reverse]; exact hz, _, r.reverse, IsTup.new _ _⟩
end
end L2
namespace Pd
open PySem L2 RZ PyProof.Rows
theorem ev_revT {W : Wd} {G : List Ent} {K : PySem.W.Frag} {te : TE} {KK : Pd.D → Prop} (h : Ev W G te fun x => ∃ ds, x = .tup ds ∧ KK (.tup ds.reverse)) : Ev W G (tRevT K te) KK := fun X σ H E Q q =>
  h X σ H E _ fun x v H1 k e1 i1 r1 => by
    obtain ⟨ds, rfl, k⟩ := k
    cases r1 with | @tup a vs _ ha r =>
    exact ⟨a, vs, rfl, .inl ha, fun p hp => q _ _ _ k (e1.trans (Ex.new hp)) (inv_same i1 fun _ => Ex.new hp) (.tup (.inl upd_same) (r.rev.mono (Ex.new (M := fun _ => False) hp) fun _ m => m.elim))⟩
end Pd
namespace Pd
open PySem L2 RZ PyProof.Rows
/-- f(..), f tells such a tuple, as data -/
theorem ev_callZ {W : Wd} {G : List Ent} {ta : TA} {KK : Pd.D → Prop} {pre : Wd → List Ent → (List Nat → Prop) → Prop} {E0 : XK} (h : EvA W G ta fun es => owned es = [] ∧ pre W es fun ns => KK (nT ns)) : Ev W G (tCall (FSpZ pre) [] E0 ta) KK := fun X σ H E Q q =>
  h X σ H E _ fun es vs H' k ho ex inv r => by
    have E1 := E.mono ex inv
    rw [List.append_nil]
    refine ⟨W, X ++ owned G, es, _, k.2, inv, fun l hl => ?_, r, k.1, fun ns p ob H2 k2 hd ex2 inv2 e => ?_⟩
    · rcases List.mem_append.mp hl with z | z
      · exact E1.xs l z
      · exact ⟨(E1.ap l z).1, mo_there E1 l (.inr (List.mem_append_right _ z))⟩
    · exact q _ _ _ k2 (ex.trans ex2) inv2 (.tup (.inr ⟨_, e⟩) (intsV_rep ns))
end Pd

namespace Lw
open PySem L2 RZ Pd PyProof.Rows
def topS (i : Nat) : Stmt := PySem.Challenge.pw_latekinds_k03_whole_books_in_other_order.main.body.getD i (.Pass ⟨0, 0, 0, 0⟩)
structure Txt (K : PySem.W.Frag) (mg : Str → Option Value) (CBook : Addr) (CKindError : Addr) (CNoOrder : Addr) : Prop where
  z_ValueError : mg "ValueError" = none
  z_all : mg "all" = none
  z_bool : mg "bool" = none
  z_enumerate : mg "enumerate" = none
  z_int : mg "int" = none
  z_isinstance : mg "isinstance" = none
  z_len : mg "len" = none
  z_list : mg "list" = none
  z_max : mg "max" = none
  z_range : mg "range" = none
  z_set : mg "set" = none
  z_sorted : mg "sorted" = none
  z_tuple : mg "tuple" = none
  z_zip : mg "zip" = none
  c_MOST_KINDS : ∃ t, mg "MOST_KINDS" = some (.int 400 t)
  c_MOST_PARENTS : ∃ t, mg "MOST_PARENTS" = some (.int 6 t)
  g_KindError : mg "KindError" = some (.ref CKindError)
  g_NoOrder : mg "NoOrder" = some (.ref CNoOrder)
  e_NoOrder : ExcC K CNoOrder
  m_NoOrder_KindError : PySem.W.exmOne K (.ref CNoOrder) (.ref CKindError) = some true
  m_NoOrder_NoOrder : PySem.W.exmOne K (.ref CNoOrder) (.ref CNoOrder) = some true
  k_NoOrder_KindError : PySem.W.kitOne K (.ref CNoOrder) (.ref CKindError) = some true
  k_NoOrder_ValueError : PySem.W.kitOne K (.ref CNoOrder) (.type "ValueError") = some true
  g_Book : mg "Book" = some (.ref CBook)
  o_Book : ObjU K CBook
  s_Book : PySem.W.kitOne K (.ref CBook) (.ref CBook) = some true
  n_Book_parents : NoAttr K CBook "parents"
  n_Book_above : NoAttr K CBook "above"
theorem truD_bl (b : Bool) : truD (.bl b) = b := rfl
/-! ### one step of a reading -/
local macro_rules | `(tactic| walk_at "pd") => `(tactic| (
  (first
  | (with_reducible refine' st_seq (st_own (evl_lst (eva_nil ⟨[], rfl, Nat.zero_le _, fun l => ?_⟩))))
  | (with_reducible refine' st_seq (st_dnew fun l => ?_))
  | (with_reducible refine' st_seq ?_)
  | (with_reducible refine' st_asg ?_)
  | (with_reducible refine' st_ret ?_)
  | ((with_reducible refine' st_cellZ ?hG ?hn ?hz ?_); (case hG => exact rfl); (case hn => decide); (case hz => exact rfl); intro)
  | (with_reducible refine' st_if ?_)
  | (with_reducible refine' st_next ?_)
  | (with_reducible refine' st_drop ?_)
  | (with_reducible refine' st_brk ?_)
  | (with_reducible refine' st_cont ?_)
  | (with_reducible refine' st_retN ?_)
  | ((with_reducible refine' ev_var ?h ?_); (case h => exact rfl))
  | (with_reducible refine' ev_int ?_)
  | (with_reducible refine' ev_bl ?_)
  | (with_reducible refine' ev_non ?_)
  | (with_reducible refine' ev_str ?_)
  | ((with_reducible refine' ev_tp ?hj ?hG ?_); (case hj => first | exact .inl rfl | exact .inr (.inl rfl) | exact .inr (.inr (.inl rfl)) | exact .inr (.inr (.inr rfl))); (case hG => exact rfl); intro)
  | ((with_reducible refine' st_tp ?hj ?hG ?_); (case hj => first | exact .inl ⟨rfl, rfl⟩ | exact .inr (.inl ⟨rfl, rfl⟩) | exact .inr (.inr ⟨rfl, rfl⟩)); (case hG => exact rfl))
  | ((with_reducible refine' ev_opB (evb_own ?h ?_)); (case h => exact rfl))
  | (with_reducible refine' ev_op ?_)
  | (with_reducible refine' ev_un ?_)
  | (with_reducible refine' ev_bits ?_)
  | (with_reducible refine' und_neg ?_)
  | (with_reducible refine' und_inv ?_)
  | ((with_reducible refine' cd_isiT ["tuple", "list"] (by decide) ?htt (by decide) ?_); (case htt => rfl))
  | (with_reducible refine' ev_cb ?_)
  | (with_reducible refine' ev_call ?_)
  | (with_reducible refine' ev_andV ?_)
  | (with_reducible refine' ev_orV ?_)
  | (with_reducible refine' ev_notV ?_)
  | (with_reducible refine' ev_if ?_)
  | (with_reducible refine' ev_chain ?_)
  | (with_reducible refine' ev_tup ?_)
  | (with_reducible refine' EvL.ev (evl_lst (tt := tCons _ _) ?_))
  | (with_reducible refine' cd_max2 ?_)
  | (with_reducible refine' cd_len (.inr rfl) ?_)
  | (with_reducible refine' opd_isB ?_)
  | (with_reducible refine' opd_isnotB ?_)
  | (refine ⟨(Nat.le_of_ble_eq_true rfl : (_ : Nat) ≤ 100000), ?_⟩)
  | (with_reducible refine' evt_tru ?_)
  | (with_reducible refine' evt_test ?_)
  | (with_reducible refine' evt_B ?_)
  | (with_reducible refine' evt_and ?_)
  | (with_reducible refine' evt_or ?_)
  | (with_reducible refine' evt_not ?_)
  | (with_reducible refine' evt_yes ?_)
  | ((with_reducible refine' eva_cons (eve_raw ?h ?_)); (case h => exact rfl))
  | (with_reducible refine' eva_d (ev_int ?_))
  | (with_reducible refine' eva_d (ev_bl ?_))
  | (with_reducible refine' eva_d (ev_str ?_))
  | (with_reducible refine' eva_d (ev_non ?_))
  | (with_reducible refine' eva_cons (eve_c ?_))
  | (with_reducible refine' eva_d ?_)
  | (with_reducible refine' eva_nil ?_)
  | (with_reducible refine' opd_plusI ?_)
  | (with_reducible refine' opd_sub ?_)
  | (with_reducible refine' opd_lt ?_)
  | (with_reducible refine' opd_le ?_)
  | (with_reducible refine' opd_gt ?_)
  | (with_reducible refine' opd_ge ?_)
  | (with_reducible refine' opd_isN ?_)
  | (with_reducible refine' opd_notN ?_)
  | (with_reducible refine' opd_and ?_)
  | (with_reducible refine' opd_or ?_)
  | (with_reducible refine' opd_xor ?_)
  | (with_reducible refine' cd_range2 ?_)
  | (with_reducible refine' cd_int ?_)
  | ((with_reducible refine' opd_mod ?c ?_); (case c => first | decide | omega))
  | ((with_reducible refine' opd_div ?c ?_); (case c => first | exact ⟨by decide, by decide⟩ | exact ⟨by omega, by omega⟩))
  | ((with_reducible refine' opd_timesI ?c ?_); (case c => first | exact .inr ⟨by decide, by decide⟩ | exact .inl ⟨by omega, by omega⟩ | exact .inr ⟨by omega, by omega⟩))
  | ((with_reducible refine' opd_pow ?c ?_); (case c => exact ⟨by decide, by decide, by decide⟩))
  | ((with_reducible refine' cd_isTo ?h ?u ?_); (case h => first | assumption | exact trivial); (case u => decide))
  | ((with_reducible refine' evb_own ?h ?_); (case h => exact rfl))
  | (with_reducible refine' Ev.b ?_)
  | (refine ⟨_, rfl, ?_⟩)
  | (refine ⟨fun _ => ?_, fun z => Bool.noConfusion z⟩)
  | (refine ⟨fun z => Bool.noConfusion z, fun _ => ?_⟩)
  | (refine ⟨rfl, ?_⟩)
  | (refine ⟨_, _, rfl, ?_⟩)
  | (refine ⟨_, _, _, rfl, ?_⟩)
  | (refine ⟨_, _, _, _, rfl, ?_⟩))
  try dsimp only [truD_bl, Bool.not_true, Bool.not_false]))
theorem ite_split {c : Bool} {A B : Prop} (h1 : c = true → A) (h2 : c = false → B) : (c = true → A) ∧ (c = false → B) := ⟨h1, h2⟩

section
variable {P : Program} {w : World} {K : PySem.W.Frag} {mg : Str → Option Value} {base : Heap} {CBook : Addr} {CKindError : Addr} {CNoOrder : Addr}
theorem look_above (a b : D) : ((["parents", "above"] : List Str).zip [a, b]).lookup ("above" : Str) = some b := by
  have e1 : (("above" : Str) == ("parents" : Str)) = false := by decide +kernel
  have e2 : (("above" : Str) == ("above" : Str)) = true := by decide +kernel
  simp only [List.zip_cons_cons, List.lookup_cons, e1, e2]
theorem fld_parents {W : Wd} {G : List Ent} {te : TE} {KK : D → Prop} (T : Txt K mg CBook CKindError CNoOrder) (h : Ev W G te fun x => ∃ rows, x = bookD CBook rows ∧ KK (rowsD rows)) : Ev W G (tFld K te "parents") KK :=
  ev_fld (h.mono fun d ⟨rows, e, k⟩ => ⟨CBook, _, _, rowsD rows, e, T.o_Book.oc.cl, T.n_Book_parents, rfl, k⟩)
theorem fld_above {W : Wd} {G : List Ent} {te : TE} {KK : D → Prop} (T : Txt K mg CBook CKindError CNoOrder) (h : Ev W G te fun x => ∃ rows, x = bookD CBook rows ∧ KK (nT (Bk.masks rows))) : Ev W G (tFld K te "above") KK :=
  ev_fld (h.mono fun d ⟨rows, e, k⟩ => ⟨CBook, _, _, nT (Bk.masks rows), e, T.o_Book.oc.cl, T.n_Book_above, look_above _ _, k⟩)
local macro_rules | `(tactic| walk_at "pd") => `(tactic| (first
  | ((with_reducible refine' fld_parents ?t ?_); (case t => assumption))
  | ((with_reducible refine' fld_above ?t ?_); (case t => assumption))
  | (with_reducible refine' cd_len (.inr rfl) ?_)
  | fail))

/-! ### is_integer -/
abbrev s_is_integer : Stmt := topS 1
abbrev N_is_integer : List Str := ["thing"]
theorem sc_is_integer : FnScope N_is_integer ["thing"] (defScope s_is_integer) := ⟨rfl, rfl, rfl, by decide +kernel, rfl, by decide +kernel, by decide +kernel⟩
def isIntD : D → Bool
  | .int _ => true
  | _ => false
def pre_is_integer (K : PySem.W.Frag) (CBook : Addr) (CKindError : Addr) (CNoOrder : Addr) : Wd → List Ent → (D → Prop) → Prop := fun _ es KK => ∃ d, es = [.d d] ∧ TyOk K d ∧ KK (.bl (isIntD d))
theorem len_is_integer (K : PySem.W.Frag) (CBook : Addr) (CKindError : Addr) (CNoOrder : Addr) : ∀ W es KK, pre_is_integer K CBook CKindError CNoOrder W es KK → es.length = 1 := by rintro W es K ⟨d, rfl, _⟩; rfl
abbrev sp_is_integer (K : PySem.W.Frag) (CBook : Addr) (CKindError : Addr) (CNoOrder : Addr) : Sp := FSp (pre_is_integer K CBook CKindError CNoOrder)
theorem ok_is_integer {f : Addr} {fd : FuncData} (F : Fun K "is_integer" "is_integer" s_is_integer f fd) (T : Txt K mg CBook CKindError CNoOrder) : FnOk P w K mg base CX0 1 f fd ["thing"] (sp_is_integer K CBook CKindError CNoOrder) := by
  refine F.ok sc_is_integer (fun vs H Q E h => fn_len (n := 1) (len_is_integer K CBook CKindError CNoOrder) h) (fun cdv A outer s H vs Q E hr h => ⟨_, (pss_one (ps_ret (pe_and (pe_callB call_isi (by rfl) T.z_isinstance (by decide +kernel) (pa_cons (pv 0) (pa_cons (pe_bltn (v := .ty "int") (by rfl) T.z_int (by decide +kernel) rfl) pa_nil))) (pe_one (pe_not (pe_callB call_isi (by rfl) T.z_isinstance (by decide +kernel) (pa_cons (pv 0) (pa_cons (pe_bltn (v := .ty "bool") (by rfl) T.z_bool (by decide +kernel) rfl) pa_nil)))))))), fn_start (ps := ["thing"]) ?_ h⟩)
  rintro W es KK ⟨d, rfl, hd, k⟩
  refine ⟨rfl, ?_⟩
  show St W [.d d] _ _
  repeat walk_at "pd"
  refine ⟨fun hb => ?_, fun hb => ?_⟩
  · repeat walk_at "pd"
    have e : (!isTy "bool" d) = isIntD d := by cases d <;> first | rfl | cases hb
    rw [e]; exact k
  · have e : isIntD d = false := by cases d <;> first | rfl | cases hb
    rw [e] at k; exact k
/-! ### is_number -/
abbrev s_is_number : Stmt := topS 2
abbrev N_is_number : List Str := ["thing", "low", "high"]
theorem sc_is_number : FnScope N_is_number ["thing", "low", "high"] (defScope s_is_number) := ⟨rfl, rfl, rfl, by decide +kernel, rfl, by decide +kernel, by decide +kernel⟩
def isNumD (d : D) (lo hi : Int) : Bool := match d with
  | .int i => decide (lo ≤ i) && decide (i ≤ hi)
  | _ => false
def pre_is_number (K : PySem.W.Frag) (CBook : Addr) (CKindError : Addr) (CNoOrder : Addr) : Wd → List Ent → (D → Prop) → Prop := fun _ es KK => ∃ d lo hi, es = [.d d, .d (.int lo), .d (.int hi)] ∧ TyOk K d ∧ KK (.bl (isNumD d lo hi))
theorem len_is_number (K : PySem.W.Frag) (CBook : Addr) (CKindError : Addr) (CNoOrder : Addr) : ∀ W es KK, pre_is_number K CBook CKindError CNoOrder W es KK → es.length = 3 := by rintro W es K ⟨d, lo, hi, rfl, _⟩; rfl
abbrev sp_is_number (K : PySem.W.Frag) (CBook : Addr) (CKindError : Addr) (CNoOrder : Addr) : Sp := FSp (pre_is_number K CBook CKindError CNoOrder)
theorem ok_is_number {f : Addr} {fd : FuncData} (F : Fun K "is_number" "is_number" s_is_number f fd) (T : Txt K mg CBook CKindError CNoOrder) (h_is_integer : Has P w K mg base 1 "is_integer" ["thing"] (sp_is_integer K CBook CKindError CNoOrder)) : FnOk P w K mg base CX0 2 f fd ["thing", "low", "high"] (sp_is_number K CBook CKindError CNoOrder) := by
  refine F.ok sc_is_number (fun vs H Q E h => fn_len (n := 3) (len_is_number K CBook CKindError CNoOrder) h) (fun cdv A outer s H vs Q E hr h => ⟨_, (pss_one (ps_ret (pe_and (pe_has h_is_integer (hr.mono (by decide)) (pa_cons (pv 0) pa_nil)) (pe_one (pe_chain op_le op_le (pv 1) (pv 0) (pv 2)))))), fn_start (ps := ["thing", "low", "high"]) ?_ h⟩)
  rintro W es KK ⟨d, lo, hi, rfl, hd, k⟩
  refine ⟨rfl, ?_⟩
  show St W [.d d, .d (.int lo), .d (.int hi)] _ _
  repeat walk_at "pd"
  refine ⟨hd, ?_⟩
  repeat walk_at "pd"
  refine ⟨fun hb => ?_, fun hb => ?_⟩
  · cases d with
    | int i =>
      repeat walk_at "pd"
      refine ⟨fun h1 => ?_, fun h1 => ?_⟩
      · repeat walk_at "pd"
        show KK _
        have e : isNumD (.int i) lo hi = decide (i ≤ hi) := by show (decide (lo ≤ i) && _) = _; rw [h1]; rfl
        rw [e] at k; exact k
      · have e : isNumD (.int i) lo hi = false := by show (decide (lo ≤ i) && _) = _; rw [h1]; rfl
        rw [e] at k; exact k
    | _ => cases hb
  · have e : isNumD d lo hi = false := by cases d <;> first | rfl | cases hb
    rw [e] at k; exact k
/-! ### is_lot -/
abbrev s_is_lot : Stmt := topS 3
abbrev N_is_lot : List Str := ["thing", "many", "least", "item"]
theorem sc_is_lot : FnScope N_is_lot ["thing", "many"] (defScope s_is_lot) := ⟨rfl, rfl, rfl, by decide +kernel, rfl, by decide +kernel, by decide +kernel⟩
def lotFrom (many : Int) : Int → List D → Bool
  | _, [] => true
  | least, .int i :: ds => (decide (least ≤ i) && decide (i ≤ many - 1)) && lotFrom many (i + 1) ds
  | _, _ :: _ => false
def isLotD (d : D) (many : Int) : Bool := match d with
  | .tup ds => lotFrom many 0 ds
  | _ => false
theorem lotFrom_no {many least : Int} {d : D} {ds : List D} (h : isNumD d least (many - 1) = false) : lotFrom many least (d :: ds) = false := by
  cases d with
  | int i => show ((decide (least ≤ i) && decide (i ≤ many - 1)) && _) = false; rw [show (decide (least ≤ i) && decide (i ≤ many - 1)) = false from h]; rfl
  | _ => rfl
theorem lotFrom_yes {many least : Int} {d : D} {ds : List D} (h : isNumD d least (many - 1) = true) : ∃ i, d = .int i ∧ lotFrom many least (d :: ds) = lotFrom many (i + 1) ds := by
  cases d with
  | int i => exact ⟨i, rfl, by show ((decide (least ≤ i) && decide (i ≤ many - 1)) && _) = _; rw [show (decide (least ≤ i) && decide (i ≤ many - 1)) = true from h]; rfl⟩
  | _ => cases h
def pre_is_lot (K : PySem.W.Frag) (CBook : Addr) (CKindError : Addr) (CNoOrder : Addr) : Wd → List Ent → (D → Prop) → Prop := fun _ es KK => ∃ d many, es = [.d d, .d (.int many)] ∧ TyOk K d ∧ (∀ ds, d = .tup ds → ∀ x ∈ ds, TyOk K x) ∧ KK (.bl (isLotD d many))
theorem len_is_lot (K : PySem.W.Frag) (CBook : Addr) (CKindError : Addr) (CNoOrder : Addr) : ∀ W es KK, pre_is_lot K CBook CKindError CNoOrder W es KK → es.length = 2 := by rintro W es K ⟨d, many, rfl, _⟩; rfl
theorem lotFrom_ok {many : Nat} : ∀ (r : List Nat) (least : Nat), r.Pairwise (· < ·) → (∀ p ∈ r, least ≤ p ∧ p < many) → lotFrom (many : Nat) (least : Nat) (intsD r) = true
  | [], _, _, _ => rfl
  | p :: r, least, hp, hb => by
    obtain ⟨h1, h2⟩ := List.pairwise_cons.mp hp
    have hx := hb p (List.mem_cons_self ..)
    show ((decide ((least : Int) ≤ (p : Int)) && decide ((p : Int) ≤ (many : Int) - 1)) && lotFrom (many : Nat) ((p : Int) + 1) (intsD r)) = true
    have ih := lotFrom_ok r (p + 1) h2 fun q hq => ⟨h1 q hq, (hb q (List.mem_cons_of_mem _ hq)).2⟩
    rw [show ((p : Int) + 1) = ((p + 1 : Nat) : Int) by omega, ih]
    simp; omega
abbrev sp_is_lot (K : PySem.W.Frag) (CBook : Addr) (CKindError : Addr) (CNoOrder : Addr) : Sp := FSp (pre_is_lot K CBook CKindError CNoOrder)
theorem ok_is_lot {f : Addr} {fd : FuncData} (F : Fun K "is_lot" "is_lot" s_is_lot f fd) (T : Txt K mg CBook CKindError CNoOrder) (h_is_number : Has P w K mg base 2 "is_number" ["thing", "low", "high"] (sp_is_number K CBook CKindError CNoOrder)) : FnOk P w K mg base CX0 3 f fd ["thing", "many"] (sp_is_lot K CBook CKindError CNoOrder) := by
  refine F.ok sc_is_lot (fun vs H Q E h => fn_len (n := 2) (len_is_lot K CBook CKindError CNoOrder) h) (fun cdv A outer s H vs Q E hr h => ⟨_, (pss_cons (ps_if (pt_not (pt_truth (pe_callB call_isi (by rfl) T.z_isinstance (by decide +kernel) (pa_cons (pv 0) (pa_cons (pe_bltn (v := .ty "tuple") (by rfl) T.z_tuple (by decide +kernel) rfl) pa_nil))) (by intro _; rfl))) (pss_one (ps_ret pe_bl)) pss_nil)
 (pss_cons (ps_set (i := 2) sc_is_lot.nd rfl (by first | exact Or.inl rfl | exact Or.inr rfl) pe_int)
 (pss_cons (ps_for PassesOwn.never rfl (pi_tup (pv 0)) (pg_name (i := 3) sc_is_lot.nd rfl (by first | exact Or.inl rfl | exact Or.inr rfl)) (pss_cons (ps_if (pt_not (pt_truth (pe_has h_is_number (hr.mono (by decide)) (pa_cons (pv 3) (pa_cons (pv 2) (pa_cons (pe_op op_sub (pv 1) pe_int) pa_nil)))) (by intro _; rfl))) (pss_one (ps_ret pe_bl)) pss_nil)
 (pss_one (ps_set (i := 2) sc_is_lot.nd rfl (by first | exact Or.inl rfl | exact Or.inr rfl) (pe_op op_plus (pv 3) pe_int)))))
 (pss_one (ps_ret pe_bl))))), fn_start (ps := ["thing", "many"]) ?_ h⟩)
  rintro W es KK ⟨d, many, rfl, hd, hds, k⟩
  refine ⟨rfl, ?_⟩
  show St W [.d d, .d (.int many), .no, .no] _ _
  repeat walk_at "pd"
  refine ⟨fun hb => ?_, fun hb => ?_⟩
  · repeat walk_at "pd"
    have e : isLotD d many = false := by cases d <;> first | rfl | cases hb
    rw [e] at k; exact k
  cases d with
  | tup ds =>
    have hds := hds ds rfl
    repeat walk_at "pd"
    refine st_for (evi_tup (ev_var (i := 0) rfl ⟨ds, rfl, fun i G => ∃ (least : Int) (e : Ent), ownOf e = none ∧ G = [.d (.tup ds), .d (.int many), .d (.int least), e] ∧ isLotD (.tup ds) many = lotFrom many least (ds.drop i), ⟨0, .no, rfl, rfl, rfl⟩, ?_, ?_⟩))
    · rintro i d G' hd' ⟨least, e, he, rfl, hl⟩
      refine tg_name ?_
      show St W [.d (.tup ds), .d (.int many), .d (.int least), .d d] _ _
      have hdrop : ds.drop i = d :: ds.drop (i + 1) := by
        have hi := (List.getElem?_eq_some_iff.mp hd').1
        rw [List.drop_eq_getElem_cons hi, (List.getElem?_eq_some_iff.mp hd').2]
      repeat walk_at "pd"
      refine ⟨hds d (List.mem_of_getElem? hd'), ?_⟩
      repeat walk_at "pd"
      refine ⟨fun hb => ?_, fun hb => ?_⟩
      · repeat walk_at "pd"
        rw [hdrop, lotFrom_no (by simpa using hb)] at hl
        rw [hl] at k; exact k
      · repeat walk_at "pd"
        obtain ⟨j, rfl, hj⟩ := lotFrom_yes (ds := ds.drop (i + 1)) (show isNumD d least (many - 1) = true by simpa using hb)
        repeat walk_at "pd"
        exact ⟨j + 1, .d (.int j), rfl, rfl, by rw [hl, hdrop, hj]⟩
    · rintro G' ⟨least, e, he, rfl, hl⟩
      repeat walk_at "pd"
      rw [List.drop_length] at hl
      rw [hl] at k; exact k
  | _ => cases hb
/-! ### masks_above -/
abbrev s_masks_above : Stmt := topS 9
abbrev N_masks_above : List Str := ["parents", "found", "kind", "row", "mask", "parent"]
theorem sc_masks_above : FnScope N_masks_above ["parents"] (defScope s_masks_above) := ⟨rfl, rfl, rfl, by decide +kernel, rfl, by decide +kernel, by decide +kernel⟩
def pre_masks_above (K : PySem.W.Frag) (CBook : Addr) (CKindError : Addr) (CNoOrder : Addr) : Wd → List Ent → (D → Prop) → Prop := fun _ es KK => ∃ rows : List (List Nat), es = [.d (rowsD rows)] ∧ Bk.RowsOk rows ∧ rows.length ≤ 50000 ∧ KK (nT (Bk.masks rows))
theorem len_masks_above (K : PySem.W.Frag) (CBook : Addr) (CKindError : Addr) (CNoOrder : Addr) : ∀ W es KK, pre_masks_above K CBook CKindError CNoOrder W es KK → es.length = 1 := by rintro W es K ⟨rows, rfl, _⟩; rfl
abbrev sp_masks_above (K : PySem.W.Frag) (CBook : Addr) (CKindError : Addr) (CNoOrder : Addr) : Sp := FSp (pre_masks_above K CBook CKindError CNoOrder)
theorem ok_masks_above {f : Addr} {fd : FuncData} (F : Fun K "masks_above" "masks_above" s_masks_above f fd) (T : Txt K mg CBook CKindError CNoOrder) : FnOk P w K mg base CX0 1 f fd ["parents"] (sp_masks_above K CBook CKindError CNoOrder) := by
  refine F.ok sc_masks_above (fun vs H Q E h => fn_len (n := 1) (len_masks_above K CBook CKindError CNoOrder) h) (fun cdv A outer s H vs Q E hr h => ⟨_, (pss_cons (ps_set (i := 1) sc_masks_above.nd rfl (by first | exact Or.inl rfl | exact Or.inr rfl) (pe_lst pa_nil))
 (pss_cons (ps_for PassesOwn.never rfl (pi_enumT (by rfl) T.z_enumerate (pa_cons (pv 0) pa_nil)) (pg_tup (n := 2) rfl (pgs_cons (pg_name (i := 2) sc_masks_above.nd rfl (by first | exact Or.inl rfl | exact Or.inr rfl)) (pgs_cons (pg_name (i := 3) sc_masks_above.nd rfl (by first | exact Or.inl rfl | exact Or.inr rfl)) pgs_nil))) (pss_cons (ps_set (i := 4) sc_masks_above.nd rfl (by first | exact Or.inl rfl | exact Or.inr rfl) (pe_op op_shl pe_int (pv 2)))
 (pss_cons (ps_for PassesOwn.never rfl (pi_tup (pv 3)) (pg_name (i := 5) sc_masks_above.nd rfl (by first | exact Or.inl rfl | exact Or.inr rfl)) (pss_one (ps_aug (i := 4) sc_masks_above.nd rfl (by first | exact Or.inl rfl | exact Or.inr rfl) (pe_ix ix_seq (pv 1) (pv 5) (fun _ _ => rfl)) iop_or)))
 (pss_one (ps_expr (pe_bm PySem.F.plainAttrs_list PySem.F.slot_list_append PySem.F.type_list_append mt_append (pv 1) (pa_cons (pv 4) pa_nil)))))))
 (pss_one (ps_ret (pe_callTy call_tup1 (by rfl) T.z_tuple (by decide +kernel) (pa_cons (pv 1) pa_nil)))))), fn_start (ps := ["parents"]) ?_ h⟩)
  rintro W es KK ⟨rows, rfl, hok, hl, k⟩
  refine ⟨rfl, ?_⟩
  show St W [.d (rowsD rows), .no, .no, .no, .no, .no] _ _
  refine st_seq (st_own (evl_lst (eva_nil ⟨[], rfl, Nat.zero_le _, fun l => ?_⟩)))
  show St W [.d (rowsD rows), .own l [], .no, .no, .no, .no] _ _
  refine st_seq (st_for (evi_enumT (ev_var (i := 0) rfl ⟨rows.map nT, rfl, fun i G => ∃ e1 e2 e3 e4 : Ent, ownOf e1 = none ∧ ownOf e2 = none ∧ ownOf e3 = none ∧ ownOf e4 = none ∧ G = [.d (rowsD rows), .own l (intsD (Bk.masks (rows.take i))), e1, e2, e3, e4], ⟨.no, .no, .no, .no, rfl, rfl, rfl, rfl, rfl⟩, ?_, ?_⟩)))
  · rintro i d G' hd ⟨e1, e2, e3, e4, h1, h2, h3, h4, rfl⟩
    obtain ⟨x, hx, rfl, hi⟩ := enum_of hd
    obtain ⟨row, hrow, rfl⟩ := rowsD_get hx
    rw [List.length_map] at hi
    refine tg_tup2 ?_
    show St W [.d (rowsD rows), .own l (intsD (Bk.masks (rows.take i))), .d (.int (i : Nat)), .d (nT row), e3, e4] _ _
    repeat walk_at "pd"
    refine opd_shl ⟨Int.natCast_nonneg _, by omega, by decide⟩ ?_
    rw [Bm.shl_one]
    have hlen : (Bk.masks (rows.take i)).length = i := by rw [Bk.masks_length, List.length_take]; omega
    refine st_seq (st_for (evi_tup (ev_var (i := 3) rfl ⟨intsD row, rfl, fun j G => ∃ e4 : Ent, ownOf e4 = none ∧ G = [.d (rowsD rows), .own l (intsD (Bk.masks (rows.take i))), .d (.int (i : Nat)), .d (nT row), .d (.int (((row.take j).foldl (fun m p => m ||| (Bk.masks (rows.take i)).getD p 0) (2 ^ i) : Nat) : Int)), e4], ⟨e4, h4, rfl⟩, ?_, ?_⟩)))
    · rintro j d G' hd ⟨e5, h5, rfl⟩
      obtain ⟨p, hp, rfl⟩ := intsD_of hd
      refine tg_name ?_
      refine st_aug (i := 4) rfl ?_
      repeat walk_at "pd"
      have hpi : p < i := hok i row hrow p (List.mem_of_getElem? hp)
      refine opd_ix (show ixD (.lst (intsD (Bk.masks (rows.take i)))) ((p : Nat) : Int) = some (.int (((Bk.masks (rows.take i)).getD p 0 : Nat) : Int)) from atI_of (intsD_get (by rw [hlen]; exact hpi))) ?_
      refine opd_or ?_
      rw [Bm.or_nn]
      refine ⟨.d (.int (p : Nat)), rfl, ?_⟩
      rw [Bk.take_snoc hp, List.foldl_append]
      rfl
    · rintro G' ⟨e5, h5, rfl⟩
      rw [show row.take (intsD row).length = row from List.take_of_length_le (by rw [intsD_len]; exact Nat.le_refl _)]
      refine st_app (l := l) (ds := intsD (Bk.masks (rows.take i))) rfl (by rw [intsD_len, hlen]; omega) ?_
      repeat walk_at "pd"
      refine ⟨.d (.int (i : Nat)), .d (nT row), .d (.int (Bk.stepMask (Bk.masks (rows.take i)) i row : Nat)), e5, rfl, rfl, rfl, h5, ?_⟩
      rw [Bk.masks_take hrow]
      unfold Bk.grow
      rw [← intsD_snoc, hlen]
      rfl
  · rintro G' ⟨e1, e2, e3, e4, h1, h2, h3, h4, rfl⟩
    rw [enum_len, List.length_map, List.take_length]
    refine st_ret (ev_cb (eva_cons (eve_own (l := l) (ds := intsD (Bk.masks rows)) rfl (eva_nil (cd_tupL rfl ?_)))))
    exact k
/-! ### is_parents -/
abbrev s_is_parents : Stmt := topS 14
abbrev N_is_parents : List Str := ["thing", "kind"]
theorem sc_is_parents : FnScope N_is_parents ["thing", "kind"] (defScope s_is_parents) := ⟨rfl, rfl, rfl, by decide +kernel, rfl, by decide +kernel, by decide +kernel⟩
def isParD (d : D) (kind : Int) : Bool := match d with
  | .tup ds => isLotD (.tup ds) kind && decide ((ds.length : Int) ≤ 6)
  | _ => false
def pre_is_parents (K : PySem.W.Frag) (CBook : Addr) (CKindError : Addr) (CNoOrder : Addr) : Wd → List Ent → (D → Prop) → Prop := fun _ es KK => ∃ d many, es = [.d d, .d (.int many)] ∧ TyOk K d ∧ (∀ ds, d = .tup ds → ∀ x ∈ ds, TyOk K x) ∧ KK (.bl (isParD d many))
theorem len_is_parents (K : PySem.W.Frag) (CBook : Addr) (CKindError : Addr) (CNoOrder : Addr) : ∀ W es KK, pre_is_parents K CBook CKindError CNoOrder W es KK → es.length = 2 := by rintro W es K ⟨d, many, rfl, _⟩; rfl
abbrev sp_is_parents (K : PySem.W.Frag) (CBook : Addr) (CKindError : Addr) (CNoOrder : Addr) : Sp := FSp (pre_is_parents K CBook CKindError CNoOrder)
theorem ok_is_parents {f : Addr} {fd : FuncData} (F : Fun K "is_parents" "is_parents" s_is_parents f fd) (T : Txt K mg CBook CKindError CNoOrder) (h_is_lot : Has P w K mg base 3 "is_lot" ["thing", "many"] (sp_is_lot K CBook CKindError CNoOrder)) : FnOk P w K mg base CX0 4 f fd ["thing", "kind"] (sp_is_parents K CBook CKindError CNoOrder) := by
  refine F.ok sc_is_parents (fun vs H Q E h => fn_len (n := 2) (len_is_parents K CBook CKindError CNoOrder) h) (fun cdv A outer s H vs Q E hr h => ⟨_, (pss_one (ps_ret (pe_and (pe_has h_is_lot (hr.mono (by decide)) (pa_cons (pv 0) (pa_cons (pv 1) pa_nil))) (pe_one (pe_cmpR op_le (pe_callB call_len1 (by rfl) T.z_len (by decide +kernel) (pa_cons (pv 0) pa_nil)) (pe_globI T.c_MOST_PARENTS) (nomark _)))))), fn_start (ps := ["thing", "kind"]) ?_ h⟩)
  rintro W es KK ⟨d, many, rfl, hd, hds, k⟩
  refine ⟨rfl, ?_⟩
  show St W [.d d, .d (.int many)] _ _
  repeat walk_at "pd"
  refine ⟨hd, hds, ?_⟩
  repeat walk_at "pd"
  refine ⟨fun hb => ?_, fun hb => ?_⟩
  · cases d with
    | tup ds =>
      repeat walk_at "pd"
      try refine cd_len (.inr rfl) ?_
      repeat walk_at "pd"
      have e : isParD (.tup ds) many = decide ((ds.length : Int) ≤ 6) := by
        show (isLotD (.tup ds) many && _) = _
        rw [hb]; rfl
      rw [e] at k; exact k
    | _ => cases hb
  · have e : isParD d many = false := by
      cases d with
      | tup ds => show (isLotD (.tup ds) many && _) = _; rw [hb]; rfl
      | _ => rfl
    rw [e] at k; exact k
/-! ### first_bad -/
abbrev s_first_bad : Stmt := topS 15
abbrev N_first_bad : List Str := ["parents", "kind", "row"]
theorem sc_first_bad : FnScope N_first_bad ["parents"] (defScope s_first_bad) := ⟨rfl, rfl, rfl, by decide +kernel, rfl, by decide +kernel, by decide +kernel⟩
def firstFrom : Nat → List D → D
  | _, [] => .non
  | k, d :: ds => if isParD d (k : Nat) then firstFrom (k + 1) ds else .int (k : Nat)
theorem firstFrom_cons {k : Nat} {d : D} {ds : List D} : firstFrom k (d :: ds) = if isParD d (k : Nat) then firstFrom (k + 1) ds else .int (k : Nat) := rfl
def firstBadD (d : D) : D := match d with
  | .tup ds => if (ds.length : Int) ≤ 400 then firstFrom 0 ds else .int (-1)
  | _ => .int (-1)
def pre_first_bad (K : PySem.W.Frag) (CBook : Addr) (CKindError : Addr) (CNoOrder : Addr) : Wd → List Ent → (D → Prop) → Prop := fun _ es KK => ∃ d, es = [.d d] ∧ TyOk K d ∧ (∀ ds, d = .tup ds → ∀ x ∈ ds, TyOk K x ∧ ∀ es, x = .tup es → ∀ y ∈ es, TyOk K y) ∧ KK (firstBadD d)
theorem len_first_bad (K : PySem.W.Frag) (CBook : Addr) (CKindError : Addr) (CNoOrder : Addr) : ∀ W es KK, pre_first_bad K CBook CKindError CNoOrder W es KK → es.length = 1 := by rintro W es K ⟨d, rfl, _⟩; rfl
abbrev sp_first_bad (K : PySem.W.Frag) (CBook : Addr) (CKindError : Addr) (CNoOrder : Addr) : Sp := FSp (pre_first_bad K CBook CKindError CNoOrder)
theorem ok_first_bad {f : Addr} {fd : FuncData} (F : Fun K "first_bad" "first_bad" s_first_bad f fd) (T : Txt K mg CBook CKindError CNoOrder) (h_is_parents : Has P w K mg base 4 "is_parents" ["thing", "kind"] (sp_is_parents K CBook CKindError CNoOrder)) : FnOk P w K mg base CX0 5 f fd ["parents"] (sp_first_bad K CBook CKindError CNoOrder) := by
  refine F.ok sc_first_bad (fun vs H Q E h => fn_len (n := 1) (len_first_bad K CBook CKindError CNoOrder) h) (fun cdv A outer s H vs Q E hr h => ⟨_, (pss_cons (ps_if (PW.pt (pw_or (pt_not (pt_truth (pe_callB call_isi (by rfl) T.z_isinstance (by decide +kernel) (pa_cons (pv 0) (pa_cons (pe_bltn (v := .ty "tuple") (by rfl) T.z_tuple (by decide +kernel) rfl) pa_nil))) (by intro _; rfl))) (pw_or1 (pt_cmpR op_gt (pe_callB call_len1 (by rfl) T.z_len (by decide +kernel) (pa_cons (pv 0) pa_nil)) (pe_globI T.c_MOST_KINDS) (nomark _))))) (pss_one (ps_ret (pe_un un_neg pe_int))) pss_nil)
 (pss_cons (ps_for PassesOwn.never rfl (pi_enumT (by rfl) T.z_enumerate (pa_cons (pv 0) pa_nil)) (pg_tup (n := 2) rfl (pgs_cons (pg_name (i := 1) sc_first_bad.nd rfl (by first | exact Or.inl rfl | exact Or.inr rfl)) (pgs_cons (pg_name (i := 2) sc_first_bad.nd rfl (by first | exact Or.inl rfl | exact Or.inr rfl)) pgs_nil))) (pss_one (ps_if (pt_not (pt_truth (pe_has h_is_parents (hr.mono (by decide)) (pa_cons (pv 2) (pa_cons (pv 1) pa_nil))) (by intro _; rfl))) (pss_one (ps_ret (pv 1))) pss_nil)))
 (pss_one (ps_ret pe_non)))), fn_start (ps := ["parents"]) ?_ h⟩)
  rintro W es KK ⟨d, rfl, hd, hds, k⟩
  refine ⟨rfl, ?_⟩
  show St W [.d d, .no, .no] _ _
  repeat walk_at "pd"
  refine ⟨fun hb => ?_, fun hb => ?_⟩
  · have e : firstBadD d = .int (-1) := by cases d <;> first | rfl | cases hb
    rw [e] at k
    repeat walk_at "pd"
    exact k
  cases d with
  | tup ds =>
    repeat walk_at "pd"
    try refine cd_len (.inr rfl) ?_
    repeat walk_at "pd"
    refine ⟨fun hb => ?_, fun hb => ?_⟩
    · repeat walk_at "pd"
      have e : firstBadD (.tup ds) = .int (-1) := if_neg (by have := of_decide_eq_true hb; omega)
      rw [e] at k; exact k
    have hle : (ds.length : Int) ≤ 400 := by have := of_decide_eq_false hb; omega
    have e0 : firstBadD (.tup ds) = firstFrom 0 ds := if_pos hle
    repeat walk_at "pd"
    refine st_for (evi_enumT (ev_var (i := 0) rfl ⟨ds, rfl, fun i G => ∃ e1 e2 : Ent, ownOf e1 = none ∧ ownOf e2 = none ∧ G = [.d (.tup ds), e1, e2] ∧ firstFrom 0 ds = firstFrom i (ds.drop i), ⟨.no, .no, rfl, rfl, rfl, rfl⟩, ?_, ?_⟩))
    · rintro i d G' hd' ⟨e1, e2, h1, h2, rfl, hf⟩
      obtain ⟨x, hx, rfl, hi⟩ := enum_of hd'
      refine tg_tup2 ?_
      show St W [.d (.tup ds), .d (.int (i : Nat)), .d x] _ _
      have hdrop : ds.drop i = x :: ds.drop (i + 1) := by
        have hi := (List.getElem?_eq_some_iff.mp hx).1
        rw [List.drop_eq_getElem_cons hi, (List.getElem?_eq_some_iff.mp hx).2]
      obtain ⟨t1, t2⟩ := hds ds rfl x (List.mem_of_getElem? hx)
      repeat walk_at "pd"
      refine ⟨t1, t2, ?_⟩
      repeat walk_at "pd"
      refine ⟨fun hb => ?_, fun hb => ?_⟩
      all_goals rw [hdrop, firstFrom_cons] at hf
      · rw [if_neg (by simpa using hb)] at hf
        repeat walk_at "pd"
        rw [e0, hf] at k
        exact k
      · rw [if_pos (by simpa using hb)] at hf
        repeat walk_at "pd"
        exact ⟨_, _, rfl, rfl, rfl, hf⟩
    · rintro G' ⟨e1, e2, h1, h2, rfl, hf⟩
      rw [enum_len, List.drop_length] at hf
      repeat walk_at "pd"
      rw [e0, hf] at k
      exact k
  | _ => cases hb
/-! ### Book.__init__ -/
abbrev s_Book__init_ : Stmt := inClass (topS 13) 0
abbrev N_Book__init_ : List Str := ["self", "parents", "at"]
theorem sc_Book__init_ : FnScope N_Book__init_ ["self", "parents"] (defScope s_Book__init_) := ⟨rfl, rfl, rfl, by decide +kernel, rfl, by decide +kernel, by decide +kernel⟩

theorem isParD_ok {r : List Nat} {k : Nat} (h1 : r.Pairwise (· < ·)) (h2 : ∀ p ∈ r, p < k) (h3 : r.length ≤ 6) : isParD (nT r) (k : Nat) = true := by
  show (lotFrom (k : Nat) 0 (intsD r) && decide (((intsD r).length : Int) ≤ 6)) = true
  rw [show lotFrom (k : Nat) 0 (intsD r) = true from lotFrom_ok r 0 h1 fun p hp => ⟨Nat.zero_le _, h2 p hp⟩, intsD_len]
  simp; omega
theorem firstFrom_ok : ∀ (rows : List (List Nat)) (k : Nat), (∀ (i : Nat) r, rows[i]? = some r → isParD (nT r) ((k + i : Nat) : Nat) = true) → firstFrom k (rows.map nT) = .non
  | [], _, _ => rfl
  | r :: rows, k, h => by
    rw [List.map_cons, firstFrom_cons, if_pos (by have := h 0 r rfl; rwa [Nat.add_zero] at this)]
    refine firstFrom_ok rows (k + 1) fun i r' hi => ?_
    have := h (i + 1) r' (by simpa using hi)
    rw [show k + 1 + i = k + (i + 1) by omega]; exact this
theorem firstBad_ok {rows : List (List Nat)} (h : BookOk rows) : firstBadD (rowsD rows) = .non := by
  show (if ((rows.map nT).length : Int) ≤ 400 then firstFrom 0 (rows.map nT) else .int (-1)) = .non
  rw [if_pos (by rw [List.length_map]; have := h.many; omega)]
  refine firstFrom_ok rows 0 fun i r hi => ?_
  rw [Nat.zero_add]
  have hm := List.mem_of_getElem? hi
  exact isParD_ok (h.up r hm) (h.ok i r hi) (h.six r hm)
def pre_Book__init_ (K : PySem.W.Frag) (CBook : Addr) (CKindError : Addr) (CNoOrder : Addr) : Wd → List Ent → (List D → Prop) → Prop := fun _ es KK => ∃ rows, es = [.d (rowsD rows)] ∧ BookOk rows ∧ KK [rowsD rows, nT (Bk.masks rows)]
theorem rowsD_ty {K : PySem.W.Frag} {rows : List (List Nat)} : ∀ ds, rowsD rows = .tup ds → ∀ x ∈ ds, TyOk K x ∧ ∀ es, x = .tup es → ∀ y ∈ es, TyOk K y := fun ds h x hx => by
  cases h
  obtain ⟨r, _, rfl⟩ := List.mem_map.mp hx
  refine ⟨trivial, fun es he y hy => ?_⟩
  cases he
  obtain ⟨p, _, rfl⟩ := List.mem_map.mp hy
  trivial
theorem pa_ne_ab : ¬ (("parents" : Str) = "above") := by decide +kernel
theorem put2 (u v : V) : putF "above" u (putF "parents" v []) = ([("parents", v), ("above", u)] : List (Str × V)) := by
  show (if ("parents" : Str) = "above" then _ else _) = _
  rw [if_neg pa_ne_ab]; rfl
theorem ok_Book__init_ {f : Addr} {fd : FuncData} (F : Fun K "__init__" "Book.__init__" s_Book__init_ f fd) (T : Txt K mg CBook CKindError CNoOrder) (h_first_bad : Has P w K mg base 5 "first_bad" ["parents"] (sp_first_bad K CBook CKindError CNoOrder)) (h_masks_above : Has P w K mg base 1 "masks_above" ["parents"] (sp_masks_above K CBook CKindError CNoOrder)) : FnOk P w K mg base CX0 6 f fd ["self", "parents"] (FInit CBook ["parents", "above"] (pre_Book__init_ K CBook CKindError CNoOrder)) := by
  refine F.ok sc_Book__init_ (fun vs H Q E h => ?_) (fun cdv A outer s H vs Q E hr h => ⟨_, (pss_cons (ps_set (i := 2) sc_Book__init_.nd rfl (by first | exact Or.inl rfl | exact Or.inr rfl) (pe_has h_first_bad (hr.mono (by decide)) (pa_cons (pv 1) pa_nil)))
 (pss_cons (ps_if (pt_cmpR op_notN (pv 2) pe_non (nomark _)) (pss_one ps_never) pss_nil)
 (pss_cons (ps_fld (pv 0) (pv 1) rfl)
 (pss_one (ps_fld (pv 0) (pe_has h_masks_above (hr.mono (by decide)) (pa_cons (pv 1) pa_nil)) rfl))))), ?_⟩)
  · obtain ⟨W, X, es, KK, p, dx, us, rfl, hp, ⟨rows, rfl, _⟩, _, _, _, _, hv, _⟩ := h
    rw [List.length_cons, hv.length]; rfl
  obtain ⟨W, X, es, KK, p, dx, us, rfl, hp, ⟨rows, rfl, ok, k⟩, inv, nM, nX, hX, hv, ho, q⟩ := h
  cases hv with
  | @cons v _ _ _ r t =>
  cases t
  have e0 : Env W X H [some (.ref p), some v, none] [.raw (.ref p), .d (rowsD rows), .no] :=
    ⟨.cons rfl (.cons ⟨v, rfl, by show Rep (mo W (X ++ [])) H v _; rw [List.append_nil]; exact r⟩ (.cons trivial .nil)), List.nodup_nil, (fun l hl => nomatch hl), hX, inv⟩
  have c1 : Ev W [.raw (.ref p), .d (rowsD rows), .no] (tCall (sp_first_bad K CBook CKindError CNoOrder) [] E0 (tCons (tVar 1) tNil)) (fun d => d = .non) :=
    ev_call (eva_d (ev_var (i := 1) rfl (eva_nil ⟨rfl, rowsD rows, rfl, trivial, rowsD_ty, firstBad_ok ok⟩)))
  refine c1 X _ H e0 _ fun d v1 H1 k1 ex1 inv1 r1 => ?_
  subst k1
  cases r1
  refine ⟨_, rfl, rfl, _, rfl, ?_⟩
  show (if (!decide (V.non = V.non)) = true then _ else _)
  rw [if_neg (by simp)]
  have hp1 := ex1.ins hp
  refine ⟨v, rfl, _, rfl, p, CBook, dx, [], rfl, hp1, T.o_Book.oc.cl, T.n_Book_parents, (by show 0 < 1000; decide), ?_⟩
  have rI : Rep (mo W (X ++ [])) (upd H1 p (.ins CBook dx (putF "parents" v []))) v (rowsD rows) := Rep.keepT (ex1.kpT.trans (KpT.ins hp1)) (show Rep _ H v (rowsD rows) from r) (imm_rowsD rows)
  have e2 : Env W X (upd H1 p (.ins CBook dx (putF "parents" v []))) [some (.ref p), some v, some .non] [.raw (.ref p), .d (rowsD rows), .d .non] :=
    ⟨.cons rfl (.cons ⟨v, rfl, rI⟩ (.cons ⟨_, rfl, .non⟩ .nil)), List.nodup_nil, (fun l hl => nomatch hl), (fun l hl => by
      have lp : l ≠ p := fun z => nX (z ▸ hl)
      obtain ⟨a, o, b⟩ := hX l hl
      obtain ⟨o1, b1⟩ := ex1.th l o b
      exact ⟨a, o1, by rw [upd_ne lp]; exact b1⟩), inv_ins inv1 nM⟩
  have c2 : Ev W [.raw (.ref p), .d (rowsD rows), .d .non] (tCall (sp_masks_above K CBook CKindError CNoOrder) [] E0 (tCons (tVar 1) tNil)) (fun d => d = nT (Bk.masks rows)) :=
    ev_call (eva_d (ev_var (i := 1) rfl (eva_nil ⟨rfl, rows, rfl, ok.ok, by have := ok.many; omega, rfl⟩)))
  refine c2 X _ _ e2 _ fun d v2 H3 k3 ex3 inv3 r3 => ?_
  subst k3
  have hp3 := ex3.ins (upd_same (H := H1) (a := p) (o := .ins CBook dx (putF "parents" v [])))
  refine ⟨_, rfl, p, CBook, dx, _, rfl, hp3, T.o_Book.oc.cl, T.n_Book_above, (by show 1 < 1000; decide), ?_⟩
  refine q _ [v, v2] _ k (fun H0 h0 e => ((((e.trans ex1).mutN h0).trans ex3).mutN h0)) (inv_ins inv3 nM) (by rw [upd_same, put2]; rfl) rfl (.cons ?_ (.cons ?_ .nil))
  · exact Rep.keepT ((ex3.kpT).trans (KpT.ins hp3)) rI (imm_rowsD rows)
  · exact Rep.keepT (KpT.ins hp3) r3 (imm_nT _)

/-! ### Book.__eq__ -/
abbrev s_Book__eq_ : Stmt := inClass (topS 13) 1
abbrev N_Book__eq_ : List Str := ["self", "other"]
theorem sc_Book__eq_ : FnScope N_Book__eq_ ["self", "other"] (defScope s_Book__eq_) := ⟨rfl, rfl, rfl, by decide +kernel, rfl, by decide +kernel, by decide +kernel⟩
def pre_Book__eq_ (K : PySem.W.Frag) (CBook : Addr) (CKindError : Addr) (CNoOrder : Addr) : Wd → List Ent → (D → Prop) → Prop := fun _ es KK => ∃ r1 r2, es = [.d (bookD CBook r1), .d (bookD CBook r2)] ∧ KK (.bl (decide (r1 = r2)))
theorem len_Book__eq_ (K : PySem.W.Frag) (CBook : Addr) (CKindError : Addr) (CNoOrder : Addr) : ∀ W es KK, pre_Book__eq_ K CBook CKindError CNoOrder W es KK → es.length = 2 := by rintro W es K ⟨a, b, rfl, _⟩; rfl
abbrev sp_Book__eq_ (K : PySem.W.Frag) (CBook : Addr) (CKindError : Addr) (CNoOrder : Addr) : Sp := FSp (pre_Book__eq_ K CBook CKindError CNoOrder)
theorem ok_Book__eq_ {f : Addr} {fd : FuncData} (F : Fun K "__eq__" "Book.__eq__" s_Book__eq_ f fd) (T : Txt K mg CBook CKindError CNoOrder) : FnOk P w K mg base CX0 1 f fd ["self", "other"] (sp_Book__eq_ K CBook CKindError CNoOrder) := by
  refine F.ok sc_Book__eq_ (fun vs H Q E h => fn_len (n := 2) (len_Book__eq_ K CBook CKindError CNoOrder) h) (fun cdv A outer s H vs Q E hr h => ⟨_, (pss_one (ps_ret (pe_and (pe_callB call_isi (by rfl) T.z_isinstance (by decide +kernel) (pa_cons (pv 1) (pa_cons (pe_glob (v := .ref CBook) (by rfl) T.g_Book rfl) pa_nil))) (pe_one (pe_cmpR (op_eqD (hu65 hr)) (pe_fld (pv 0) rfl) (pe_fld (pv 1) rfl) (nomark _)))))), fn_start (ps := ["self", "other"]) ?_ h⟩)
  rintro W es KK ⟨r1, r2, rfl, k⟩
  refine ⟨rfl, ?_⟩
  show St W [.d (bookD CBook r1), .d (bookD CBook r2)] _ _
  repeat walk_at "pd"
  refine cd_isiOC T.o_Book.oc T.s_Book ?_
  repeat walk_at "pd"
  refine opd_eq (ok_rowsD r1) (ok_rowsD r2) ?_
  rw [eqD_rows]
  exact k
/-! ### made_book -/
abbrev s_made_book : Stmt := topS 16
abbrev N_made_book : List Str := ["parents", "book"]
theorem sc_made_book : FnScope N_made_book ["parents"] (defScope s_made_book) := ⟨rfl, rfl, rfl, by decide +kernel, rfl, by decide +kernel, by decide +kernel⟩
def pre_made_book (K : PySem.W.Frag) (CBook : Addr) (CKindError : Addr) (CNoOrder : Addr) : Wd → List Ent → (D → Prop) → Prop := fun _ es KK => ∃ rows, es = [.d (rowsD rows)] ∧ Bk.RowsOk rows ∧ rows.length ≤ 50000 ∧ KK (bookD CBook rows)
theorem len_made_book (K : PySem.W.Frag) (CBook : Addr) (CKindError : Addr) (CNoOrder : Addr) : ∀ W es KK, pre_made_book K CBook CKindError CNoOrder W es KK → es.length = 1 := by rintro W es K ⟨rows, rfl, _⟩; rfl
theorem put2b (u v u' v' : V) : putF "above" u (putF "parents" v ([("parents", v'), ("above", u')] : List (Str × V))) = ([("parents", v), ("above", u)] : List (Str × V)) := by
  show putF "above" u (if ("parents" : Str) = "parents" then _ else _) = _
  rw [if_pos rfl]
  show (if ("parents" : Str) = "above" then _ else (("parents" : Str), v) :: (if ("above" : Str) = "above" then _ else _)) = _
  rw [if_neg pa_ne_ab, if_pos rfl]
theorem putF_len1 (v u' v' : V) : (putF "parents" v ([("parents", v'), ("above", u')] : List (Str × V))).length = 2 := by
  show (if ("parents" : Str) = "parents" then (("parents" : Str), v) :: [(("above" : Str), u')] else _).length = 2
  rw [if_pos rfl]; rfl
abbrev sp_made_book (K : PySem.W.Frag) (CBook : Addr) (CKindError : Addr) (CNoOrder : Addr) : Sp := FSp (pre_made_book K CBook CKindError CNoOrder)
theorem ok_made_book {f : Addr} {fd : FuncData} (F : Fun K "made_book" "made_book" s_made_book f fd) (T : Txt K mg CBook CKindError CNoOrder) (h_Book : New P w K mg base 6 "Book" ["self", "parents"] CBook ["parents", "above"] (pre_Book__init_ K CBook CKindError CNoOrder)) (h_masks_above : Has P w K mg base 1 "masks_above" ["parents"] (sp_masks_above K CBook CKindError CNoOrder)) : FnOk P w K mg base CX0 8 f fd ["parents"] (sp_made_book K CBook CKindError CNoOrder) := by
  refine F.ok sc_made_book (fun vs H Q E h => fn_len (n := 1) (len_made_book K CBook CKindError CNoOrder) h) (fun cdv A outer s H vs Q E hr h => ⟨_, (pss_cons (ps_set (i := 1) sc_made_book.nd rfl (by first | exact Or.inl rfl | exact Or.inr rfl) (pe_new h_Book (hr.mono (by decide)) (pa_cons (pe_tup pa_nil) pa_nil)))
 (pss_cons (ps_fld (pv 1) (pv 0) rfl)
 (pss_cons (ps_fld (pv 1) (pe_has h_masks_above (hr.mono (by decide)) (pa_cons (pv 0) pa_nil)) rfl)
 (pss_one (ps_ret (pv 1)))))), fn_start (ps := ["parents"]) ?_ h⟩)
  rintro W es KK ⟨rows, rfl, hok, hl, k⟩
  refine ⟨rfl, ?_⟩
  show St W [.d (rowsD rows), .no] _ _
  intro X N H0 σ H o D m
  obtain ⟨v, s2, rfl, rv, e2⟩ : ∃ v x, σ = [some v, x] ∧ Rep (mo W (X ++ [])) H v (rowsD rows) ∧ True := by
    have := o.env.ok
    cases this with
    | cons a b =>
      obtain ⟨v, rfl, r⟩ := a
      cases b with
      | cons c d => cases d; exact ⟨v, _, rfl, r, trivial⟩
  refine ⟨Nat.zero_le _, fun p0 hp0 x dx hx hdx hne => ?_⟩
  have x0 : H x = none := by
    by_cases z : x = p0
    · subst z; exact hp0
    · rw [upd_ne z] at hx; exact hx
  have E1 : Ex W.M H (upd (upd (upd H p0 (.tup [])) dx (.own x)) x (.ins CBook dx [])) := (Ex.new hp0).trans (made_ex hx hdx hne W.M)
  have i1 : W.inv (upd (upd (upd H p0 (.tup [])) dx (.own x)) x (.ins CBook dx [])) := inv_same (inv_same o.env.inv fun _ => Ex.new hp0) fun M => made_ex hx hdx hne M
  have nMx : ¬ W.M x := new_ne o.env.inv x0
  have nXx : x ∉ X := fun z => own_neX o.env x0 (List.mem_append_left _ z)
  have xp : x ≠ p0 := fun z => by subst z; rw [upd_same] at hx; cases hx
  have dp : dx ≠ p0 := fun z => by subst z; rw [upd_same] at hdx; cases hdx
  refine ⟨W, X, [.d (rowsD [])], fun ds => ds = [rowsD [], nT (Bk.masks [])], x, dx, [.ref p0], rfl, upd_same, ⟨[], rfl, BookOk.nil, rfl⟩, i1, nMx, nXx, (fun l hl => by
    obtain ⟨a, o1, b⟩ := o.env.xs l hl
    obtain ⟨o2, c⟩ := E1.th l o1 b
    exact ⟨a, o2, c⟩), .cons (.tup (vs := []) (.inl (by rw [upd_ne xp.symm, upd_ne dp.symm, upd_same])) .nil) .nil, rfl, fun H2 xs ds k2 ex2 inv2 hp2 hl2 r2 => ⟨rfl, ?_⟩⟩
  have eH2 := ex2 H x0 E1
  obtain ⟨u1, u2, rfl⟩ : ∃ u1 u2, xs = [u1, u2] := match xs, hl2 with
    | [a, b], _ => ⟨a, b, rfl⟩
  have hp2 : H2 x = some (.ins CBook dx [("parents", u1), ("above", u2)]) := hp2
  refine ⟨v, rfl, _, rfl, x, CBook, dx, _, rfl, hp2, T.o_Book.oc.cl, T.n_Book_parents, (by show 2 < 1000; decide), ?_⟩
  have rI : Rep (mo W (X ++ [])) (upd H2 x (.ins CBook dx (putF "parents" v [("parents", u1), ("above", u2)]))) v (rowsD rows) := Rep.keepT (eH2.kpT.trans (KpT.ins hp2)) rv (imm_rowsD rows)
  have e3 : Env W X (upd H2 x (.ins CBook dx (putF "parents" v [("parents", u1), ("above", u2)]))) [some v, some (.ref x)] [.d (rowsD rows), .raw (.ref x)] :=
    ⟨.cons ⟨v, rfl, rI⟩ (.cons rfl .nil), List.nodup_nil, (fun l hl => nomatch hl), (fun l hl => by
      have lp : l ≠ x := fun z => nXx (z ▸ hl)
      obtain ⟨a, o1, b⟩ := o.env.xs l hl
      obtain ⟨o2, c⟩ := eH2.th l o1 b
      exact ⟨a, o2, by rw [upd_ne lp]; exact c⟩), inv_ins inv2 nMx⟩
  have c2 : Ev W [.d (rowsD rows), .raw (.ref x)] (tCall (sp_masks_above K CBook CKindError CNoOrder) [] E0 (tCons (tVar 0) tNil)) (fun d => d = nT (Bk.masks rows)) :=
    ev_call (eva_d (ev_var (i := 0) rfl (eva_nil ⟨rfl, rows, rfl, hok, hl, rfl⟩)))
  refine c2 X _ _ e3 _ fun d v2 H4 k3 ex4 inv4 r4 => ?_
  subst k3
  have hp4 := ex4.ins (upd_same (H := H2) (a := x) (o := .ins CBook dx (putF "parents" v [("parents", u1), ("above", u2)])))
  refine ⟨_, rfl, x, CBook, dx, _, rfl, hp4, T.o_Book.oc.cl, T.n_Book_above, (by rw [putF_len1]; decide), ?_⟩
  refine ⟨_, rfl, m.rt (bookD CBook rows) _ _ k (o.ex.trans (Ex.up (((eH2.mutN x0).trans ex4).mutN x0))) (inv_ins inv4 nMx) (.obj (vs := [v, v2]) upd_same (put2b v2 v u2 u1) rfl (.cons ?_ (.cons ?_ .nil)))⟩
  · exact Rep.keepT ((ex4.kpT).trans (KpT.ins hp4)) rI (imm_rowsD rows)
  · exact Rep.keepT (KpT.ins hp4) r4 (imm_nT _)
/-! ### is_order -/
abbrev s_is_order : Stmt := topS 18
abbrev N_is_order : List Str := ["book", "thing", "there", "kind"]
theorem sc_is_order : FnScope N_is_order ["book", "thing"] (defScope s_is_order) := ⟨rfl, rfl, rfl, by decide +kernel, rfl, by decide +kernel, by decide +kernel⟩
/-- kinds, none twice, each behind its parents -/
structure OrdOk (rows : List (List Nat)) (o : List Nat) : Prop where
  nd : o.Nodup
  lt : ∀ k ∈ o, k < rows.length
  be : ∀ (j k : Nat) (row : List Nat), o[j]? = some k → rows[k]? = some row → ∀ p ∈ row, p ∈ o.take j
/-- what stands ahead of a place is closed upwards -/
theorem OrdOk.closed {rows : List (List Nat)} {o : List Nat} (ok : Bk.RowsOk rows) (h : OrdOk rows o) (i : Nat) : ∀ k p, k ∈ o.take i → Bk.isA rows k p = true → p ∈ o.take i := by
  intro k
  induction k using Nat.strongRecOn with
  | _ k ih =>
    intro p hk hp
    have hkl := h.lt k (List.mem_of_mem_take hk)
    have hr := List.getElem?_eq_getElem hkl
    rw [Bk.isA_eq ok hr] at hp
    rcases Bool.or_eq_true_iff.mp hp with z | z
    · rw [← of_decide_eq_true z]; exact hk
    · obtain ⟨q, hq, hqp⟩ := List.any_eq_true.mp z
      obtain ⟨j, hj, e⟩ := List.getElem_of_mem hk
      have hji : j < i := by rw [List.length_take] at hj; omega
      have hjo : o[j]? = some k := by
        rw [List.getElem_take] at e
        rw [← e]; exact List.getElem?_eq_getElem _
      have hq2 := h.be j k _ hjo hr q hq
      have hq3 : q ∈ o.take i := by
        have : o.take j = (o.take i).take j := by rw [List.take_take, Nat.min_eq_left (by omega)]
        rw [this] at hq2
        exact List.mem_of_mem_take hq2
      exact ih q (ok k _ hr q hq) p hq3 hqp
theorem OrdOk.nil (rows : List (List Nat)) : OrdOk rows [] := ⟨List.nodup_nil, (fun _ h => nomatch h), fun j k row h => by simp at h⟩
theorem OrdOk.snoc {rows : List (List Nat)} {o : List Nat} (h : OrdOk rows o) {x : Nat} {row : List Nat} (hx : x ∉ o) (hr : rows[x]? = some row) (hp : ∀ p ∈ row, p ∈ o) : OrdOk rows (o ++ [x]) := by
  refine ⟨List.nodup_append.mpr ⟨h.nd, List.pairwise_singleton _ _, fun a ha b hb => by rw [List.mem_singleton.mp hb]; exact fun e => hx (by rw [← e]; exact ha)⟩, fun k hk => ?_, fun j k r hj hkr p hpr => ?_⟩
  · rcases List.mem_append.mp hk with z | z
    · exact h.lt k z
    · rw [List.mem_singleton.mp z]; exact (List.getElem?_eq_some_iff.mp hr).1
  · by_cases q : j < o.length
    · rw [List.getElem?_append_left q] at hj
      rw [List.take_append_of_le_length (by omega)]
      exact h.be j k r hj hkr p hpr
    · have hjl := (List.getElem?_eq_some_iff.mp hj).1
      rw [List.length_append] at hjl
      have hjl : j < o.length + 1 := hjl
      have e : j = o.length := by omega
      subst e
      rw [List.getElem?_append_right (Nat.le_refl _), Nat.sub_self] at hj
      cases hj
      rw [hr] at hkr; cases hkr
      rw [List.take_left']
      · exact hp p hpr
      · rfl
def AnyD (K : PySem.W.Frag) (d : D) : Prop := TyOk K d ∧ ∀ vs, d = .tup vs → ∀ x ∈ vs, TyOk K x
/-- an order of a book's kinds -/
def IsOrd (rows : List (List Nat)) (d : D) : Prop := ∃ o, d = nT o ∧ OrdOk rows o ∧ o.length = rows.length
theorem intsD_back (o : List Nat) : (intsD o).map (fun d => match d with | .int i => i.toNat | _ => 0) = o := by
  unfold intsD
  rw [List.map_map]
  exact (List.map_congr_left fun x _ => by show ((x : Nat) : Int).toNat = x; simp).trans (List.map_id' o)
theorem intsD_inj {a b : List Nat} (h : intsD a = intsD b) : a = b := by
  rw [← intsD_back a, h, intsD_back]
theorem intsD_take (o : List Nat) (j : Nat) : (intsD o).take j = intsD (o.take j) := by unfold intsD; rw [List.map_take]
theorem num_ex {x : D} {n : Nat} (h : isNumD x 0 ((n : Int) - 1) = true) : ∃ a : Nat, x = .int (a : Nat) ∧ a < n := by
  cases x with
  | int i =>
    have h : (decide ((0 : Int) ≤ i) && decide (i ≤ (n : Int) - 1)) = true := h
    rw [Bool.and_eq_true] at h
    have h1 := of_decide_eq_true h.1
    have h2 := of_decide_eq_true h.2
    exact ⟨i.toNat, by rw [Int.toNat_of_nonneg h1], by omega⟩
  | _ => cases h
theorem num_of {a n : Nat} (h : a < n) : isNumD (.int (a : Nat)) 0 ((n : Int) - 1) = true := by
  show (decide ((0 : Int) ≤ (a : Int)) && decide ((a : Int) ≤ (n : Int) - 1)) = true
  rw [decide_eq_true (by omega), decide_eq_true (by omega)]; rfl
/-- an order of which the first so many are known, and the next -/
theorem IsOrd.next {rows : List (List Nat)} {ds : List D} {o : List Nat} {j : Nat} {x : D} (h : IsOrd rows (.tup ds)) (ht : ds.take j = intsD o) (hx : ds[j]? = some x) : ∃ k, x = .int (k : Nat) ∧ k < rows.length ∧ k ∉ o ∧ ∀ y, Bk.RowsOk rows → Bk.isA rows k y = true → y ∈ o ++ [k] := by
  obtain ⟨o', e, ho, hl⟩ := h
  have e : ds = intsD o' := by cases e; rfl
  subst e
  obtain ⟨k, hk, rfl⟩ := intsD_of hx
  rw [intsD_take] at ht
  have e2 := intsD_inj ht
  have hkl := (List.getElem?_eq_some_iff.mp hk).1
  refine ⟨k, rfl, ho.lt k (List.mem_of_getElem? hk), fun hm => ?_, fun y ok hy => ?_⟩
  · rw [← e2] at hm
    obtain ⟨i, hi, e⟩ := List.getElem_of_mem hm
    rw [List.length_take] at hi
    rw [List.getElem_take] at e
    have hij : i = j := (List.getElem_inj ho.nd).mp (e.trans (Option.some.inj (hk.symm.trans (List.getElem?_eq_getElem hkl))))
    omega
  · rw [← e2, ← snoc_take hk]
    exact ho.closed ok (j + 1) k y (by rw [snoc_take hk]; exact List.mem_append_right _ (List.mem_singleton.mpr rfl)) hy
def pre_is_order (K : PySem.W.Frag) (CBook : Addr) (CKindError : Addr) (CNoOrder : Addr) : Wd → List Ent → (D → Prop) → Prop := fun _ es KK => ∃ (rows : List (List Nat)) (d : D), es = [.d (bookD CBook rows), .d d] ∧ BookOk rows ∧ AnyD K d ∧ (IsOrd rows d → KK (.bl true)) ∧ (¬ IsOrd rows d → KK (.bl false))
theorem len_is_order (K : PySem.W.Frag) (CBook : Addr) (CKindError : Addr) (CNoOrder : Addr) : ∀ W es KK, pre_is_order K CBook CKindError CNoOrder W es KK → es.length = 2 := by rintro W es K ⟨rows, o, rfl, _⟩; rfl
abbrev sp_is_order (K : PySem.W.Frag) (CBook : Addr) (CKindError : Addr) (CNoOrder : Addr) : Sp := FSp (pre_is_order K CBook CKindError CNoOrder)
theorem ok_is_order {f : Addr} {fd : FuncData} (F : Fun K "is_order" "is_order" s_is_order f fd) (T : Txt K mg CBook CKindError CNoOrder) (h_is_number : Has P w K mg base 2 "is_number" ["thing", "low", "high"] (sp_is_number K CBook CKindError CNoOrder)) : FnOk P w K mg base CX0 3 f fd ["book", "thing"] (sp_is_order K CBook CKindError CNoOrder) := by
  refine F.ok sc_is_order (fun vs H Q E h => fn_len (n := 2) (len_is_order K CBook CKindError CNoOrder) h) (fun cdv A outer s H vs Q E hr h => ⟨_, (pss_cons (ps_if (PW.pt (pw_or (pt_not (pt_truth (pe_callB call_isi (by rfl) T.z_isinstance (by decide +kernel) (pa_cons (pv 1) (pa_cons (pe_bltn (v := .ty "tuple") (by rfl) T.z_tuple (by decide +kernel) rfl) pa_nil))) (by intro _; rfl))) (pw_or1 (pt_cmpR (op_neD (hu65 hr)) (pe_callB call_len1 (by rfl) T.z_len (by decide +kernel) (pa_cons (pv 1) pa_nil)) (pe_callB call_len1 (by rfl) T.z_len (by decide +kernel) (pa_cons (pe_fld (pv 0) rfl) pa_nil)) (nomark _))))) (pss_one (ps_ret pe_bl)) pss_nil)
 (pss_cons (ps_set (i := 2) sc_is_order.nd rfl (by first | exact Or.inl rfl | exact Or.inr rfl) pe_int)
 (pss_cons (ps_for PassesOwn.never rfl (pi_tup (pv 1)) (pg_name (i := 3) sc_is_order.nd rfl (by first | exact Or.inl rfl | exact Or.inr rfl)) (pss_cons (ps_if (PW.pt (pw_or (pt_not (pt_truth (pe_has h_is_number (hr.mono (by decide)) (pa_cons (pv 3) (pa_cons pe_int (pa_cons (pe_op op_sub (pe_callB call_len1 (by rfl) T.z_len (by decide +kernel) (pa_cons (pv 1) pa_nil)) pe_int) pa_nil)))) (by intro _; rfl))) (pw_or1 (pt_truth (pe_op op_and (pe_op op_shr (pv 2) (pv 3)) pe_int) (by intro _; rfl))))) (pss_one (ps_ret pe_bl)) pss_nil)
 (pss_cons (ps_aug (i := 2) sc_is_order.nd rfl (by first | exact Or.inl rfl | exact Or.inr rfl) (pe_op op_shl pe_int (pv 3)) iop_or)
 (pss_one (ps_if (pt_truth (pe_op op_and (pe_ix ix_seq (pe_fld (pv 0) rfl) (pv 3) (fun _ _ => rfl)) (pe_un un_inv (pv 2))) (by intro _; rfl)) (pss_one (ps_ret pe_bl)) pss_nil)))))
 (pss_one (ps_ret pe_bl))))), fn_start (ps := ["book", "thing"]) ?_ h⟩)
  rintro W es KK ⟨rows, d, rfl, ok, ⟨ty, tys⟩, k1, k0⟩
  refine ⟨rfl, ?_⟩
  show St W [.d (bookD CBook rows), .d d, .no, .no] _ _
  have hn := ok.many
  have hok : Bk.RowsOk rows := ok.ok
  refine st_seq <| st_if <| evt_or ?_
  repeat walk_at "pd"
  refine ⟨fun hb => ?_, fun hb => ?_⟩
  · repeat walk_at "pd"
    exact k0 fun ⟨o, e, _⟩ => by subst e; cases hb
  cases d with
  | tup ds =>
    have tys := tys ds rfl
    repeat walk_at "pd"
    refine opd_ne rfl rfl ?_
    rw [List.length_map, eqD_nat]
    refine ⟨_, rfl, fun hb => ?_, fun hb => ?_⟩
    · refine st_ret <| ev_bl <| k0 fun ⟨o, e, _, hl⟩ => ?_
      cases e
      rw [List.length_map, hl, decide_eq_true rfl] at hb
      cases hb
    have hl : ds.length = rows.length := by simpa using hb
    refine st_next ?_
    refine st_seq <| st_asg <| ev_int ?_
    refine st_seq <| st_for <| evi_tup <| ev_var (i := 1) rfl ⟨ds, rfl, fun j G => ∃ (o : List Nat) (m : Nat) (e3 : Ent), OrdOk rows o ∧ ds.take j = intsD o ∧ o.length = j ∧ (∀ y, m.testBit y = decide (y ∈ o)) ∧ G = [.d (bookD CBook rows), .d (.tup ds), .d (.int (m : Nat)), e3], ⟨[], 0, .no, OrdOk.nil rows, rfl, rfl, (fun y => by simp), rfl⟩, ?_, ?_⟩
    · rintro j x G' hx ⟨o, m, e3, ho, ht, hol, hm, rfl⟩
      have tx := tys x (List.mem_of_getElem? hx)
      have hj := (List.getElem?_eq_some_iff.mp hx).1
      refine tg_name ?_
      show St W [.d (bookD CBook rows), .d (.tup ds), .d (.int (m : Nat)), .d x] _ _
      refine st_seq <| st_if <| evt_or <| evt_not <| evt_tru <| Ev.b <| ev_call <| eva_d <| ev_var (i := 3) rfl <| eva_d <| ev_int <| eva_d <| ev_op <| ev_cb <| eva_d <| ev_var (i := 1) rfl <| eva_nil <| cd_len (.inr rfl) <| ev_int <| opd_sub <| eva_nil ⟨rfl, _, _, _, rfl, tx, ?_⟩
      rw [hl]
      refine ⟨rfl, fun hb => ⟨fun _ => ?_, (fun z => nomatch z)⟩, fun hb => ?_⟩
      · have hb : (!isNumD x 0 ((rows.length : Int) - 1)) = true := hb
        refine st_ret <| ev_bl <| k0 fun h => ?_
        obtain ⟨k, rfl, hk, _⟩ := h.next ht hx
        rw [num_of hk] at hb; cases hb
      have hb : (!isNumD x 0 ((rows.length : Int) - 1)) = false := hb
      obtain ⟨q, rfl, hq⟩ := num_ex (n := rows.length) (x := x) (by simpa using hb)
      refine evt_tru <| Ev.b <| ev_op <| ev_op <| ev_var (i := 2) rfl <| ev_var (i := 3) rfl <| opd_shr (Int.natCast_nonneg _) <| ev_int <| opd_and ?_
      refine ⟨rfl, ?_⟩
      rw [show truD (.int (Builtin.bitAnd (((m : Nat) : Int) / 2 ^ ((q : Nat) : Int).toNat) 1)) = m.testBit q from shr_bit _ _, hm q]
      refine ⟨fun hb => ?_, fun hb => st_next ?_⟩
      · refine st_ret <| ev_bl <| k0 fun h => ?_
        obtain ⟨k, e, _, hk, _⟩ := h.next ht hx
        have e : q = k := by injection e with e; omega
        subst e
        exact hk (of_decide_eq_true hb)
      have hqo : q ∉ o := of_decide_eq_false hb
      refine st_seq <| st_aug (i := 2) rfl <| ev_op <| ev_int <| ev_var (i := 3) rfl <| opd_shl ⟨Int.natCast_nonneg _, by omega, by decide⟩ ?_
      rw [Bm.shl_one]
      refine opd_or ?_
      rw [Bm.or_nn]
      have hm' : ∀ y, (m ||| 2 ^ q).testBit y = decide (y ∈ o ++ [q]) := fun y => by
        rw [Nat.testBit_or, hm y, Nat.testBit_two_pow]
        by_cases z : q = y
        · subst z; simp
        · simp [z, Ne.symm z]
      show St W [.d (bookD CBook rows), .d (.tup ds), .d (.int ((m ||| 2 ^ q : Nat) : Int)), .d (.int (q : Nat))] _ _
      refine st_if <| evt_tru <| Ev.b <| ev_op <| ev_op <| fld_above T <| ev_var (i := 0) rfl ⟨rows, rfl, ev_var (i := 3) rfl <| opd_ix (mask_at hq) <| ev_un <| ev_var (i := 2) rfl <| und_inv <| opd_and ?_⟩
      rw [Bm.and_inv]
      generalize hz : Bk.mask rows q - (Bk.mask rows q &&& (m ||| 2 ^ q)) = z
      have bz : ∀ y, z.testBit y = ((Bk.mask rows q).testBit y && !decide (y ∈ o ++ [q])) := fun y => by rw [← hz, Bm.testBit_less, hm' y]
      refine ⟨rfl, fun hb => ?_, fun hb => st_next ?_⟩
      · refine st_ret <| ev_bl <| k0 fun h => ?_
        obtain ⟨k, e, _, _, hk⟩ := h.next ht hx
        have e : q = k := by injection e with e; omega
        subst e
        have z0 : z = 0 := Nat.eq_of_testBit_eq fun y => by
          rw [bz, Nat.zero_testBit]
          cases w : (Bk.mask rows q).testBit y with
          | false => rfl
          | true => rw [decide_eq_true (hk y hok w)]; rfl
        rw [z0] at hb; cases hb
      have z0 : z = 0 := by
        have hb : decide ((z : Int) ≠ 0) = false := by simpa [truD] using hb
        have := of_decide_eq_false hb
        omega
      have hrow := List.getElem?_eq_getElem hq
      refine ⟨o ++ [q], m ||| 2 ^ q, .d (.int (q : Nat)), ho.snoc hqo hrow (fun p hp => ?_), by rw [snoc_take hx, ht]; exact intsD_snoc _ _, by rw [List.length_append, hol]; rfl, hm', rfl⟩
      have hlt := hok q _ hrow p hp
      have hA : (Bk.mask rows q).testBit p = true := by
        show Bk.isA rows q p = true
        rw [Bk.isA_eq hok hrow, Bool.or_eq_true]
        exact .inr (List.any_eq_true.mpr ⟨p, hp, Bk.isA_self hok (by omega)⟩)
      have := bz p
      rw [z0, Nat.zero_testBit, hA, Bool.true_and] at this
      have hmem : p ∈ o ++ [q] := Classical.byContradiction fun w => by rw [decide_eq_false w] at this; cases this
      rcases List.mem_append.mp hmem with w | w
      · exact w
      · have := List.mem_singleton.mp w; omega
    · rintro G' ⟨o, m, e3, ho, ht, hol, hm, rfl⟩
      rw [List.take_of_length_le (Nat.le_refl _)] at ht
      exact st_ret <| ev_bl <| k1 ⟨o, by rw [ht]; rfl, ho, by omega⟩
  | _ => cases hb
/-! ### NoOrder.__init__ -/
abbrev s_NoOrder__init_ : Stmt := inClass (topS 7) 0
abbrev N_NoOrder__init_ : List Str := ["self"]
theorem sc_NoOrder__init_ : FnScope N_NoOrder__init_ ["self"] (defScope s_NoOrder__init_) := ⟨rfl, rfl, rfl, by decide +kernel, rfl, by decide +kernel, by decide +kernel⟩

theorem ok_NoOrder__init_ {f : Addr} {fd : FuncData} (F : Fun K "__init__" "NoOrder.__init__" s_NoOrder__init_ f fd) : FnOk P w K mg base CX0 1 f fd ["self"] spPass := by
  refine F.ok sc_NoOrder__init_ (fun vs H Q E h => ?_) (fun cdv A outer s H vs Q E hr h => ⟨_, (pss_one ps_pass), ?_⟩)
  · obtain ⟨a, rfl, _⟩ := h; rfl
  obtain ⟨a, rfl, q⟩ := h
  exact q
/-! ### reordered -/
abbrev s_reordered : Stmt := topS 17
abbrev N_reordered : List Str := ["book", "order", "place", "rows", "kind", "at", "parent"]
theorem sc_reordered : FnScope N_reordered ["book", "order"] (defScope s_reordered) := ⟨rfl, rfl, rfl, by decide +kernel, rfl, by decide +kernel, by decide +kernel⟩
--X
/-- the rows of a book in another order -/
def reRow (rows : List (List Nat)) (o : List Nat) (k : Nat) : List Nat := (List.range o.length).filter fun j => decide (o.getD j 0 ∈ rows.getD k [])
def reO (rows : List (List Nat)) (o : List Nat) : List (List Nat) := o.map (reRow rows o)
theorem reRow_mem {rows : List (List Nat)} {o : List Nat} {k j : Nat} {row : List Nat} (hr : rows[k]? = some row) : j ∈ reRow rows o k ↔ ∃ q, o[j]? = some q ∧ q ∈ row := by
  unfold reRow
  rw [List.mem_filter, List.mem_range, decide_eq_true_eq, List.getD_eq_getElem?_getD (l := rows), hr]
  constructor
  · rintro ⟨h1, h2⟩
    rw [getD_of (List.getElem?_eq_getElem h1)] at h2
    exact ⟨_, List.getElem?_eq_getElem h1, h2⟩
  · rintro ⟨q, h1, h2⟩
    refine ⟨(List.getElem?_eq_some_iff.mp h1).1, ?_⟩
    rw [getD_of h1]; exact h2
theorem ord_inj {rows : List (List Nat)} {o : List Nat} (h : OrdOk rows o) {i j : Nat} {x : Nat} (hi : o[i]? = some x) (hj : o[j]? = some x) : i = j := by
  obtain ⟨h1, e1⟩ := List.getElem?_eq_some_iff.mp hi
  obtain ⟨h2, e2⟩ := List.getElem?_eq_some_iff.mp hj
  exact (List.getElem_inj h.nd).mp (e1.trans e2.symm)
theorem reO_len (rows : List (List Nat)) (o : List Nat) : (reO rows o).length = o.length := List.length_map ..
theorem reO_get {rows : List (List Nat)} {o : List Nat} {j k : Nat} (h : o[j]? = some k) : (reO rows o)[j]? = some (reRow rows o k) := by
  unfold reO; rw [List.getElem?_map, h]; rfl
theorem ord_pos {rows : List (List Nat)} {o : List Nat} (h : OrdOk rows o) {j k : Nat} {row : List Nat} (hj : o[j]? = some k) (hr : rows[k]? = some row) {q : Nat} (hq : q ∈ row) : ∃ i, i < j ∧ o[i]? = some q := by
  have := h.be j k row hj hr q hq
  obtain ⟨i, hi, e⟩ := List.getElem_of_mem this
  rw [List.length_take] at hi
  rw [List.getElem_take] at e
  exact ⟨i, by omega, by rw [← e]; exact List.getElem?_eq_getElem _⟩
theorem reO_rowsOk {rows : List (List Nat)} {o : List Nat} (h : OrdOk rows o) : Bk.RowsOk (reO rows o) := fun j row hj p hp => by
  have hjl := (List.getElem?_eq_some_iff.mp hj).1
  rw [reO_len] at hjl
  have ho := List.getElem?_eq_getElem hjl
  rw [reO_get ho] at hj
  cases hj
  have hk := h.lt _ (List.getElem_mem hjl)
  have hr := List.getElem?_eq_getElem hk
  obtain ⟨q, h1, h2⟩ := (reRow_mem hr).mp hp
  obtain ⟨i, hi, e⟩ := ord_pos h ho hr h2
  have := ord_inj h h1 e
  omega
theorem reRow_up (rows : List (List Nat)) (o : List Nat) (k : Nat) : (reRow rows o k).Pairwise (· < ·) := List.Pairwise.filter _ List.pairwise_lt_range
theorem reRow_len {rows : List (List Nat)} {o : List Nat} (h : OrdOk rows o) {k : Nat} {row : List Nat} (hr : rows[k]? = some row) : (reRow rows o k).length ≤ row.length := by
  have nd : ((reRow rows o k).map fun j => o.getD j 0).Nodup := by
    unfold List.Nodup
    rw [List.pairwise_map]
    refine (reRow_up rows o k).imp_of_mem fun {a b} ha hb hab e => ?_
    obtain ⟨q, h1, _⟩ := (reRow_mem hr).mp ha
    obtain ⟨q2, h2, _⟩ := (reRow_mem hr).mp hb
    rw [getD_of h1, getD_of h2] at e
    subst e
    have := ord_inj h h1 h2
    omega
  have := nd.length_le_of_subset (l₂ := row) fun x hx => by
    obtain ⟨j, hj, rfl⟩ := List.mem_map.mp hx
    obtain ⟨q, h1, h2⟩ := (reRow_mem hr).mp hj
    rw [getD_of h1]; exact h2
  rwa [List.length_map] at this
theorem reO_ok {rows : List (List Nat)} {o : List Nat} (ok : BookOk rows) (h : OrdOk rows o) (hl : o.length = rows.length) : BookOk (reO rows o) := by
  refine ⟨fun r hr => ?_, reO_rowsOk h, fun r hr => ?_, by rw [reO_len, hl]; exact ok.many⟩
  · obtain ⟨k, _, rfl⟩ := List.mem_map.mp hr
    exact reRow_up _ _ _
  · obtain ⟨k, hk, rfl⟩ := List.mem_map.mp hr
    have hkl := h.lt k hk
    exact Nat.le_trans (reRow_len h (List.getElem?_eq_getElem hkl)) (ok.six _ (List.getElem_mem hkl))
/-- who is what goes along -/
theorem reO_isA {rows : List (List Nat)} {o : List Nat} (ok : Bk.RowsOk rows) (h : OrdOk rows o) : ∀ (j : Nat) {x i y : Nat}, o[j]? = some x → o[i]? = some y → Bk.isA (reO rows o) j i = Bk.isA rows x y := by
  intro j
  induction j using Nat.strongRecOn with
  | _ j ih =>
    intro x i y hj hi
    have hx := h.lt x (List.mem_of_getElem? hj)
    have hr := List.getElem?_eq_getElem hx
    rw [Bk.isA_eq (reO_rowsOk h) (reO_get hj), Bk.isA_eq ok hr, Bool.eq_iff_iff, Bool.or_eq_true, Bool.or_eq_true, decide_eq_true_eq, decide_eq_true_eq, List.any_eq_true, List.any_eq_true]
    constructor
    · rintro (rfl | ⟨p, hp, hpi⟩)
      · exact .inl (Option.some.inj (hj.symm.trans hi))
      · obtain ⟨q, h1, h2⟩ := (reRow_mem hr).mp hp
        obtain ⟨i2, hi2, e2⟩ := ord_pos h hj hr h2
        obtain rfl := ord_inj h h1 e2
        exact .inr ⟨q, h2, by rw [← ih p hi2 h1 hi]; exact hpi⟩
    · rintro (rfl | ⟨q, hq, hqy⟩)
      · exact .inl (ord_inj h hj hi)
      · obtain ⟨i2, hi2, e2⟩ := ord_pos h hj hr hq
        exact .inr ⟨i2, (reRow_mem hr).mpr ⟨q, e2, hq⟩, by rw [ih i2 hi2 e2 hi]; exact hqy⟩
/-- the places of parents, in their order -/
theorem place_row {rows : List (List Nat)} {o : List Nat} (ok : BookOk rows) (h : OrdOk rows o) {k : Nat} {row : List Nat} (hr : rows[k]? = some row) {ps : List Nat} (hp : ps.length = row.length) (hps : ∀ (i p q : Nat), ps[i]? = some p → row[i]? = some q → o[p]? = some q) {ns : List Int} (hn : ns.Perm (ps.map fun (p : Nat) => (p : Int))) (up : ns.Pairwise (· ≤ ·)) : ns = (reRow rows o k).map fun (p : Nat) => (p : Int) := by
  have ndr : row.Nodup := (ok.up _ (List.mem_of_getElem? hr)).imp fun h => Nat.ne_of_lt h
  have ndp : ps.Nodup := List.pairwise_iff_getElem.mpr fun i j hi hj hij e => by
    have hi' : i < row.length := by omega
    have hj' : j < row.length := by omega
    have h1 := hps i _ _ (List.getElem?_eq_getElem hi) (List.getElem?_eq_getElem hi')
    have h2 := hps j _ _ (List.getElem?_eq_getElem hj) (List.getElem?_eq_getElem hj')
    rw [e, h2] at h1
    exact (List.pairwise_iff_getElem.mp ndr i j hi' hj' hij) (Option.some.inj h1).symm
  have e1 : ns = (ns.map Int.toNat).map fun (p : Nat) => (p : Int) := by
    rw [List.map_map]
    refine ((List.map_congr_left fun x hx => ?_).trans (List.map_id' _)).symm
    obtain ⟨p, _, rfl⟩ := List.mem_map.mp (hn.mem_iff.mp hx)
    simp
  have pm : (ns.map Int.toNat).Perm ps := by
    have := hn.map Int.toNat
    rw [List.map_map] at this
    have e2 : ps.map (Int.toNat ∘ fun (p : Nat) => (p : Int)) = ps := (List.map_congr_left fun p _ => by simp).trans (List.map_id' ps)
    rwa [e2] at this
  have nd2 : (ns.map Int.toNat).Nodup := pm.nodup_iff.mpr ndp
  have up2 : (ns.map Int.toNat).Pairwise (· < ·) := by
    rw [e1, List.pairwise_map] at up
    exact (up.and nd2).imp fun {a b} hab => by have := hab.1; have := hab.2; omega
  rw [e1]
  congr 1
  refine Bm.rising_ext up2 (reRow_up _ _ _) fun j => ?_
  rw [pm.mem_iff, reRow_mem hr]
  constructor
  · intro hj
    obtain ⟨i, hi, e⟩ := List.getElem_of_mem hj
    have hi' : i < row.length := by omega
    exact ⟨row[i], hps i j _ (by rw [← e]; exact List.getElem?_eq_getElem hi) (List.getElem?_eq_getElem hi'), List.getElem_mem hi'⟩
  · rintro ⟨q, h1, h2⟩
    obtain ⟨i, hi, e⟩ := List.getElem_of_mem h2
    have hi' : i < ps.length := by omega
    have h3 := hps i _ q (List.getElem?_eq_getElem hi') (by rw [← e]; exact List.getElem?_eq_getElem hi)
    rw [ord_inj h h1 h3]
    exact List.getElem_mem hi'
def pre_reordered (K : PySem.W.Frag) (CBook : Addr) (CKindError : Addr) (CNoOrder : Addr) : Wd → List Ent → (D → Prop) → KX → Prop := fun _ es KK KE => ∃ (rows : List (List Nat)) (d : D), es = [.d (bookD CBook rows), .d d] ∧ BookOk rows ∧ AnyD K d ∧ (∀ o, d = nT o → OrdOk rows o → o.length = rows.length → KK (bookD CBook (reO rows o))) ∧ (¬ IsOrd rows d → KE CNoOrder [])
theorem len_reordered (K : PySem.W.Frag) (CBook : Addr) (CKindError : Addr) (CNoOrder : Addr) : ∀ W es KK KE, pre_reordered K CBook CKindError CNoOrder W es KK KE → es.length = 2 := by rintro W es K KE ⟨rows, o, rfl, _⟩; rfl
abbrev sp_reordered (K : PySem.W.Frag) (CBook : Addr) (CKindError : Addr) (CNoOrder : Addr) : Sp := FSpX (pre_reordered K CBook CKindError CNoOrder)
theorem ok_reordered {f : Addr} {fd : FuncData} (F : Fun K "reordered" "reordered" s_reordered f fd) (T : Txt K mg CBook CKindError CNoOrder) (h_is_order : Has P w K mg base 3 "is_order" ["book", "thing"] (sp_is_order K CBook CKindError CNoOrder)) (n_NoOrder : XNew P w K mg base 1 "NoOrder" CNoOrder) (h_made_book : Has P w K mg base 8 "made_book" ["parents"] (sp_made_book K CBook CKindError CNoOrder)) : FnOk P w K mg base (L2.CX P w) 9 f fd ["book", "order"] (sp_reordered K CBook CKindError CNoOrder) := by
  refine F.okX sc_reordered (fun vs H Q E h => fn_lenX (n := 2) (len_reordered K CBook CKindError CNoOrder) h) (fun cdv A outer s H vs Q E hr h => ⟨_, (pss_cons (ps_if (PT.nox (pt_not (pt_truth (pe_has h_is_order (hr.mono (by decide)) (pa_cons (pv 0) (pa_cons (pv 1) pa_nil))) (by intro _; rfl)))) (pss_one (ps_raise0 rfl (takes_of rfl rfl rfl rfl) n_NoOrder (hr.mono (by decide)) rfl)) pss_nil)
 (PSs.nox (pss_cons (ps_set (i := 2) sc_reordered.nd rfl (by first | exact Or.inl rfl | exact Or.inr rfl) (pe_dc (own := [("at", 5), ("kind", 4)]) rfl sc_reordered.nd (pi_enumT (by rfl) T.z_enumerate (pa_cons (pv 1) pa_nil)) (blkOk_by (own := [("at", 5), ("kind", 4)]) (N := N_reordered) (sc := defScope s_reordered) (by decide +kernel)) (fun _ _ _ _ _ => pg_conv (pg_tup (n := 2) rfl (pgs_cons (pg_name (i := 5) sc_reordered.nd rfl (by first | exact Or.inl rfl | exact Or.inr rfl)) (pgs_cons (pg_name (i := 4) sc_reordered.nd rfl (by first | exact Or.inl rfl | exact Or.inr rfl)) pgs_nil))) (by first | rfl | (dsimp only [Cx.blk]; first | done | rfl))) (fun _ _ _ _ _ => pts_nil) (fun _ _ _ _ _ => pe_conv (pv 4) (by first | rfl | (dsimp only [Cx.blk]; first | done | rfl))) (fun _ _ _ _ _ => pe_conv (pv 5) (by first | rfl | (dsimp only [Cx.blk]; first | done | rfl)))))
 (pss_cons (ps_set (i := 3) sc_reordered.nd rfl (by first | exact Or.inl rfl | exact Or.inr rfl) (pe_lst pa_nil))
 (pss_cons (ps_for PassesOwn.never rfl (pi_tup (pv 1)) (pg_name (i := 4) sc_reordered.nd rfl (by first | exact Or.inl rfl | exact Or.inr rfl)) (pss_one (ps_expr (pe_bm PySem.F.plainAttrs_list PySem.F.slot_list_append PySem.F.type_list_append mt_append (pv 3) (pa_cons (pe_callTy call_tup1 (by rfl) T.z_tuple (by decide +kernel) (pa_cons (pe_callB cr_sortedI (by rfl) T.z_sorted (by decide +kernel) (pa_cons (pe_lc (own := [("parent", 6)]) rfl sc_reordered.nd (pi_tup (pe_ix ix_seq (pe_fld (pv 0) rfl) (pv 4) (fun _ _ => rfl))) (blkOk_by (own := [("parent", 6)]) (N := N_reordered) (sc := defScope s_reordered) (by decide +kernel)) (fun _ _ _ _ _ => (pg_name (i := 6) sc_reordered.nd rfl (by first | exact Or.inl rfl | exact Or.inr rfl))) (fun _ _ _ _ _ => pts_nil) (fun _ _ _ _ _ => pe_conv (pe_dget (hu1 hr) (pv 2) (pv 6) (fun _ _ => rfl)) (by first | rfl | (dsimp only [Cx.blk]; first | done | rfl)))) pa_nil)) pa_nil)) pa_nil)))))
 (pss_one (ps_ret (pe_has h_made_book (hr.mono (by decide)) (pa_cons (pe_callTy call_tup1 (by rfl) T.z_tuple (by decide +kernel) (pa_cons (pv 3) pa_nil)) pa_nil))))))))), fn_startX (ps := ["book", "order"]) ?_ h⟩)
  rintro W es KK KE ⟨rows, d, rfl, ok, td, k1, k0⟩
  refine ⟨rfl, ?_⟩
  by_cases hd : IsOrd rows d
  · obtain ⟨o, rfl, ho, hl⟩ := hd
    have k := k1 o rfl ho hl
    show St W [.d (bookD CBook rows), .d (nT o), .no, .no, .no, .no, .no] _ _
    have hn := ok.many
    refine st_seq <| st_if <| evt_not <| evt_tru <| Ev.b <| ev_call <| eva_d <| ev_var (i := 0) rfl <| eva_d <| ev_var (i := 1) rfl <| eva_nil ⟨rfl, rows, nT o, rfl, ok, td, fun _ => ?_, fun z => absurd ⟨o, rfl, ho, hl⟩ z⟩
    refine ⟨rfl, (fun z => nomatch z), fun _ => st_next ?_⟩
    refine st_seq <| st_dcomp <| evi_enumT <| ev_var (i := 1) rfl ⟨intsD o, rfl, by rw [enum_len, intsD_len]; omega, fun i ns acc => ns = (o.take i).map (fun (x : Nat) => (x : Int)) ∧ acc = (List.range i).map fun (j : Nat) => D.int (j : Nat), ⟨rfl, rfl⟩, ?_, ?_⟩
    · rintro i d ns acc hd ⟨rfl, rfl⟩
      obtain ⟨u, hu, rfl, hi⟩ := enum_of hd
      obtain ⟨x, hx, rfl⟩ := intsD_of hu
      refine tgc_tup2 (by simp) (by simp) ?_
      show _ = _ ∧ EvT W [.d (bookD CBook rows), .d (nT o), .no, .no, .d (.int (x : Nat)), .d (.int (i : Nat)), .no] _ _
      refine ⟨rfl, evt_yes ⟨fun _ => ?_, (fun z => nomatch z)⟩⟩
      refine ev_var (i := 4) rfl <| ev_var (i := 5) rfl ⟨(x : Int), rfl, fun z => ?_, ?_, ?_⟩
      · obtain ⟨y, hy, e⟩ := List.mem_map.mp z
        have e : y = x := by omega
        subst e
        obtain ⟨j, hj, e⟩ := List.getElem_of_mem hy
        rw [List.length_take] at hj
        rw [List.getElem_take] at e
        have := ord_inj ho (by rw [← e]; exact List.getElem?_eq_getElem (by omega)) hx
        omega
      · rw [snoc_take hx, List.map_append]; rfl
      · rw [List.range_succ, List.map_append]; rfl
    rintro ns acc l ⟨rfl, rfl⟩
    rw [enum_len, intsD_len, List.take_of_length_le (Nat.le_refl _)]
    show St W [.d (bookD CBook rows), .d (nT o), .odk l (o.map fun (x : Nat) => (x : Int)) ((List.range o.length).map fun (j : Nat) => D.int (j : Nat)), .no, .no, .no, .no] _ _
    refine st_seq <| st_own <| evl_lst <| eva_nil ⟨[], rfl, Nat.zero_le _, fun l2 => ?_⟩
    show St W [.d (bookD CBook rows), .d (nT o), .odk l (o.map fun (x : Nat) => (x : Int)) ((List.range o.length).map fun (j : Nat) => D.int (j : Nat)), .own l2 (((reO rows o).take 0).map nT), .no, .no, .no] _ _
    refine st_seq <| st_for <| evi_tup <| ev_var (i := 1) rfl ⟨intsD o, rfl, fun j G => ∃ e4 : Ent, ownOf e4 = none ∧ G = [.d (bookD CBook rows), .d (nT o), .odk l (o.map fun (x : Nat) => (x : Int)) ((List.range o.length).map fun (j : Nat) => D.int (j : Nat)), .own l2 (((reO rows o).take j).map nT), e4, .no, .no], ⟨.no, rfl, rfl⟩, ?_, ?_⟩
    · rintro j d G' hd ⟨e4, -, rfl⟩
      obtain ⟨x, hx, rfl⟩ := intsD_of hd
      have hxn := ho.lt x (List.mem_of_getElem? hx)
      have hj := (List.getElem?_eq_some_iff.mp hx).1
      have hrow : rows[x]? = some rows[x] := List.getElem?_eq_getElem hxn
      have hr6 := ok.six rows[x] (List.getElem_mem hxn)
      generalize rows[x] = row at hrow hr6
      refine tg_name ?_
      show St W [.d (bookD CBook rows), .d (nT o), .odk l (o.map fun (x : Nat) => (x : Int)) ((List.range o.length).map fun (j : Nat) => D.int (j : Nat)), .own l2 (((reO rows o).take j).map nT), .d (.int (x : Nat)), .no, .no] _ _
      refine st_app (i := 3) (l := l2) (ds := ((reO rows o).take j).map nT) rfl (by rw [List.length_map, List.length_take]; omega) <| ev_cb <| eva_d <| EvL.ev <| evl_sortedI <| eva_d <| EvL.ev <| evl_lc <| evi_tup <| ev_op <| fld_parents T <| ev_var (i := 0) rfl ⟨rows, rfl, ev_var (i := 4) rfl <| opd_ix (show ixD (rowsD rows) ((x : Nat) : Int) = some (nT row) from atI_of (by rw [List.getElem?_map, hrow]; rfl)) ⟨intsD row, rfl, by rw [intsD_len]; omega, fun i acc => ∃ ps : List Nat, acc = intsD ps ∧ ps.length = i ∧ ∀ (i p q : Nat), ps[i]? = some p → row[i]? = some q → o[p]? = some q, ⟨[], rfl, rfl, (fun i p q h => by simp at h)⟩, ?_, ?_⟩⟩
      · rintro i d acc hd ⟨ps, rfl, hpl, hps⟩ _
        obtain ⟨q, hq, rfl⟩ := intsD_of hd
        obtain ⟨p, hpj, hp⟩ := ord_pos ho hx hrow (List.mem_of_getElem? hq)
        refine tgc_name (by simp) ?_
        show _ = _ ∧ EvT W [.d (bookD CBook rows), .d (nT o), .odk l (o.map fun (x : Nat) => (x : Int)) ((List.range o.length).map fun (j : Nat) => D.int (j : Nat)), .own l2 (((reO rows o).take j).map nT), .d (.int (x : Nat)), .no, .d (.int (q : Nat))] _ _
        refine ⟨rfl, evt_yes ⟨fun _ => ?_, (fun z => nomatch z)⟩⟩
        refine ev_dget (i := 2) (l := l) (ns := o.map fun (x : Nat) => (x : Int)) (ds := (List.range o.length).map fun (j : Nat) => D.int (j : Nat)) rfl ?_
        refine ev_var (i := 6) rfl ⟨(q : Int), p, .int (p : Nat), rfl, by rw [List.getElem?_map, hp]; rfl, fun m hm z => ?_, by rw [List.getElem?_map, List.getElem?_range (by omega)]; rfl, ?_⟩
        · rw [List.getElem?_map] at z
          obtain ⟨y, hy, e⟩ := Option.map_eq_some_iff.mp z
          have e : y = q := by omega
          subst e
          have := ord_inj ho hy hp
          omega
        · refine ⟨ps ++ [p], intsD_snoc _ _, by rw [List.length_append, hpl]; rfl, fun i' p' q' h1 h2 => ?_⟩
          by_cases z : i' < ps.length
          · rw [List.getElem?_append_left z] at h1
            exact hps i' p' q' h1 h2
          · have hl1 := (List.getElem?_eq_some_iff.mp h1).1
            rw [List.length_append] at hl1
            have hl1 : i' < ps.length + 1 := hl1
            have e : i' = ps.length := by omega
            subst e
            rw [List.getElem?_append_right (Nat.le_refl _), Nat.sub_self] at h1
            cases h1
            rw [hpl, hq] at h2
            cases h2
            exact hp
      · rintro acc ⟨ps, rfl, hpl, hps⟩
        rw [intsD_len] at hpl
        refine eva_nil ⟨_, ps.map fun (p : Nat) => (p : Int), rfl, by rw [intsD_ints1]; rfl, fun ns' pm up => ?_⟩
        rw [place_row ok ho hrow hpl hps pm up]
        refine eva_nil <| cd_tupL rfl ⟨.d (.int (x : Nat)), rfl, ?_⟩
        show [_, _, _, Ent.own l2 (_ ++ [_]), _, _, _] = _
        rw [snoc_take (reO_get hx), List.map_append, List.map_map]
        rfl
    · rintro G' ⟨e4, -, rfl⟩
      rw [intsD_len, List.take_of_length_le (by rw [reO_len]; exact Nat.le_refl _)]
      refine st_ret <| ev_call <| eva_d <| ev_cb <| eva_cons <| eve_own (i := 3) rfl <| eva_nil <| cd_tupL rfl <| eva_nil ⟨rfl, reO rows o, rfl, reO_rowsOk ho, by rw [reO_len]; omega, k⟩
  · show St W [.d (bookD CBook rows), .d d, .no, .no, .no, .no, .no] _ _
    exact st_seq <| st_if <| evt_not <| evt_tru <| Ev.b <| ev_call <| eva_d <| ev_var (i := 0) rfl <| eva_d <| ev_var (i := 1) rfl <| eva_nil ⟨rfl, rows, d, rfl, ok, td, (fun z => absurd z hd), fun _ => ⟨rfl, fun _ => st_raise0 (k0 hd), (fun z => nomatch z)⟩⟩
/-! ### beside -/
abbrev s_beside : Stmt := topS 19
abbrev N_beside : List Str := ["one_book", "other_book", "shift", "moved", "row", "parent"]
theorem sc_beside : FnScope N_beside ["one_book", "other_book"] (defScope s_beside) := ⟨rfl, rfl, rfl, by decide +kernel, rfl, by decide +kernel, by decide +kernel⟩
/-- rows moved on -/
def movedR (n : Nat) (rows : List (List Nat)) : List (List Nat) := rows.map fun r => r.map (· + n)
theorem moved_ok {r1 r2 : List (List Nat)} (h1 : Bk.RowsOk r1) (h2 : Bk.RowsOk r2) : Bk.RowsOk (r1 ++ movedR r1.length r2) := fun k row hk p hp => by
  by_cases z : k < r1.length
  · rw [List.getElem?_append_left z] at hk
    exact h1 k row hk p hp
  · rw [List.getElem?_append_right (by omega)] at hk
    unfold movedR at hk
    rw [List.getElem?_map] at hk
    obtain ⟨r, hr, rfl⟩ := Option.map_eq_some_iff.mp hk
    obtain ⟨q, hq, rfl⟩ := List.mem_map.mp hp
    have := h2 _ r hr q hq
    show q + r1.length < k
    omega
theorem nT_at {rows : List (List Nat)} {i : Nat} {d : D} (h : (rows.map nT)[i]? = some d) : ∃ r, rows[i]? = some r ∧ d = nT r := by
  rw [List.getElem?_map] at h
  obtain ⟨r, hr, e⟩ := Option.map_eq_some_iff.mp h
  exact ⟨r, hr, e.symm⟩
def pre_beside (K : PySem.W.Frag) (CBook : Addr) (CKindError : Addr) (CNoOrder : Addr) : Wd → List Ent → (D → Prop) → Prop := fun _ es KK => ∃ r1 r2 : List (List Nat), es = [.d (bookD CBook r1), .d (bookD CBook r2)] ∧ BookOk r1 ∧ BookOk r2 ∧ KK (bookD CBook (r1 ++ movedR r1.length r2))
theorem len_beside (K : PySem.W.Frag) (CBook : Addr) (CKindError : Addr) (CNoOrder : Addr) : ∀ W es KK, pre_beside K CBook CKindError CNoOrder W es KK → es.length = 2 := by rintro W es K ⟨rows, o, rfl, _⟩; rfl
abbrev sp_beside (K : PySem.W.Frag) (CBook : Addr) (CKindError : Addr) (CNoOrder : Addr) : Sp := FSp (pre_beside K CBook CKindError CNoOrder)
theorem ok_beside {f : Addr} {fd : FuncData} (F : Fun K "beside" "beside" s_beside f fd) (T : Txt K mg CBook CKindError CNoOrder) (h_made_book : Has P w K mg base 8 "made_book" ["parents"] (sp_made_book K CBook CKindError CNoOrder)) : FnOk P w K mg base CX0 9 f fd ["one_book", "other_book"] (sp_beside K CBook CKindError CNoOrder) := by
  refine F.ok sc_beside (fun vs H Q E h => fn_len (n := 2) (len_beside K CBook CKindError CNoOrder) h) (fun cdv A outer s H vs Q E hr h => ⟨_, (pss_cons (ps_set (i := 2) sc_beside.nd rfl (by first | exact Or.inl rfl | exact Or.inr rfl) (pe_callB call_len1 (by rfl) T.z_len (by decide +kernel) (pa_cons (pe_fld (pv 0) rfl) pa_nil)))
 (pss_cons (ps_setLc (i := 3) (own := [("row", 4)]) rfl sc_beside.nd rfl rfl (sw_true rfl rfl rfl (by decide +kernel)) (pi_tup (pe_fld (pv 1) rfl)) (blkOk_by (own := [("row", 4)]) (N := N_beside) (sc := defScope s_beside) (by decide +kernel)) (fun _ _ _ _ _ => (pg_name (i := 4) sc_beside.nd rfl (by first | exact Or.inl rfl | exact Or.inr rfl))) (fun _ _ _ _ _ => pts_nil) (fun _ _ _ _ _ => pe_conv (pe_callTy call_tup1 (by rfl) T.z_tuple (by decide +kernel) (pa_cons (pe_lc (own := [("parent", 5)]) rfl sc_beside.nd (pi_tup (pv 4)) (blkOk_by (own := [("parent", 5)]) (N := N_beside) (by kernel_rfl)) (fun _ _ _ _ _ => (pg_name (i := 5) sc_beside.nd rfl (by first | exact Or.inl rfl | exact Or.inr rfl))) (fun _ _ _ _ _ => pts_nil) (fun _ _ _ _ _ => pe_conv (pe_op op_plus (pv 5) (pv 2)) (by first | rfl | (dsimp only [Cx.blk]; first | done | rfl)))) pa_nil)) (by first | rfl | (dsimp only [Cx.blk]; first | done | rfl))))
 (pss_one (ps_ret (pe_has h_made_book (hr.mono (by decide)) (pa_cons (pe_op op_plus (pe_fld (pv 0) rfl) (pe_callTy call_tup1 (by rfl) T.z_tuple (by decide +kernel) (pa_cons (pv 3) pa_nil))) pa_nil)))))), fn_start (ps := ["one_book", "other_book"]) ?_ h⟩)
  rintro W es KK ⟨r1, r2, rfl, o1, o2, k⟩
  refine ⟨rfl, ?_⟩
  have n1 := o1.many
  have n2 := o2.many
  show St W [.d (bookD CBook r1), .d (bookD CBook r2), .no, .no, .no, .no] _ _
  refine st_seq <| st_asg <| ev_cb <| eva_d <| fld_parents T <| ev_var (i := 0) rfl ⟨r1, rfl, eva_nil <| cd_len (.inr rfl) ?_⟩
  rw [List.length_map]
  show St W [.d (bookD CBook r1), .d (bookD CBook r2), .d (.int (r1.length : Nat)), .no, .no, .no] _ _
  refine st_seq <| st_asg <| EvL.ev <| evl_lc <| evi_tup <| fld_parents T <| ev_var (i := 1) rfl ⟨r2, rfl, r2.map nT, rfl, by rw [List.length_map]; omega, fun i acc => acc = ((movedR r1.length r2).take i).map nT, rfl, ?_, ?_⟩
  · rintro i d acc hd rfl _
    obtain ⟨r, hr, rfl⟩ := nT_at hd
    have h6 := o2.six r (List.mem_of_getElem? hr)
    refine tgc_name (by simp) ?_
    show _ = _ ∧ EvT W [.d (bookD CBook r1), .d (bookD CBook r2), .d (.int (r1.length : Nat)), .no, .d (nT r), .no] _ _
    refine ⟨rfl, evt_yes ⟨fun _ => ?_, (fun z => nomatch z)⟩⟩
    refine ev_cb <| eva_d <| EvL.ev <| evl_lc <| evi_tup <| ev_var (i := 4) rfl ⟨intsD r, rfl, by rw [intsD_len]; omega, fun j acc => acc = intsD ((r.map (· + r1.length)).take j), rfl, ?_, ?_⟩
    · rintro j d acc hd rfl _
      obtain ⟨q, hq, rfl⟩ := intsD_of hd
      refine tgc_name (by simp) ?_
      show _ = _ ∧ EvT W [.d (bookD CBook r1), .d (bookD CBook r2), .d (.int (r1.length : Nat)), .no, .d (nT r), .d (.int (q : Nat))] _ _
      refine ⟨rfl, evt_yes ⟨fun _ => ?_, (fun z => nomatch z)⟩⟩
      refine ev_op <| ev_var (i := 5) rfl <| ev_var (i := 2) rfl <| opd_plusI ?_
      dsimp only
      rw [snoc_take (x := q + r1.length) (by rw [List.getElem?_map, hq]; rfl), ← intsD_snoc]
      rfl
    · rintro acc rfl
      rw [intsD_len, List.take_of_length_le (by rw [List.length_map]; exact Nat.le_refl _)]
      refine eva_nil <| cd_tupL rfl ?_
      have e : (movedR r1.length r2)[i]? = some (r.map (· + r1.length)) := by unfold movedR; rw [List.getElem?_map, hr]; rfl
      dsimp only
      rw [snoc_take e, List.map_append]
      rfl
  rintro acc rfl
  have hml : (movedR r1.length r2).length = r2.length := List.length_map ..
  rw [List.length_map, List.take_of_length_le (by omega)]
  refine st_ret <| ev_call <| eva_d <| ev_op <| fld_parents T <| ev_var (i := 0) rfl ⟨r1, rfl, ev_cb <| eva_d <| ev_var (i := 3) rfl <| eva_nil <| cd_tupL rfl <| opd_plusT (xs := r1.map nT) (ys := (movedR r1.length r2).map nT) (by rw [List.length_map, List.length_map, hml]; omega) <| eva_nil ⟨rfl, r1 ++ movedR r1.length r2, by rw [← List.map_append]; rfl, moved_ok o1.ok o2.ok, by rw [List.length_append, hml]; omega, k⟩⟩
/-! ### _law_tape -/
abbrev s_law_tape : Stmt := topS 21
abbrev N_law_tape : List Str := ["_law_script"]
theorem sc_law_tape : FnScope N_law_tape ["_law_script"] (defScope s_law_tape) := ⟨rfl, rfl, rfl, by decide +kernel, rfl, by decide +kernel, by decide +kernel⟩

abbrev sp_law_tape (K : PySem.W.Frag) (CBook : Addr) (CKindError : Addr) (CNoOrder : Addr) : Sp := fun vs H Q _ => ∃ (a : Addr) (ns : List Int), vs = [.ref a] ∧ SqL K H a (ns.map V.int) ∧ ∀ (H' : Hp) (t c : Addr), TapeIn t c H' → Q (.ref t) H'
theorem ok_law_tape {f : Addr} {fd : FuncData} (F : Fun K "_law_tape" "_law_tape" s_law_tape f fd) (T : Txt K mg CBook CKindError CNoOrder) : FnOk P w K mg base CX0 1 f fd ["_law_script"] (sp_law_tape K CBook CKindError CNoOrder) := by
  refine F.ok sc_law_tape (fun vs H Q E h => ?_) (fun cdv A outer s H vs Q E hr h => ⟨_, (pss_one (ps_ret (pe_lst (pa_cons (pe_callTy call_lst1 (by rfl) T.z_list (by decide +kernel) (pa_cons (pv 0) pa_nil)) (pa_cons pe_int (pa_cons pe_int (pa_cons pe_int (pa_cons pe_int pa_nil)))))))), ?_⟩)
  · obtain ⟨a, ns, rfl, _⟩ := h; rfl
  obtain ⟨a, ns, rfl, hS, k⟩ := h
  refine ⟨.ref a, rfl, ?_⟩
  refine ⟨a, ns.map V.int, rfl, .inl hS, fun l hl => ?_⟩
  refine ⟨small_le (by show 5 ≤ 100000; decide), fun p hp => ?_⟩
  refine k _ p l ⟨ns, 0, 0, 1, 0, upd_same, ?_⟩
  have : l ≠ p := fun z => by subst z; rw [upd_same] at hp; cases hp
  rw [upd_ne this, upd_same]

/-! ### _law_pick -/
abbrev s_law_pick : Stmt := topS 22
abbrev N_law_pick : List Str := ["_law_tape_here", "_law_many", "_law_digit", "_law_cell", "_law_mixed"]
theorem sc_law_pick : FnScope N_law_pick ["_law_tape_here", "_law_many"] (defScope s_law_pick) := ⟨rfl, rfl, rfl, by decide +kernel, rfl, by decide +kernel, by decide +kernel⟩
def pre_law_pick (K : PySem.W.Frag) (CBook : Addr) (CKindError : Addr) (CNoOrder : Addr) : Wd → List Ent → (D → Prop) → Prop := fun W es KK => ∃ (t c : Addr) (n : Nat), W = tapeW t c ∧ es = [.raw (.ref t), .d (.int (n : Nat))] ∧ 0 < n ∧ n.log2 < 9000 ∧ ∀ r : Nat, r < n → KK (.int (r : Nat))
theorem len_law_pick (K : PySem.W.Frag) (CBook : Addr) (CKindError : Addr) (CNoOrder : Addr) : ∀ W es KK, pre_law_pick K CBook CKindError CNoOrder W es KK → es.length = 2 := by rintro W es K ⟨t, c, n, _, rfl, _⟩; rfl
theorem pick_mod {KK : D → Prop} {n : Nat} (h : 0 < n) (k : ∀ r : Nat, r < n → KK (.int (r : Nat))) (z : Int) : KK (.int (z % (n : Nat))) := by
  have h1 : 0 ≤ z % (n : Int) := Int.emod_nonneg z (by omega)
  have h2 : z % (n : Int) < n := Int.emod_lt_of_pos z (by omega)
  obtain ⟨r, hr⟩ := Int.eq_ofNat_of_zero_le h1
  rw [hr]
  exact k r (by omega)
theorem pick_ok {K : PySem.W.Frag} {CBook : Addr} {CKindError : Addr} {CNoOrder : Addr} {t c : Addr} {i : Int} {KK : D → Prop} (n : Nat) (e : i = (n : Nat)) (h0 : 0 < n) (h1 : n < 1073741824) (k : ∀ r : Nat, r < n → KK (.int (r : Nat))) : pre_law_pick K CBook CKindError CNoOrder (tapeW t c) [.raw (.ref t), .d (.int i)] KK := by
  subst e; exact ⟨t, c, n, rfl, rfl, h0, log2_small (b := 30) (Nat.lt_of_lt_of_le h1 (by decide)) (by decide) (by decide), k⟩
theorem pick_okW {K : PySem.W.Frag} {CBook : Addr} {CKindError : Addr} {CNoOrder : Addr} {t c : Addr} {i : Int} {KK : D → Prop} (n : Nat) (e : i = (n : Nat)) (h0 : 0 < n) (h1 : n < 2 ^ 252) (k : ∀ r : Nat, r < n → KK (.int (r : Nat))) : pre_law_pick K CBook CKindError CNoOrder (tapeW t c) [.raw (.ref t), .d (.int i)] KK := by
  subst e; exact ⟨t, c, n, rfl, rfl, h0, log2_small (b := 252) h1 (by decide) (by decide), k⟩
abbrev sp_law_pick (K : PySem.W.Frag) (CBook : Addr) (CKindError : Addr) (CNoOrder : Addr) : Sp := FSp (pre_law_pick K CBook CKindError CNoOrder)
theorem ok_law_pick {f : Addr} {fd : FuncData} (F : Fun K "_law_pick" "_law_pick" s_law_pick f fd) (T : Txt K mg CBook CKindError CNoOrder) : FnOk P w K mg base CX0 1 f fd ["_law_tape_here", "_law_many"] (sp_law_pick K CBook CKindError CNoOrder) := by
  refine F.ok sc_law_pick (fun vs H Q E h => fn_len (n := 2) (len_law_pick K CBook CKindError CNoOrder) h) (fun cdv A outer s H vs Q E hr h => ⟨_, (pss_cons (ps_if (pt_cmpR op_gt (pe_ix ix_seq (pv 0) pe_int (fun _ _ => rfl)) pe_int (nomark _)) (pss_cons (ps_set (i := 2) sc_law_pick.nd rfl (by first | exact Or.inl rfl | exact Or.inr rfl) (pe_op op_mod (pe_callTy call_int1' (by rfl) T.z_int (by decide +kernel) (pa_cons (pe_ix ix_seq (pv 0) pe_int (fun _ _ => rfl)) pa_nil)) (pv 1)))
 (pss_cons (ps_asg (pe_op op_fdivW (pe_ix ix_seq (pv 0) pe_int (fun _ _ => rfl)) (pv 1)) (pg_sub (pv 0) pe_int set_list))
 (pss_one (ps_ret (pv 2))))) pss_nil)
 (pss_cons (ps_asg (pe_op op_plus (pe_ix ix_seq (pv 0) pe_int (fun _ _ => rfl)) pe_int) (pg_sub (pv 0) pe_int set_list))
 (pss_cons (ps_set (i := 3) sc_law_pick.nd rfl (by first | exact Or.inl rfl | exact Or.inr rfl) pe_int)
 (pss_cons (ps_if (pt_cmpR op_lt (pe_ix ix_seq (pv 0) pe_int (fun _ _ => rfl)) (pe_callB call_len1 (by rfl) T.z_len (by decide +kernel) (pa_cons (pe_ix ix_seq (pv 0) pe_int (fun _ _ => rfl)) pa_nil)) (nomark _)) (pss_cons (ps_set (i := 3) sc_law_pick.nd rfl (by first | exact Or.inl rfl | exact Or.inr rfl) (pe_ix ix_seq (pe_ix ix_seq (pv 0) pe_int (fun _ _ => rfl)) (pe_ix ix_seq (pv 0) pe_int (fun _ _ => rfl)) (fun _ _ => rfl)))
 (pss_one (ps_asg (pe_op op_plus (pe_ix ix_seq (pv 0) pe_int (fun _ _ => rfl)) pe_int) (pg_sub (pv 0) pe_int set_list)))) pss_nil)
 (pss_cons (ps_if (pt_cmpR op_ge (pv 3) (pe_op op_pow pe_int pe_int) (nomark _)) (pss_cons (ps_asg (pe_op op_fdivW (pv 3) (pv 1)) (pg_sub (pv 0) pe_int set_list))
 (pss_one (ps_ret (pe_op op_mod (pe_callTy call_int1' (by rfl) T.z_int (by decide +kernel) (pa_cons (pv 3) pa_nil)) (pv 1))))) pss_nil)
 (pss_cons (ps_set (i := 4) sc_law_pick.nd rfl (by first | exact Or.inl rfl | exact Or.inr rfl) (pe_op op_mod (pe_callTy call_int1' (by rfl) T.z_int (by decide +kernel) (pa_cons (pe_op op_plus (pe_op op_plus (pe_op op_times (pe_ix ix_seq (pv 0) pe_int (fun _ _ => rfl)) pe_int) (pe_op op_mod (pe_callTy call_int1' (by rfl) T.z_int (by decide +kernel) (pa_cons (pv 3) pa_nil)) pe_int)) (pe_op op_times (pe_ix ix_seq (pv 0) pe_int (fun _ _ => rfl)) pe_int)) pa_nil)) pe_int))
 (pss_cons (ps_set (i := 4) sc_law_pick.nd rfl (by first | exact Or.inl rfl | exact Or.inr rfl) (pe_op op_mod (pe_callTy call_int1' (by rfl) T.z_int (by decide +kernel) (pa_cons (pe_op op_times (pv 4) (pe_op op_plus (pe_op op_fdiv (pv 4) pe_int) pe_int)) pa_nil)) pe_int))
 (pss_cons (ps_asg (pv 4) (pg_sub (pv 0) pe_int set_list))
 (pss_one (ps_ret (pe_op op_mod (pe_callTy call_int1' (by rfl) T.z_int (by decide +kernel) (pa_cons (pe_op op_fdiv (pv 4) pe_int) pa_nil)) (pv 1)))))))))))), fn_start (ps := ["_law_tape_here", "_law_many"]) ?_ h⟩)
  rintro W es KK ⟨t, c, n, rfl, rfl, h0, h1, k⟩
  refine ⟨rfl, ?_⟩
  show St (tapeW t c) [.raw (.ref t), .d (.int (n : Nat)), .no, .no, .no] _ _
  have hw : ∀ z : Int, CDivW z (n : Nat) := fun z => ⟨by omega, by rw [Int.natAbs_natCast]; exact h1⟩
  repeat walk_at "pd"
  refine ⟨fun _ => ?_, fun _ => ?_⟩
  · repeat walk_at "pd"
    refine opd_divW (hw _) ?_
    repeat walk_at "pd"
    exact pick_mod h0 k _
  · repeat walk_at "pd"
    refine ⟨fun _ => ?_, fun _ => ?_⟩
    · repeat walk_at "pd"
      refine opd_divW (hw _) ?_
      repeat walk_at "pd"
      exact pick_mod h0 k _
    · repeat walk_at "pd"
      exact pick_mod h0 k _
/-! ### _law_is -/
abbrev s_law_is : Stmt := topS 23
abbrev N_law_is : List Str := ["_law_told", "_law_due", "_law_one", "_law_two"]
theorem sc_law_is : FnScope N_law_is ["_law_told", "_law_due"] (defScope s_law_is) := ⟨rfl, rfl, rfl, by decide +kernel, rfl, by decide +kernel, by decide +kernel⟩

mutual
/-- data without texts and objects, nested at most n deep -/
def easy : Nat → D → Bool
  | _, .non => true
  | _, .bl _ => true
  | _, .int _ => true
  | n + 1, .tup ds => decide (ds.length < 100000) && easys n ds
  | n + 1, .lst ds => decide (ds.length < 100000) && easys n ds
  | _, _ => false
def easys : Nat → List D → Bool
  | _, [] => true
  | n, d :: ds => easy n d && easys n ds
end
theorem easys_mem {n : Nat} : ∀ {ds : List D}, easys n ds = true → ∀ d ∈ ds, easy n d = true
  | d :: ds, h, x, hx => by
    rw [easys] at h
    obtain ⟨h1, h2⟩ := Bool.and_eq_true_iff.mp h
    rcases List.mem_cons.mp hx with rfl | z
    · exact h1
    · exact easys_mem h2 x z
def pre_law_is (n : Nat) (K : PySem.W.Frag) (CBook : Addr) (CKindError : Addr) (CNoOrder : Addr) : Wd → List Ent → (D → Prop) → Prop := fun _ es KK => ∃ d, es = [.d d, .d d] ∧ easy n d = true ∧ KK (.bl true)
theorem len_law_is (n : Nat) (K : PySem.W.Frag) (CBook : Addr) (CKindError : Addr) (CNoOrder : Addr) : ∀ W es KK, pre_law_is n K CBook CKindError CNoOrder W es KK → es.length = 2 := by rintro W es K ⟨d, rfl, _⟩; rfl
abbrev sp_law_is (K : PySem.W.Frag) (CBook : Addr) (CKindError : Addr) (CNoOrder : Addr) : Sp := FSp (pre_law_is 2 K CBook CKindError CNoOrder)
theorem eqD_bl (b : Bool) : eqD (.bl b) (.bl b) = true := beq_self_eq_true b
theorem eqD_int (b : Int) : eqD (.int b) (.int b) = true := beq_self_eq_true b
theorem easys_get {n : Nat} {ds : List D} (h : easys n ds = true) {i : Nat} {d : D} (hd : ds[i]? = some d) : easy n d = true := easys_mem h d (List.mem_of_getElem? hd)
theorem ok_law_is_0 {f : Addr} {fd : FuncData} (F : Fun K "_law_is" "_law_is" s_law_is f fd) (T : Txt K mg CBook CKindError CNoOrder) : FnOk P w K mg base CX0 1 f fd ["_law_told", "_law_due"] (FSp (pre_law_is 0 K CBook CKindError CNoOrder)) := by
  refine F.ok sc_law_is (fun vs H Q E h => fn_len (n := 2) (len_law_is 0 K CBook CKindError CNoOrder) h) (fun cdv A outer s H vs Q E hr h => ⟨_, (pss_cons (ps_if (pt_truth (pe_callB call_isiT (by rfl) T.z_isinstance (by decide +kernel) (pa_cons (pv 1) (pa_cons (pe_tup (pa_cons (pe_bltn (v := .ty "tuple") (by rfl) T.z_tuple (by decide +kernel) rfl) (pa_cons (pe_bltn (v := .ty "list") (by rfl) T.z_list (by decide +kernel) rfl) pa_nil))) pa_nil))) (by intro _; rfl)) (pss_cons (ps_if (PW.pt (pw_or (pt_cmpR (op_neD (hu65 hr)) (pe_callB call_isi (by rfl) T.z_isinstance (by decide +kernel) (pa_cons (pv 0) (pa_cons (pe_bltn (v := .ty "tuple") (by rfl) T.z_tuple (by decide +kernel) rfl) pa_nil))) (pe_callB call_isi (by rfl) T.z_isinstance (by decide +kernel) (pa_cons (pv 1) (pa_cons (pe_bltn (v := .ty "tuple") (by rfl) T.z_tuple (by decide +kernel) rfl) pa_nil))) (nomark _)) (pw_or1 (pt_not (pt_truth (pe_callB call_isiT (by rfl) T.z_isinstance (by decide +kernel) (pa_cons (pv 0) (pa_cons (pe_tup (pa_cons (pe_bltn (v := .ty "tuple") (by rfl) T.z_tuple (by decide +kernel) rfl) (pa_cons (pe_bltn (v := .ty "list") (by rfl) T.z_list (by decide +kernel) rfl) pa_nil))) pa_nil))) (by intro _; rfl)))))) (pss_one (ps_ret pe_bl)) pss_nil)
 (pss_one (ps_ret (pe_and (pe_cmpR (op_eqD (hu65 hr)) (pe_callB call_len1 (by rfl) T.z_len (by decide +kernel) (pa_cons (pv 0) pa_nil)) (pe_callB call_len1 (by rfl) T.z_len (by decide +kernel) (pa_cons (pv 1) pa_nil)) (nomark _)) (pe_one (pe_callB (cr_all rfl) (by rfl) T.z_all (by decide +kernel) (pa_cons (pe_lc (own := [("_law_one", 2), ("_law_two", 3)]) rfl sc_law_is.nd (pi_zipA (by rfl) T.z_zip (pa_cons (pv 0) (pa_cons (pv 1) pa_nil))) (blkOk_by (own := [("_law_one", 2), ("_law_two", 3)]) (N := N_law_is) (sc := defScope s_law_is) (by decide +kernel)) (fun _ _ _ _ _ => pg_conv (pg_tup (n := 2) rfl (pgs_cons (pg_name (i := 2) sc_law_is.nd rfl (by first | exact Or.inl rfl | exact Or.inr rfl)) (pgs_cons (pg_name (i := 3) sc_law_is.nd rfl (by first | exact Or.inl rfl | exact Or.inr rfl)) pgs_nil))) (by first | rfl | (dsimp only [Cx.blk]; first | done | rfl))) (fun _ _ _ _ _ => pts_nil) (fun _ _ _ _ _ => pe_conv pe_no (by first | rfl | (dsimp only [Cx.blk]; first | done | rfl)))) pa_nil))))))) pss_nil)
 (pss_one (ps_ret (pe_and (pe_cmpR (op_eqD (hu65 hr)) (pe_callB call_isi (by rfl) T.z_isinstance (by decide +kernel) (pa_cons (pv 0) (pa_cons (pe_bltn (v := .ty "bool") (by rfl) T.z_bool (by decide +kernel) rfl) pa_nil))) (pe_callB call_isi (by rfl) T.z_isinstance (by decide +kernel) (pa_cons (pv 1) (pa_cons (pe_bltn (v := .ty "bool") (by rfl) T.z_bool (by decide +kernel) rfl) pa_nil))) (nomark _)) (pe_one (pe_cmpR (op_eqD (hu65 hr)) (pv 0) (pv 1) (nomark _))))))), fn_start (ps := ["_law_told", "_law_due"]) ?_ h⟩)
  rintro W es KK ⟨d, rfl, he, k⟩
  refine ⟨rfl, ?_⟩
  show St W [.d d, .d d, .no, .no] _ _
  repeat walk_at "pd"
  refine ⟨(by cases d <;> first | trivial | cases he), ?_⟩
  repeat walk_at "pd"
  refine ⟨fun hb => ?_, fun hb => ?_⟩
  · exfalso; cases d <;> first | (cases he; done) | (cases hb; done)
  · have ty : TyOk K d := by cases d <;> first | trivial | cases he
    repeat walk_at "pd"
    refine opd_eq rfl rfl ?_
    refine ⟨_, rfl, fun _ => ?_, fun z => ?_⟩
    · repeat walk_at "pd"
      refine opd_eq (by cases d <;> first | rfl | cases he) (by cases d <;> first | rfl | cases he) ?_
      rw [show eqD d d = true from by cases d <;> first | rfl | exact beq_self_eq_true _ | cases he]
      exact k
    · exact absurd z (by rw [eqD_bl]; decide)
theorem ok_law_is_s {n lv : Nat} {f : Addr} {fd : FuncData} (F : Fun K "_law_is" "_law_is" s_law_is f fd) (T : Txt K mg CBook CKindError CNoOrder) (h_law_is : Has P w K mg base lv "_law_is" ["_law_told", "_law_due"] (FSp (pre_law_is n K CBook CKindError CNoOrder))) : FnOk P w K mg base CX0 (lv + 1) f fd ["_law_told", "_law_due"] (FSp (pre_law_is (n + 1) K CBook CKindError CNoOrder)) := by
  refine F.ok sc_law_is (fun vs H Q E h => fn_len (n := 2) (len_law_is (n + 1) K CBook CKindError CNoOrder) h) (fun cdv A outer s H vs Q E hr h => ⟨_, (pss_cons (ps_if (pt_truth (pe_callB call_isiT (by rfl) T.z_isinstance (by decide +kernel) (pa_cons (pv 1) (pa_cons (pe_tup (pa_cons (pe_bltn (v := .ty "tuple") (by rfl) T.z_tuple (by decide +kernel) rfl) (pa_cons (pe_bltn (v := .ty "list") (by rfl) T.z_list (by decide +kernel) rfl) pa_nil))) pa_nil))) (by intro _; rfl)) (pss_cons (ps_if (PW.pt (pw_or (pt_cmpR (op_neD (hu65 hr)) (pe_callB call_isi (by rfl) T.z_isinstance (by decide +kernel) (pa_cons (pv 0) (pa_cons (pe_bltn (v := .ty "tuple") (by rfl) T.z_tuple (by decide +kernel) rfl) pa_nil))) (pe_callB call_isi (by rfl) T.z_isinstance (by decide +kernel) (pa_cons (pv 1) (pa_cons (pe_bltn (v := .ty "tuple") (by rfl) T.z_tuple (by decide +kernel) rfl) pa_nil))) (nomark _)) (pw_or1 (pt_not (pt_truth (pe_callB call_isiT (by rfl) T.z_isinstance (by decide +kernel) (pa_cons (pv 0) (pa_cons (pe_tup (pa_cons (pe_bltn (v := .ty "tuple") (by rfl) T.z_tuple (by decide +kernel) rfl) (pa_cons (pe_bltn (v := .ty "list") (by rfl) T.z_list (by decide +kernel) rfl) pa_nil))) pa_nil))) (by intro _; rfl)))))) (pss_one (ps_ret pe_bl)) pss_nil)
 (pss_one (ps_ret (pe_and (pe_cmpR (op_eqD (hu65 hr)) (pe_callB call_len1 (by rfl) T.z_len (by decide +kernel) (pa_cons (pv 0) pa_nil)) (pe_callB call_len1 (by rfl) T.z_len (by decide +kernel) (pa_cons (pv 1) pa_nil)) (nomark _)) (pe_one (pe_callB (cr_all rfl) (by rfl) T.z_all (by decide +kernel) (pa_cons (pe_lc (own := [("_law_one", 2), ("_law_two", 3)]) rfl sc_law_is.nd (pi_zipA (by rfl) T.z_zip (pa_cons (pv 0) (pa_cons (pv 1) pa_nil))) (blkOk_by (own := [("_law_one", 2), ("_law_two", 3)]) (N := N_law_is) (sc := defScope s_law_is) (by decide +kernel)) (fun _ _ _ _ _ => pg_conv (pg_tup (n := 2) rfl (pgs_cons (pg_name (i := 2) sc_law_is.nd rfl (by first | exact Or.inl rfl | exact Or.inr rfl)) (pgs_cons (pg_name (i := 3) sc_law_is.nd rfl (by first | exact Or.inl rfl | exact Or.inr rfl)) pgs_nil))) (by first | rfl | (dsimp only [Cx.blk]; first | done | rfl))) (fun _ _ _ _ _ => pts_nil) (fun _ _ _ _ _ => pe_conv (pe_has h_law_is (hr.mono (Nat.le_refl _)) (pa_cons (pv 2) (pa_cons (pv 3) pa_nil))) (by first | rfl | (dsimp only [Cx.blk]; first | done | rfl)))) pa_nil))))))) pss_nil)
 (pss_one (ps_ret (pe_and (pe_cmpR (op_eqD (hu65 hr)) (pe_callB call_isi (by rfl) T.z_isinstance (by decide +kernel) (pa_cons (pv 0) (pa_cons (pe_bltn (v := .ty "bool") (by rfl) T.z_bool (by decide +kernel) rfl) pa_nil))) (pe_callB call_isi (by rfl) T.z_isinstance (by decide +kernel) (pa_cons (pv 1) (pa_cons (pe_bltn (v := .ty "bool") (by rfl) T.z_bool (by decide +kernel) rfl) pa_nil))) (nomark _)) (pe_one (pe_cmpR (op_eqD (hu65 hr)) (pv 0) (pv 1) (nomark _))))))), fn_start (ps := ["_law_told", "_law_due"]) ?_ h⟩)
  rintro W es KK ⟨d, rfl, he, k⟩
  refine ⟨rfl, ?_⟩
  show St W [.d d, .d d, .no, .no] _ _
  have ty : TyOk K d := by cases d <;> first | trivial | cases he
  repeat walk_at "pd"
  refine ⟨ty, ?_⟩
  repeat walk_at "pd"
  refine ⟨fun hb => ?_, fun hb => ?_⟩
  · repeat walk_at "pd"
    refine opd_ne rfl rfl ?_
    rw [eqD_bl]
    repeat walk_at "pd"
    refine ⟨ty, ?_⟩
    repeat walk_at "pd"
    refine ⟨fun z => absurd z (by rw [hb]; decide), fun _ => ?_⟩
    cases d with
    | tup ds =>
      have hes : (decide (ds.length < 100000) && easys n ds) = true := he
      obtain ⟨hl, hes⟩ := Bool.and_eq_true_iff.mp hes
      have hl := of_decide_eq_true hl
      repeat walk_at "pd"
      refine opd_eq rfl rfl ?_
      rw [eqD_int]
      repeat walk_at "pd"
      refine EvL.ev (evl_lc (evi_zipT (ev_var (i := 0) rfl (ev_var (i := 1) rfl ⟨ds, ds, rfl, rfl, by rw [pairsOf_len]; omega, fun i acc => acc = (List.replicate i true).map D.bl, rfl, ?_, ?_⟩))))
      · rintro i d acc hd rfl _
        obtain ⟨x, y, hx, hy, rfl⟩ := pairsOf_of hd
        rw [hx] at hy
        cases hy
        refine tgc_tup2 (by simp) (by simp) ?_
        show _ = _ ∧ EvT W [.d (.tup ds), .d (.tup ds), .d x, .d x] _ _
        refine ⟨rfl, ?_⟩
        repeat walk_at "pd"
        refine ⟨easys_get hes hx, ?_⟩
        rw [List.replicate_succ', List.map_append]; rfl
      · rintro acc rfl
        repeat walk_at "pd"
        refine cd_all (bs := List.replicate _ true) rfl ?_
        rw [show (List.replicate (pairsOf ds ds).length true).all id = true from by simp]
        exact k
    | lst ds =>
      have hes : (decide (ds.length < 100000) && easys n ds) = true := he
      obtain ⟨hl, hes⟩ := Bool.and_eq_true_iff.mp hes
      have hl := of_decide_eq_true hl
      repeat walk_at "pd"
      refine cd_len (.inl rfl) ?_
      repeat walk_at "pd"
      refine cd_len (.inl rfl) ?_
      refine opd_eq rfl rfl ?_
      rw [eqD_int]
      repeat walk_at "pd"
      refine EvL.ev (evl_lc (evi_zipL (ev_var (i := 0) rfl (ev_var (i := 1) rfl ⟨ds, ds, rfl, rfl, by rw [pairsOf_len]; omega, fun i acc => acc = (List.replicate i true).map D.bl, rfl, ?_, ?_⟩))))
      · rintro i d acc hd rfl _
        obtain ⟨x, y, hx, hy, rfl⟩ := pairsOf_of hd
        rw [hx] at hy
        cases hy
        refine tgc_tup2 (by simp) (by simp) ?_
        show _ = _ ∧ EvT W [.d (.lst ds), .d (.lst ds), .d x, .d x] _ _
        refine ⟨rfl, ?_⟩
        repeat walk_at "pd"
        refine ⟨easys_get hes hx, ?_⟩
        rw [List.replicate_succ', List.map_append]; rfl
      · rintro acc rfl
        repeat walk_at "pd"
        refine cd_all (bs := List.replicate _ true) rfl ?_
        rw [show (List.replicate (pairsOf ds ds).length true).all id = true from by simp]
        exact k
    | _ => cases hb
  · repeat walk_at "pd"
    refine opd_eq rfl rfl ?_
    refine ⟨_, rfl, fun _ => ?_, fun z => ?_⟩
    · repeat walk_at "pd"
      refine opd_eq (by cases d <;> first | rfl | cases he | cases hb) (by cases d <;> first | rfl | cases he | cases hb) ?_
      rw [show eqD d d = true from by cases d <;> first | rfl | exact beq_self_eq_true _ | cases he | cases hb]
      exact k
    · exact absurd z (by rw [eqD_bl]; decide)

/-! ### _law_parents -/
abbrev s_law_parents : Stmt := topS 24
abbrev N_law_parents : List Str := ["_law_tape_here", "_law_number", "_law_kind", "_law_most", "_law_low", "_law_found", "_law_again"]
theorem sc_law_parents : FnScope N_law_parents ["_law_tape_here", "_law_number", "_law_kind"] (defScope s_law_parents) := ⟨rfl, rfl, rfl, by decide +kernel, rfl, by decide +kernel, by decide +kernel⟩
def pre_law_parents (K : PySem.W.Frag) (CBook : Addr) (CKindError : Addr) (CNoOrder : Addr) : Wd → List Ent → (D → Prop) → Prop := fun W es KK => ∃ (t c : Addr) (n k : Nat), W = tapeW t c ∧ es = [.raw (.ref t), .d (.int (n : Nat)), .d (.int (k : Nat))] ∧ k < 5 ∧ n < 1000000 ∧ ∀ row : List Nat, row.Pairwise (· < ·) → (∀ p ∈ row, p < n) → row.length ≤ 6 → KK (nT row)
theorem len_law_parents (K : PySem.W.Frag) (CBook : Addr) (CKindError : Addr) (CNoOrder : Addr) : ∀ W es KK, pre_law_parents K CBook CKindError CNoOrder W es KK → es.length = 3 := by rintro W es K ⟨t, c, n, k, _, rfl, _⟩; rfl
theorem most_at {k : Nat} (h : k < 5) : ∃ m : Nat, ixD (.lst [.int 1, .int 2, .int 2, .int 6, .int 3]) ((k : Nat) : Int) = some (.int (m : Nat)) ∧ m ≤ 6 := by
  match k, h with
  | 0, _ => exact ⟨1, rfl, by decide⟩
  | 1, _ => exact ⟨2, rfl, by decide⟩
  | 2, _ => exact ⟨2, rfl, by decide⟩
  | 3, _ => exact ⟨6, rfl, by decide⟩
  | 4, _ => exact ⟨3, rfl, by decide⟩
theorem low_at {k n : Nat} (h : k < 5) : ∃ m : Int, ixD (.lst [.int (n : Nat), .int (n : Nat), .int 4, .int (n : Nat), .int (n : Nat)]) ((k : Nat) : Int) = some (.int m) ∧ 0 ≤ m := by
  match k, h with
  | 0, _ => exact ⟨n, rfl, by omega⟩
  | 1, _ => exact ⟨n, rfl, by omega⟩
  | 2, _ => exact ⟨4, rfl, by decide⟩
  | 3, _ => exact ⟨n, rfl, by omega⟩
  | 4, _ => exact ⟨n, rfl, by omega⟩
theorem intsD_ints (l : List Nat) : intsD l = (l.map fun (k : Nat) => (k : Int)).map D.int := by
  unfold intsD; rw [List.map_map]; rfl
/-- rising ints that are members of a list of numbers are numbers -/
theorem nats_of {ms : List Int} {found : List Nat} (pw : ms.Pairwise (· < ·)) (h : ∀ k, k ∈ ms ↔ k ∈ found.map fun (k : Nat) => (k : Int)) : ∃ row : List Nat, ms = row.map (fun (k : Nat) => (k : Int)) ∧ row.Pairwise (· < ·) ∧ ∀ p, p ∈ row ↔ p ∈ found := by
  refine ⟨ms.map Int.toNat, ?_, ?_, fun p => ?_⟩
  · rw [List.map_map]
    have e : ms.map ((fun (k : Nat) => (k : Int)) ∘ Int.toNat) = ms.map id := List.map_congr_left fun x hx => by
      obtain ⟨a, _, e⟩ := List.mem_map.mp ((h x).mp hx)
      show ((x.toNat : Nat) : Int) = x
      omega
    rw [e, List.map_id]
  · rw [List.pairwise_map]
    refine pw.imp_of_mem fun {a b} ha hb hab => ?_
    obtain ⟨a', _, ea⟩ := List.mem_map.mp ((h a).mp ha)
    omega
  · constructor
    · intro hp
      obtain ⟨x, hx, e⟩ := List.mem_map.mp hp
      obtain ⟨a, ha, ea⟩ := List.mem_map.mp ((h x).mp hx)
      have : p = a := by omega
      rw [this]; exact ha
    · intro hp
      refine List.mem_map.mpr ⟨(p : Int), (h p).mpr (List.mem_map.mpr ⟨p, hp, rfl⟩), by omega⟩
theorem rising_sub_length : ∀ {row found : List Nat}, row.Pairwise (· < ·) → (∀ p, p ∈ row → p ∈ found) → row.length ≤ found.length
  | [], _, _, _ => Nat.zero_le _
  | x :: r, found, pw, h => by
    obtain ⟨h1, h2⟩ := List.pairwise_cons.mp pw
    have hx : x ∈ found := h x (List.mem_cons_self ..)
    have ih := rising_sub_length (found := found.erase x) h2 fun p hp => (List.mem_erase_of_ne (Nat.ne_of_gt (h1 p hp))).mpr (h p (List.mem_cons_of_mem _ hp))
    rw [List.length_erase_of_mem hx] at ih
    have := List.length_pos_of_mem hx
    rw [List.length_cons]; omega
abbrev sp_law_parents (K : PySem.W.Frag) (CBook : Addr) (CKindError : Addr) (CNoOrder : Addr) : Sp := FSp (pre_law_parents K CBook CKindError CNoOrder)
theorem ok_law_parents {f : Addr} {fd : FuncData} (F : Fun K "_law_parents" "_law_parents" s_law_parents f fd) (T : Txt K mg CBook CKindError CNoOrder) (h_law_pick : Has P w K mg base 1 "_law_pick" ["_law_tape_here", "_law_many"] (sp_law_pick K CBook CKindError CNoOrder)) : FnOk P w K mg base CX0 2 f fd ["_law_tape_here", "_law_number", "_law_kind"] (sp_law_parents K CBook CKindError CNoOrder) := by
  refine F.ok sc_law_parents (fun vs H Q E h => fn_len (n := 3) (len_law_parents K CBook CKindError CNoOrder) h) (fun cdv A outer s H vs Q E hr h => ⟨_, (pss_cons (ps_set (i := 3) sc_law_parents.nd rfl (by first | exact Or.inl rfl | exact Or.inr rfl) (pe_ix ix_seq (pe_lst (pa_cons pe_int (pa_cons pe_int (pa_cons pe_int (pa_cons pe_int (pa_cons pe_int pa_nil)))))) (pv 2) (fun _ _ => rfl)))
 (pss_cons (ps_set (i := 4) sc_law_parents.nd rfl (by first | exact Or.inl rfl | exact Or.inr rfl) (pe_callB (call_max2' rfl) (by rfl) T.z_max (by decide +kernel) (pa_cons pe_int (pa_cons (pe_op op_sub (pv 1) (pe_ix ix_seq (pe_lst (pa_cons (pv 1) (pa_cons (pv 1) (pa_cons pe_int (pa_cons (pv 1) (pa_cons (pv 1) pa_nil)))))) (pv 2) (fun _ _ => rfl))) pa_nil))))
 (pss_cons (ps_set (i := 5) sc_law_parents.nd rfl (by first | exact Or.inl rfl | exact Or.inr rfl) (pe_lst pa_nil))
 (pss_cons (ps_for PassesOwn.never rfl (pi_range1 (by rfl) T.z_range (pa_cons (pe_has h_law_pick (hr.mono (by decide)) (pa_cons (pv 0) (pa_cons (pe_op op_plus (pv 3) pe_int) pa_nil))) pa_nil)) (pg_name (i := 6) sc_law_parents.nd rfl (by first | exact Or.inl rfl | exact Or.inr rfl)) (pss_one (ps_if (pt_cmpR op_gt (pv 1) (pv 4) (nomark _)) (pss_one (ps_expr (pe_bm PySem.F.plainAttrs_list PySem.F.slot_list_append PySem.F.type_list_append mt_append (pv 5) (pa_cons (pe_op op_plus (pv 4) (pe_has h_law_pick (hr.mono (by decide)) (pa_cons (pv 0) (pa_cons (pe_op op_sub (pv 1) (pv 4)) pa_nil)))) pa_nil)))) pss_nil)))
 (pss_one (ps_ret (pe_callTy call_tup1 (by rfl) T.z_tuple (by decide +kernel) (pa_cons (pe_sortedSetL rfl (by rfl) T.z_sorted (by rfl) T.z_set (pv 5)) pa_nil)))))))), fn_start (ps := ["_law_tape_here", "_law_number", "_law_kind"]) ?_ h⟩)
  rintro W es KK ⟨t, c, n, k, rfl, rfl, hk, hn, kk⟩
  refine ⟨rfl, ?_⟩
  show St (tapeW t c) [.raw (.ref t), .d (.int (n : Nat)), .d (.int (k : Nat)), .no, .no, .no, .no] _ _
  obtain ⟨m, hm, hm6⟩ := most_at hk
  obtain ⟨z, hz, hz0⟩ := low_at (n := n) hk
  repeat walk_at "pd"
  refine opd_ix hm ?_
  repeat walk_at "pd"
  refine opd_ix hz ?_
  repeat walk_at "pd"
  rename_i l
  obtain ⟨low, hlow, elow⟩ : ∃ low : Nat, low ≤ n ∧ (if ((n : Int) - z) > 0 then ((n : Int) - z) else 0) = (low : Nat) := by
    by_cases q : ((n : Int) - z) > 0
    · rw [if_pos q]; exact ⟨((n : Int) - z).toNat, by omega, by omega⟩
    · rw [if_neg q]; exact ⟨0, by omega, rfl⟩
  rw [elow]
  refine st_for (evi_rng1 (ev_call (eva_cons (eve_raw (i := 0) rfl (eva_d (ev_op (ev_var (i := 3) rfl (ev_int (opd_plusI (eva_nil ⟨rfl, pick_ok (m + 1) (by omega) (by omega) (by omega) fun r hr => ⟨r, rfl, by omega, by omega, fun i G => ∃ (found : List Nat) (e : Ent), ownOf e = none ∧ G = [.raw (.ref t), .d (.int (n : Nat)), .d (.int (k : Nat)), .d (.int (m : Nat)), .d (.int (low : Nat)), .own l (intsD found), e] ∧ (∀ p ∈ found, p < n) ∧ found.length ≤ i, ⟨[], .no, rfl, rfl, (fun p hp => nomatch hp), Nat.le_refl _⟩, ?_, ?_⟩⟩))))))))))
  · rintro i d G' hd ⟨found, e, he, rfl, hf, hlen⟩
    obtain ⟨hi, rfl⟩ := intsUp_of hd
    refine tg_name ?_
    show St (tapeW t c) [.raw (.ref t), .d (.int (n : Nat)), .d (.int (k : Nat)), .d (.int (m : Nat)), .d (.int (low : Nat)), .own l (intsD found), .d (.int (0 + (i : Nat)))] _ _
    repeat walk_at "pd"
    refine ⟨fun hb => ?_, fun hb => ?_⟩
    · have hlt : low < n := by have := of_decide_eq_true hb; omega
      refine st_app (l := l) (ds := intsD found) rfl (by rw [intsD_len]; omega) ?_
      repeat walk_at "pd"
      refine pick_ok (n - low) (by omega) (by omega) (by omega) fun q hq => ?_
      refine opd_plusI ?_
      refine ⟨found ++ [low + q], .d (.int (0 + (i : Nat))), rfl, ?_, fun p hp => ?_, by rw [List.length_append]; show found.length + 1 ≤ _; omega⟩
      · rw [← intsD_snoc, show ((low : Int) + (q : Int)) = ((low + q : Nat) : Int) by omega]; rfl
      · rcases List.mem_append.mp hp with z | z
        · exact hf p z
        · rw [List.mem_singleton.mp z]; omega
    · repeat walk_at "pd"
      exact ⟨found, _, rfl, rfl, hf, by omega⟩
  · rintro G' ⟨found, e, he, rfl, hf, hlen⟩
    rw [intsUp_len] at hlen
    have hl6 : found.length ≤ 6 := by omega
    refine st_ret (ev_cb (eva_d (EvL.ev (evl_sortedSet (evb_own (i := 5) rfl ⟨found.map fun (k : Nat) => (k : Int), by rw [← intsD_ints], by rw [List.length_map]; omega, fun ms pw hm => ?_⟩)))))
    obtain ⟨row, rfl, hp, hmem⟩ := nats_of pw hm
    refine eva_nil (cd_tupL rfl ?_)
    rw [← intsD_ints]
    exact kk row hp (fun p hp' => hf p ((hmem p).mp hp')) (Nat.le_trans (rising_sub_length hp fun p hp' => (hmem p).mp hp') hl6)
/-! ### _law_rows -/
abbrev s_law_rows : Stmt := topS 25
abbrev N_law_rows : List Str := ["_law_tape_here", "_law_many", "_law_kind", "_law_number"]
theorem sc_law_rows : FnScope N_law_rows ["_law_tape_here", "_law_many"] (defScope s_law_rows) := ⟨rfl, rfl, rfl, by decide +kernel, rfl, by decide +kernel, by decide +kernel⟩
def pre_law_rows (K : PySem.W.Frag) (CBook : Addr) (CKindError : Addr) (CNoOrder : Addr) : Wd → List Ent → (D → Prop) → Prop := fun W es KK => ∃ (t c : Addr) (n : Nat), W = tapeW t c ∧ es = [.raw (.ref t), .d (.int (n : Nat))] ∧ n ≤ 400 ∧ ∀ rows : List (List Nat), BookOk rows → rows.length = n → KK (rowsD rows)
theorem len_law_rows (K : PySem.W.Frag) (CBook : Addr) (CKindError : Addr) (CNoOrder : Addr) : ∀ W es KK, pre_law_rows K CBook CKindError CNoOrder W es KK → es.length = 2 := by rintro W es K ⟨t, c, n, _, rfl, _⟩; rfl
theorem parents_ok {K : PySem.W.Frag} {CBook : Addr} {CKindError : Addr} {CNoOrder : Addr} {t c : Addr} {KK : D → Prop} {i j : Int} (n k : Nat) (ei : i = (n : Nat)) (ej : j = (k : Nat)) (hk : k < 5) (hn : n < 1000000) (h : ∀ row : List Nat, row.Pairwise (· < ·) → (∀ p ∈ row, p < n) → row.length ≤ 6 → KK (nT row)) : pre_law_parents K CBook CKindError CNoOrder (tapeW t c) [.raw (.ref t), .d (.int i), .d (.int j)] KK := by
  subst ei; subst ej; exact ⟨t, c, n, k, rfl, rfl, hk, hn, h⟩
abbrev sp_law_rows (K : PySem.W.Frag) (CBook : Addr) (CKindError : Addr) (CNoOrder : Addr) : Sp := FSp (pre_law_rows K CBook CKindError CNoOrder)
theorem ok_law_rows {f : Addr} {fd : FuncData} (F : Fun K "_law_rows" "_law_rows" s_law_rows f fd) (T : Txt K mg CBook CKindError CNoOrder) (h_law_pick : Has P w K mg base 1 "_law_pick" ["_law_tape_here", "_law_many"] (sp_law_pick K CBook CKindError CNoOrder)) (h_law_parents : Has P w K mg base 2 "_law_parents" ["_law_tape_here", "_law_number", "_law_kind"] (sp_law_parents K CBook CKindError CNoOrder)) : FnOk P w K mg base CX0 3 f fd ["_law_tape_here", "_law_many"] (sp_law_rows K CBook CKindError CNoOrder) := by
  refine F.ok sc_law_rows (fun vs H Q E h => fn_len (n := 2) (len_law_rows K CBook CKindError CNoOrder) h) (fun cdv A outer s H vs Q E hr h => ⟨_, (pss_cons (ps_set (i := 2) sc_law_rows.nd rfl (by first | exact Or.inl rfl | exact Or.inr rfl) (pe_has h_law_pick (hr.mono (by decide)) (pa_cons (pv 0) (pa_cons pe_int pa_nil))))
 (pss_one (ps_ret (pe_callTy call_tup1 (by rfl) T.z_tuple (by decide +kernel) (pa_cons (pe_lc (own := [("_law_number", 3)]) rfl sc_law_rows.nd (pi_range1 (by rfl) T.z_range (pa_cons (pv 1) pa_nil)) (blkOk_by (own := [("_law_number", 3)]) (N := N_law_rows) (sc := defScope s_law_rows) (by decide +kernel)) (fun _ _ _ _ _ => (pg_name (i := 3) sc_law_rows.nd rfl (by first | exact Or.inl rfl | exact Or.inr rfl))) (fun _ _ _ _ _ => pts_nil) (fun _ _ _ _ _ => pe_conv (pe_has h_law_parents (hr.mono (by decide)) (pa_cons (pv 0) (pa_cons (pv 3) (pa_cons (pv 2) pa_nil)))) (by first | rfl | (dsimp only [Cx.blk]; first | done | rfl)))) pa_nil))))), fn_start (ps := ["_law_tape_here", "_law_many"]) ?_ h⟩)
  rintro W es KK ⟨t, c, n, rfl, rfl, hn, k⟩
  refine ⟨rfl, ?_⟩
  show St (tapeW t c) [.raw (.ref t), .d (.int (n : Nat)), .no, .no] _ _
  repeat walk_at "pd"
  refine pick_ok 5 rfl (by decide) (by decide) fun r hr => ?_
  repeat walk_at "pd"
  refine EvL.ev (evl_lc (evi_rng1 (ev_var (i := 1) rfl ⟨n, rfl, by omega, by omega, by rw [intsUp_len]; omega, fun i acc => ∃ rows : List (List Nat), acc = rows.map nT ∧ BookOk rows ∧ rows.length = i, ⟨[], rfl, BookOk.nil, rfl⟩, ?_, ?_⟩)))
  · rintro i d acc hd ⟨rows, rfl, ok, hl⟩ _
    obtain ⟨hi, rfl⟩ := intsUp_of hd
    refine tgc_name (by simp) ?_
    show _ = _ ∧ EvT (tapeW t c) [.raw (.ref t), .d (.int (n : Nat)), .d (.int (r : Nat)), .d (.int (0 + (i : Nat)))] _ _
    refine ⟨rfl, ?_⟩
    repeat walk_at "pd"
    refine parents_ok i r (by omega) rfl hr (by omega) fun row h1 h2 h3 => ?_
    exact ⟨rows ++ [row], by rw [List.map_append]; rfl, ok.snoc h1 (by rw [hl]; exact h2) h3 (by omega), by rw [List.length_append]; show rows.length + 1 = _; omega⟩
  · rintro acc ⟨rows, rfl, ok, hl⟩
    rw [intsUp_len] at hl
    repeat walk_at "pd"
    refine cd_tupL rfl ?_
    exact k rows ok (by omega)
/-! ### _law_above -/
abbrev s_law_above : Stmt := topS 26
abbrev N_law_above : List Str := ["_law_rows_here", "_law_found", "_law_number", "_law_parents_here", "_law_flags", "_law_parent", "_law_one", "_law_other"]
theorem sc_law_above : FnScope N_law_above ["_law_rows_here"] (defScope s_law_above) := ⟨rfl, rfl, rfl, by decide +kernel, rfl, by decide +kernel, by decide +kernel⟩
def pre_law_above (K : PySem.W.Frag) (CBook : Addr) (CKindError : Addr) (CNoOrder : Addr) : Wd → List Ent → (D → Prop) → Prop := fun _ es KK => ∃ rows : List (List Nat), es = [.d (rowsD rows)] ∧ Bk.RowsOk rows ∧ rows.length ≤ 50000 ∧ KK (aboveD rows)
theorem len_law_above (K : PySem.W.Frag) (CBook : Addr) (CKindError : Addr) (CNoOrder : Addr) : ∀ W es KK, pre_law_above K CBook CKindError CNoOrder W es KK → es.length = 1 := by rintro W es K ⟨rows, rfl, _⟩; rfl
abbrev sp_law_above (K : PySem.W.Frag) (CBook : Addr) (CKindError : Addr) (CNoOrder : Addr) : Sp := FSp (pre_law_above K CBook CKindError CNoOrder)
theorem ok_law_above {f : Addr} {fd : FuncData} (F : Fun K "_law_above" "_law_above" s_law_above f fd) (T : Txt K mg CBook CKindError CNoOrder) : FnOk P w K mg base CX0 1 f fd ["_law_rows_here"] (sp_law_above K CBook CKindError CNoOrder) := by
  refine F.ok sc_law_above (fun vs H Q E h => fn_len (n := 1) (len_law_above K CBook CKindError CNoOrder) h) (fun cdv A outer s H vs Q E hr h => ⟨_, (pss_cons (ps_set (i := 1) sc_law_above.nd rfl (by first | exact Or.inl rfl | exact Or.inr rfl) (pe_lst pa_nil))
 (pss_cons (ps_for PassesOwn.never rfl (pi_enumT (by rfl) T.z_enumerate (pa_cons (pv 0) pa_nil)) (pg_tup (n := 2) rfl (pgs_cons (pg_name (i := 2) sc_law_above.nd rfl (by first | exact Or.inl rfl | exact Or.inr rfl)) (pgs_cons (pg_name (i := 3) sc_law_above.nd rfl (by first | exact Or.inl rfl | exact Or.inr rfl)) pgs_nil))) (pss_cons (ps_set (i := 4) sc_law_above.nd rfl (by first | exact Or.inl rfl | exact Or.inr rfl) (pe_op op_times (pe_lst (pa_cons pe_bl pa_nil)) (pe_callB call_len1 (by rfl) T.z_len (by decide +kernel) (pa_cons (pv 0) pa_nil))))
 (pss_cons (ps_asg pe_bl (pg_sub (pv 4) (pv 2) set_list))
 (pss_cons (ps_for PassesOwn.never rfl (pi_tup (pv 3)) (pg_name (i := 5) sc_law_above.nd rfl (by first | exact Or.inl rfl | exact Or.inr rfl)) (pss_one (ps_setLc (i := 4) (own := [("_law_one", 6), ("_law_other", 7)]) rfl sc_law_above.nd rfl rfl (sw_true rfl rfl rfl (by decide +kernel)) (pi_zipA (by rfl) T.z_zip (pa_cons (pv 4) (pa_cons (pe_ix ix_seq (pv 1) (pv 5) (fun _ _ => rfl)) pa_nil))) (blkOk_by (own := [("_law_one", 6), ("_law_other", 7)]) (N := N_law_above) (sc := defScope s_law_above) (by decide +kernel)) (fun _ _ _ _ _ => pg_conv (pg_tup (n := 2) rfl (pgs_cons (pg_name (i := 6) sc_law_above.nd rfl (by first | exact Or.inl rfl | exact Or.inr rfl)) (pgs_cons (pg_name (i := 7) sc_law_above.nd rfl (by first | exact Or.inl rfl | exact Or.inr rfl)) pgs_nil))) (by first | rfl | (dsimp only [Cx.blk]; first | done | rfl))) (fun _ _ _ _ _ => pts_nil) (fun _ _ _ _ _ => pe_conv (pe_or (pv 6) (pe_one (pv 7))) (by first | rfl | (dsimp only [Cx.blk]; first | done | rfl))))))
 (pss_one (ps_expr (pe_bm PySem.F.plainAttrs_list PySem.F.slot_list_append PySem.F.type_list_append mt_append (pv 1) (pa_cons (pv 4) pa_nil))))))))
 (pss_one (ps_ret (pv 1))))), fn_start (ps := ["_law_rows_here"]) ?_ h⟩)
  rintro W es KK ⟨rows, rfl, hok, hl, k⟩
  refine ⟨rfl, ?_⟩
  show St W [.d (rowsD rows), .no, .no, .no, .no, .no, .no, .no] _ _
  refine st_seq (st_own (evl_lst (eva_nil ⟨[], rfl, Nat.zero_le _, fun l => ?_⟩)))
  show St W [.d (rowsD rows), .own l [], .no, .no, .no, .no, .no, .no] _ _
  refine st_seq (st_for (evi_enumT (ev_var (i := 0) rfl ⟨rows.map nT, rfl, fun i G => ∃ e2 e3 e4 e5 e6 e7 : Ent, ownOf e2 = none ∧ ownOf e3 = none ∧ ownOf e4 = none ∧ ownOf e5 = none ∧ ownOf e6 = none ∧ ownOf e7 = none ∧ G = [.d (rowsD rows), .own l (aboveL rows i), e2, e3, e4, e5, e6, e7], ⟨.no, .no, .no, .no, .no, .no, rfl, rfl, rfl, rfl, rfl, rfl, rfl⟩, ?_, ?_⟩)))
  · rintro i d G' hd ⟨e2, e3, e4, e5, e6, e7, h2, h3, h4, h5, h6, h7, rfl⟩
    obtain ⟨x, hx, rfl, hi⟩ := enum_of hd
    obtain ⟨row, hrow, rfl⟩ := rowsD_get hx
    rw [List.length_map] at hi
    refine tg_tup2 ?_
    show St W [.d (rowsD rows), .own l (aboveL rows i), .d (.int (i : Nat)), .d (nT row), e4, e5, e6, e7] _ _
    refine st_seq (st_own (evl_timesL (Ev.b (EvL.ev (evl_lst (eva_d (ev_bl (eva_nil ⟨_, rfl, by decide, ?_⟩))))))))
    refine Ev.b (ev_cb (eva_d (ev_var (i := 0) rfl (eva_nil (cd_len (.inr rfl) ⟨_, _, rfl, rfl, by omega, by rw [List.length_map]; omega, by rw [List.length_map]; show 1 * _ ≤ _; omega, fun l2 => ?_⟩)))))
    rw [List.length_map, Int.toNat_natCast, flagsL_rep]
    refine st_seq (st_setItem (i := 4) rfl (ev_bl (ev_var (i := 2) rfl ⟨i, rfl, by rw [flagsL_len]; exact hi, ?_⟩)))
    rw [flagsL_set]
    refine st_freeze 4 rfl ?_
    show St W [.d (rowsD rows), .own l (aboveL rows i), .d (.int (i : Nat)), .d (nT row), .d (.lst (flagsL rows.length fun p => decide (i = p))), e5, e6, e7] _ _
    refine st_seq (st_for (evi_tup (ev_var (i := 3) rfl ⟨intsD row, rfl, fun j G => ∃ e5 e6 e7 : Ent, ownOf e5 = none ∧ ownOf e6 = none ∧ ownOf e7 = none ∧ G = [.d (rowsD rows), .own l (aboveL rows i), .d (.int (i : Nat)), .d (nT row), .d (.lst (flagsL rows.length fun p => decide (i = p) || (row.take j).any fun q => Bk.isA rows q p)), e5, e6, e7], ⟨e5, e6, e7, h5, h6, h7, by simp⟩, ?_, ?_⟩)))
    · rintro j d G' hd ⟨e5, e6, e7, h5, h6, h7, rfl⟩
      obtain ⟨q, hq, rfl⟩ := intsD_of hd
      have hqi : q < i := hok i row hrow q (List.mem_of_getElem? hq)
      refine tg_name ?_
      show St W [.d (rowsD rows), .own l (aboveL rows i), .d (.int (i : Nat)), .d (nT row), .d (.lst (flagsL rows.length fun p => decide (i = p) || (row.take j).any fun q => Bk.isA rows q p)), .d (.int (q : Nat)), e6, e7] _ _
      refine st_asg (EvL.ev (evl_lc (evi_zipL (ev_var (i := 4) rfl (ev_opB (evb_own (i := 1) rfl (Ev.b (ev_var (i := 5) rfl (opd_ix (show ixD (.lst (aboveL rows i)) ((q : Nat) : Int) = some _ from atI_of (aboveL_get hqi)) ⟨_, _, rfl, rfl, by rw [pairsOf_len, flagsL_len, flagsL_len]; omega, fun p acc => acc = flagsL p fun p => (decide (i = p) || (row.take j).any fun q => Bk.isA rows q p) || Bk.isA rows q p, rfl, ?_, ?_⟩)))))))))
      · rintro p d acc hd rfl _
        obtain ⟨a, b, ha, hb, rfl⟩ := pairsOf_of hd
        obtain ⟨_, rfl⟩ := flagsL_of ha
        obtain ⟨_, rfl⟩ := flagsL_of hb
        refine tgc_tup2 (by simp) (by simp) ?_
        show _ = _ ∧ EvT W [.d (rowsD rows), .own l (aboveL rows i), .d (.int (i : Nat)), .d (nT row), .d (.lst (flagsL rows.length fun p => decide (i = p) || (row.take j).any fun q => Bk.isA rows q p)), .d (.int (q : Nat)), .d (.bl _), .d (.bl _)] _ _
        refine ⟨by show [l] = _; unfold owned; simp only [List.filterMap_cons, h6, h7]; rfl, ?_⟩
        repeat walk_at "pd"
        refine ⟨fun hb => ?_, fun hb => ?_⟩
        · rw [flagsL_succ, hb]; rfl
        · repeat walk_at "pd"
          rw [flagsL_succ, hb]; rfl
      · rintro acc rfl
        rw [pairsOf_len, flagsL_len, flagsL_len, Nat.min_self]
        refine ⟨.d (.int (q : Nat)), e6, e7, rfl, h6, h7, ?_⟩
        show [_, _, _, _, Ent.d (.lst _), _, _, _] = _
        rw [flagsL_congr (g := fun p => decide (i = p) || (row.take (j + 1)).any fun q => Bk.isA rows q p) fun p _ => by rw [Bk.take_snoc hq, List.any_append, Bool.or_assoc]; simp]
    · rintro G' ⟨e5, e6, e7, h5, h6, h7, rfl⟩
      rw [show row.take (intsD row).length = row from List.take_of_length_le (by rw [intsD_len]; exact Nat.le_refl _)]
      refine st_app (i := 1) (l := l) (ds := aboveL rows i) rfl (by rw [aboveL_len]; omega) (ev_var (i := 4) rfl ?_)
      refine ⟨.d (.int (i : Nat)), .d (nT row), .d (.lst (flagsL rows.length fun p => decide (i = p) || row.any fun q => Bk.isA rows q p)), e5, e6, e7, rfl, rfl, rfl, h5, h6, h7, ?_⟩
      show [_, Ent.own l (_ ++ [_]), _, _, _, _, _, _] = _
      rw [aboveL_succ, flagsL_congr (f := Bk.isA rows i) (g := fun p => decide (i = p) || row.any fun q => Bk.isA rows q p) fun p _ => Bk.isA_eq hok hrow]
  · rintro G' ⟨e2, e3, e4, e5, e6, e7, h2, h3, h4, h5, h6, h7, rfl⟩
    rw [enum_len, List.length_map]
    exact st_retOwn (i := 1) rfl k
/-! ### _law_deep -/
abbrev s_law_deep : Stmt := topS 27
abbrev N_law_deep : List Str := ["_law_tape_here", "_law_found", "_law_again"]
theorem sc_law_deep : FnScope N_law_deep ["_law_tape_here"] (defScope s_law_deep) := ⟨rfl, rfl, rfl, by decide +kernel, rfl, by decide +kernel, by decide +kernel⟩
theorem any_flat {K : PySem.W.Frag} {d : D} (h : TyOk K d) (n : ∀ vs, d ≠ .tup vs) : AnyD K d := ⟨h, fun vs e => absurd e (n vs)⟩
theorem any_tup {K : PySem.W.Frag} {ds : List D} (h : ∀ x ∈ ds, TyOk K x) : AnyD K (.tup ds) := ⟨trivial, fun vs e => by cases e; exact h⟩
theorem any_at {K : PySem.W.Frag} {ds : List D} (h : ∀ x ∈ ds, AnyD K x) {k : Nat} (hk : k < ds.length) : ∃ x, ixD (.lst ds) ((k : Nat) : Int) = some x ∧ AnyD K x := ⟨ds[k], atI_of (List.getElem?_eq_getElem hk), h _ (List.getElem_mem hk)⟩
def pre_law_deep (K : PySem.W.Frag) (CBook : Addr) (CKindError : Addr) (CNoOrder : Addr) : Wd → List Ent → (D → Prop) → Prop := fun W es KK => ∃ (t c : Addr), W = tapeW t c ∧ es = [.raw (.ref t)] ∧ ∀ d, AnyD K d → KK d
theorem len_law_deep (K : PySem.W.Frag) (CBook : Addr) (CKindError : Addr) (CNoOrder : Addr) : ∀ W es KK, pre_law_deep K CBook CKindError CNoOrder W es KK → es.length = 1 := by rintro W es K ⟨t, c, _, rfl, _⟩; rfl
theorem deep_ok {K : PySem.W.Frag} {CBook : Addr} {CKindError : Addr} {CNoOrder : Addr} {t c : Addr} {KK : D → Prop} (h : ∀ d, AnyD K d → KK d) : pre_law_deep K CBook CKindError CNoOrder (tapeW t c) [.raw (.ref t)] KK := ⟨t, c, rfl, rfl, h⟩
abbrev sp_law_deep (K : PySem.W.Frag) (CBook : Addr) (CKindError : Addr) (CNoOrder : Addr) : Sp := FSp (pre_law_deep K CBook CKindError CNoOrder)
theorem ok_law_deep {f : Addr} {fd : FuncData} (F : Fun K "_law_deep" "_law_deep" s_law_deep f fd) (T : Txt K mg CBook CKindError CNoOrder) (h_law_pick : Has P w K mg base 1 "_law_pick" ["_law_tape_here", "_law_many"] (sp_law_pick K CBook CKindError CNoOrder)) : FnOk P w K mg base CX0 2 f fd ["_law_tape_here"] (sp_law_deep K CBook CKindError CNoOrder) := by
  refine F.ok sc_law_deep (fun vs H Q E h => fn_len (n := 1) (len_law_deep K CBook CKindError CNoOrder) h) (fun cdv A outer s H vs Q E hr h => ⟨_, (pss_cons (ps_set (i := 1) sc_law_deep.nd rfl (by first | exact Or.inl rfl | exact Or.inr rfl) (pe_ix ix_seq (pe_lst (pa_cons pe_non (pa_cons pe_str (pa_cons (pe_un un_neg pe_int) (pa_cons pe_dnewK pa_nil))))) (pe_has h_law_pick (hr.mono (by decide)) (pa_cons (pv 0) (pa_cons pe_int pa_nil))) (fun _ _ => rfl)))
 (pss_cons (ps_for PassesOwn.never rfl (pi_range1 (by rfl) T.z_range (pa_cons (pe_op op_plus pe_int (pe_has h_law_pick (hr.mono (by decide)) (pa_cons (pv 0) (pa_cons pe_int pa_nil)))) pa_nil)) (pg_name (i := 2) sc_law_deep.nd rfl (by first | exact Or.inl rfl | exact Or.inr rfl)) (pss_one (ps_set (i := 1) sc_law_deep.nd rfl (by first | exact Or.inl rfl | exact Or.inr rfl) (pe_ix ix_seq (pe_lst (pa_cons (pe_tup (pa_cons (pv 1) pa_nil)) (pa_cons (pe_lst (pa_cons (pv 1) pa_nil)) (pa_cons (pe_slice sl_any (pe_tup (pa_cons (pv 1) (pa_cons (pv 1) pa_nil))) po_none (po_some pe_int)) (pa_cons (pe_disp (pps_cons pe_str (pv 1) pps_nil) rfl rfl (by simp) (by decide)) pa_nil))))) (pe_has h_law_pick (hr.mono (by decide)) (pa_cons (pv 0) (pa_cons pe_int pa_nil))) (fun _ _ => rfl)))))
 (pss_one (ps_ret (pv 1))))), fn_start (ps := ["_law_tape_here"]) ?_ h⟩)
  rintro W es KK ⟨t, c, rfl, rfl, k⟩
  refine ⟨rfl, ?_⟩
  show St (tapeW t c) [.raw (.ref t), .no, .no] _ _
  refine st_seq <| st_asg <| ev_op <| EvL.ev <| evl_lst <| eva_d <| ev_non <| eva_d <| ev_str <| eva_d ?_
  repeat walk_at "pd"
  refine ev_dnew <| eva_nil ⟨_, rfl, Nat.le_of_ble_eq_true rfl, ?_⟩
  refine ev_call <| eva_cons <| eve_raw (i := 0) rfl <| eva_d <| ev_int <| eva_nil ⟨rfl, pick_ok 4 rfl (by decide) (by decide) fun r hr => ?_⟩
  obtain ⟨x, hx, fx⟩ := any_at (K := K) (ds := [.non, .str "a", .int (-1), .dct]) (k := r) (by
    intro x hx
    simp only [List.mem_cons, List.not_mem_nil, or_false] at hx
    rcases hx with rfl | rfl | rfl | rfl
    all_goals exact any_flat trivial (fun _ => by intro z; cases z)) hr
  refine opd_ix hx ?_
  show St (tapeW t c) [.raw (.ref t), .d x, .no] _ _
  refine st_seq ?_
  refine st_for (evi_rng1 (ev_op (ev_int (ev_call (eva_cons (eve_raw (i := 0) rfl (eva_d (ev_int (eva_nil ⟨rfl, pick_ok 39 rfl (by decide) (by decide) fun n hn => opd_plusI ⟨_, rfl, by omega, by omega, fun i G => ∃ (d : D) (e2 : Ent), ownOf e2 = none ∧ AnyD K d ∧ G = [.raw (.ref t), .d d, e2], ⟨x, .no, rfl, fx, rfl⟩, ?_, ?_⟩⟩)))))))))
  · rintro i z G' hd ⟨d, e2, h2, fd, rfl⟩
    obtain ⟨hi, rfl⟩ := intsUp_of hd
    refine tg_name ?_
    show St (tapeW t c) [.raw (.ref t), .d d, .d (.int (0 + (i : Nat)))] _ _
    refine st_asg <| ev_op <| EvL.ev <| evl_lst <| eva_d <| ev_tup <| eva_d <| ev_var (i := 1) rfl <| eva_nil ⟨_, rfl, Nat.le_of_ble_eq_true rfl, ?_⟩
    refine eva_d <| EvL.ev <| evl_lst <| eva_d <| ev_var (i := 1) rfl <| eva_nil ⟨_, rfl, Nat.le_of_ble_eq_true rfl, ?_⟩
    refine eva_d <| ev_sl <| Ev.b <| ev_tup <| eva_d <| ev_var (i := 1) rfl <| eva_d <| ev_var (i := 1) rfl <| eva_nil ⟨_, rfl, Nat.le_of_ble_eq_true rfl, .inl ⟨[d, d], rfl, evo_none (evo_some (ev_int ⟨1, rfl, ?_⟩))⟩⟩
    rw [show Pd.cutD [d, d] none (some 1) = [d] from cutD_to (m := 1) (by show 1 ≤ 2; decide)]
    refine eva_d <| ev_disp1 <| ev_var (i := 1) rfl ?_
    refine eva_nil ⟨_, rfl, Nat.le_of_ble_eq_true rfl, ?_⟩
    refine ev_call <| eva_cons <| eve_raw (i := 0) rfl <| eva_d <| ev_int <| eva_nil ⟨rfl, pick_ok 4 rfl (by decide) (by decide) fun r hr => ?_⟩
    obtain ⟨y, hy, fy⟩ := any_at (K := K) (ds := [.tup [d], .lst [d], .tup [d], .dct]) (k := r) (by
      intro x hx
      simp only [List.mem_cons, List.not_mem_nil, or_false] at hx
      have one : AnyD K (.tup [d]) := any_tup fun x hx => by rw [List.mem_singleton.mp hx]; exact fd.1
      rcases hx with rfl | rfl | rfl | rfl
      · exact one
      · exact any_flat trivial (fun _ => by intro z; cases z)
      · exact one
      · exact any_flat trivial (fun _ => by intro z; cases z)) hr
    refine opd_ix hy ?_
    exact ⟨y, _, rfl, fy, rfl⟩
  · rintro G' ⟨d, e2, h2, fd, rfl⟩
    exact st_ret (ev_var (i := 1) rfl (k d fd))
/-! ### _law_order -/
abbrev s_law_order : Stmt := topS 28
abbrev N_law_order : List Str := ["_law_tape_here", "_law_rows_here", "_law_found", "_law_again", "_law_free", "_law_x", "_law_p"]
theorem sc_law_order : FnScope N_law_order ["_law_tape_here", "_law_rows_here"] (defScope s_law_order) := ⟨rfl, rfl, rfl, by decide +kernel, rfl, by decide +kernel, by decide +kernel⟩
--Z
/-- while some are left, some are free -/
theorem some_free {rows : List (List Nat)} {o : List Nat} (ok : Bk.RowsOk rows) (h : OrdOk rows o) (hl : o.length < rows.length) : ∃ x, x < rows.length ∧ x ∉ o ∧ ∀ row, rows[x]? = some row → ∀ p ∈ row, p ∈ o := by
  have ex : ∃ x, x < rows.length ∧ x ∉ o := by
    refine Classical.byContradiction fun no => ?_
    have all : ∀ x ∈ List.range rows.length, x ∈ o := fun x hx => Classical.byContradiction fun z => no ⟨x, List.mem_range.mp hx, z⟩
    have := (List.nodup_range (n := rows.length)).length_le_of_subset all
    rw [List.length_range] at this
    omega
  obtain ⟨x, hx, hxo⟩ := ex
  induction x using Nat.strongRecOn with
  | _ x ih =>
    by_cases q : ∀ row, rows[x]? = some row → ∀ p ∈ row, p ∈ o
    · exact ⟨x, hx, hxo, q⟩
    · obtain ⟨row, q⟩ := Classical.not_forall.mp q
      obtain ⟨hr, q⟩ := Classical.not_imp.mp q
      obtain ⟨p, q⟩ := Classical.not_forall.mp q
      obtain ⟨hp, hpo⟩ := Classical.not_imp.mp q
      have := ok x row hr p hp
      exact ih p this (by omega) hpo
def pre_law_order (K : PySem.W.Frag) (CBook : Addr) (CKindError : Addr) (CNoOrder : Addr) : Wd → List Ent → (List Nat → Prop) → Prop := fun W es KK => ∃ (t c : Addr) (rows : List (List Nat)), W = tapeW t c ∧ es = [.raw (.ref t), .d (rowsD rows)] ∧ Bk.RowsOk rows ∧ rows.length ≤ 400 ∧ (∀ r ∈ rows, r.length ≤ 400) ∧ ∀ o : List Nat, OrdOk rows o → o.length = rows.length → KK o
theorem len_law_order (K : PySem.W.Frag) (CBook : Addr) (CKindError : Addr) (CNoOrder : Addr) : ∀ W es KK, pre_law_order K CBook CKindError CNoOrder W es KK → es.length = 2 := by rintro W es K ⟨t, c, rows, _, rfl, _⟩; rfl
abbrev sp_law_order (K : PySem.W.Frag) (CBook : Addr) (CKindError : Addr) (CNoOrder : Addr) : Sp := FSpZ (pre_law_order K CBook CKindError CNoOrder)
theorem ok_law_order {f : Addr} {fd : FuncData} (F : Fun K "_law_order" "_law_order" s_law_order f fd) (T : Txt K mg CBook CKindError CNoOrder) (h_law_pick : Has P w K mg base 1 "_law_pick" ["_law_tape_here", "_law_many"] (sp_law_pick K CBook CKindError CNoOrder)) : FnOk P w K mg base CX0 2 f fd ["_law_tape_here", "_law_rows_here"] (sp_law_order K CBook CKindError CNoOrder) := by
  refine F.ok sc_law_order (fun vs H Q E h => fn_lenZ (n := 2) (len_law_order K CBook CKindError CNoOrder) h) (fun cdv A outer s H vs Q E hr h => ⟨_, (pss_cons (ps_set (i := 2) sc_law_order.nd rfl (by first | exact Or.inl rfl | exact Or.inr rfl) (pe_lst pa_nil))
 (pss_cons (ps_for PassesOwn.never rfl (pi_range1 (by rfl) T.z_range (pa_cons (pe_callB call_len1 (by rfl) T.z_len (by decide +kernel) (pa_cons (pv 1) pa_nil)) pa_nil)) (pg_name (i := 3) sc_law_order.nd rfl (by first | exact Or.inl rfl | exact Or.inr rfl)) (pss_cons (ps_setLc (i := 4) (own := [("_law_x", 5)]) rfl sc_law_order.nd rfl rfl (sw_true rfl rfl rfl (by decide +kernel)) (pi_range1 (by rfl) T.z_range (pa_cons (pe_callB call_len1 (by rfl) T.z_len (by decide +kernel) (pa_cons (pv 1) pa_nil)) pa_nil)) (blkOk_by (own := [("_law_x", 5)]) (N := N_law_order) (sc := defScope s_law_order) (by decide +kernel)) (fun _ _ _ _ _ => (pg_name (i := 5) sc_law_order.nd rfl (by first | exact Or.inl rfl | exact Or.inr rfl))) (fun _ _ _ _ _ => pts_conv (pts_one (PW.pt (pw_and (pt_cmpR op_notIn_seq (pv 5) (pv 2) (by rfl)) (pw_and1 (pt_truth (pe_callB (cr_all rfl) (by rfl) T.z_all (by decide +kernel) (pa_cons (pe_lc (own := [("_law_p", 6)]) rfl sc_law_order.nd (pi_tup (pe_ix ix_seq (pv 1) (pv 5) (fun _ _ => rfl))) (blkOk_by (own := [("_law_p", 6)]) (N := N_law_order) (by kernel_rfl)) (fun _ _ _ _ _ => (pg_name (i := 6) sc_law_order.nd rfl (by first | exact Or.inl rfl | exact Or.inr rfl))) (fun _ _ _ _ _ => pts_nil) (fun _ _ _ _ _ => pe_conv (pe_cmpR op_in_seq (pv 6) (pv 2) (by rfl)) (by first | rfl | (dsimp only [Cx.blk]; first | done | rfl)))) pa_nil)) (by intro _; rfl)))))) (by first | rfl | (dsimp only [Cx.blk]; first | done | rfl))) (fun _ _ _ _ _ => pe_conv (pv 5) (by first | rfl | (dsimp only [Cx.blk]; first | done | rfl))))
 (pss_one (ps_expr (pe_bm PySem.F.plainAttrs_list PySem.F.slot_list_append PySem.F.type_list_append mt_append (pv 2) (pa_cons (pe_ix ix_seq (pv 4) (pe_has h_law_pick (hr.mono (by decide)) (pa_cons (pv 0) (pa_cons (pe_callB call_len1 (by rfl) T.z_len (by decide +kernel) (pa_cons (pv 4) pa_nil)) pa_nil))) (fun _ _ => rfl)) pa_nil))))))
 (pss_one (ps_ret (pe_callTy call_tupZ (by rfl) T.z_tuple (by decide +kernel) (pa_cons (pv 2) pa_nil)))))), fn_startZ (ps := ["_law_tape_here", "_law_rows_here"]) ?_ h⟩)
  rintro W es KK ⟨t, c, rows, rfl, rfl, hok, hn, hr, k⟩
  refine ⟨rfl, ?_⟩
  show StZ (tapeW t c) [.raw (.ref t), .d (rowsD rows), .no, .no, .no, .no, .no] _ _
  have hlr : (rows.map nT).length = rows.length := List.length_map ..
  refine stz_seq <| st_own <| evl_lst <| eva_nil ⟨[], rfl, Nat.zero_le _, fun l => ?_⟩
  show StZ (tapeW t c) [.raw (.ref t), .d (rowsD rows), .own l (intsD []), .no, .no, .no, .no] _ _
  refine stz_seq <| st_for <| evi_rng1 <| ev_cb <| eva_d <| ev_var (i := 1) rfl <| eva_nil <| cd_len (.inr rfl) ⟨_, rfl, by omega, by omega, fun i G => ∃ (o : List Nat) (e3 e4 : Ent), ownOf e3 = none ∧ ownOf e4 = none ∧ OrdOk rows o ∧ o.length = i ∧ G = [.raw (.ref t), .d (rowsD rows), .own l (intsD o), e3, e4, .no, .no], ⟨[], .no, .no, rfl, rfl, OrdOk.nil rows, rfl, rfl⟩, ?_, ?_⟩
  · rintro i d G' hd ⟨o, e3, e4, -, -, ho, hol, rfl⟩
    obtain ⟨hi, rfl⟩ := intsUp_of hd
    rw [hlr, Int.toNat_natCast] at hi
    refine tg_name ?_
    refine st_nos [4] ?_
    show St (tapeW t c) [.raw (.ref t), .d (rowsD rows), .own l (intsD o), .d (.int (0 + (i : Nat))), .no, .no, .no] _ _
    generalize (0 : Int) + (i : Nat) = i0
    refine st_seq <| st_asg <| EvL.ev <| evl_lc <| evi_rng1 <| ev_cb <| eva_d <| ev_var (i := 1) rfl <| eva_nil <| cd_len (.inr rfl) ⟨_, rfl, by omega, by omega, by rw [intsUp_len]; omega, fun j acc => acc = intsD ((List.range j).filter fun k => !decide (k ∈ o) && (rows.getD k []).all fun p => decide (p ∈ o)), rfl, ?_, ?_⟩
    · rintro x d acc hd rfl _
      obtain ⟨hx, rfl⟩ := intsUp_of hd
      rw [hlr, Int.toNat_natCast] at hx
      have hrow : rows[x]? = some rows[x] := List.getElem?_eq_getElem hx
      have hrl := hr rows[x] (List.getElem_mem hx)
      have eg : rows.getD x [] = rows[x] := by rw [List.getD_eq_getElem?_getD, hrow]; rfl
      generalize rows[x] = row at hrow hrl eg
      have yes : (!decide (x ∈ o) && row.all fun p => decide (p ∈ o)) = true → intsD ((List.range x).filter fun k => !decide (k ∈ o) && (rows.getD k []).all fun p => decide (p ∈ o)) ++ [.int (x : Nat)] = intsD ((List.range (x + 1)).filter fun k => !decide (k ∈ o) && (rows.getD k []).all fun p => decide (p ∈ o)) := fun hb => by
        rw [List.range_succ, List.filter_append, List.filter_cons_of_pos (by rw [eg]; exact hb), List.filter_nil]
        exact intsD_snoc _ _
      have no : (!decide (x ∈ o) && row.all fun p => decide (p ∈ o)) = false → intsD ((List.range x).filter fun k => !decide (k ∈ o) && (rows.getD k []).all fun p => decide (p ∈ o)) = intsD ((List.range (x + 1)).filter fun k => !decide (k ∈ o) && (rows.getD k []).all fun p => decide (p ∈ o)) := fun hb => by
        rw [List.range_succ, List.filter_append, List.filter_cons_of_neg (by rw [eg, hb]; decide), List.filter_nil, List.append_nil]
      refine tgc_name (by simp) ?_
      rw [Int.zero_add]
      show _ = _ ∧ EvT (tapeW t c) [.raw (.ref t), .d (rowsD rows), .own l (intsD o), .d (.int i0), .no, .d (.int (x : Nat)), .no] _ _
      refine ⟨rfl, ?_⟩
      refine evt_and <| evt_test <| ev_opB <| Ev.b <| ev_var (i := 5) rfl <| evb_own (i := 2) rfl <| opd_in (ds := intsD o) rfl rfl (natsD_flat o) ?_
      rw [show inD (.int (x : Nat)) (intsD o) = decide (x ∈ o) from inD_nats x o]
      refine ⟨_, rfl, fun hb => ?_, fun hb => ⟨(fun z => nomatch z), fun _ => ?_⟩⟩
      · have hb : (!decide (x ∈ o)) = true := hb
        rw [hb, Bool.true_and] at yes no
        refine evt_tru <| Ev.b <| ev_cb <| eva_d <| EvL.ev <| evl_lc <| evi_tup <| ev_op <| ev_var (i := 1) rfl <| ev_var (i := 5) rfl <| opd_ix (show ixD (rowsD rows) ((x : Nat) : Int) = some (nT row) from atI_of (by rw [List.getElem?_map, hrow]; rfl)) ⟨intsD row, rfl, by rw [intsD_len]; omega, fun q acc => acc = ((row.take q).map fun p => decide (p ∈ o)).map D.bl, rfl, ?_, ?_⟩
        · rintro q d acc hd rfl _
          obtain ⟨p, hp, rfl⟩ := intsD_of hd
          refine tgc_name (by simp) ?_
          show _ = _ ∧ EvT (tapeW t c) [.raw (.ref t), .d (rowsD rows), .own l (intsD o), .d (.int i0), .no, .d (.int (x : Nat)), .d (.int (p : Nat))] _ _
          refine ⟨rfl, evt_yes ⟨fun _ => ?_, (fun z => nomatch z)⟩⟩
          refine ev_opB <| Ev.b <| ev_var (i := 6) rfl <| evb_own (i := 2) rfl <| opd_in (ds := intsD o) rfl rfl (natsD_flat o) ?_
          rw [show inD (.int (p : Nat)) (intsD o) = decide (p ∈ o) from inD_nats p o]
          dsimp only
          rw [if_neg (by decide), snoc_take hp, List.map_append, List.map_append]
          rfl
        · rintro acc rfl
          rw [intsD_len, List.take_of_length_le (Nat.le_refl _)]
          refine eva_nil <| cd_all (bs := row.map fun p => decide (p ∈ o)) rfl ?_
          rw [List.all_map]
          exact ⟨rfl, fun hb => ev_var (i := 5) rfl (yes hb), fun hb => no hb⟩
      · have hb : (!decide (x ∈ o)) = false := hb
        exact no (by rw [hb, Bool.false_and])
    rintro acc rfl
    rw [intsUp_len, hlr, Int.toNat_natCast]
    generalize hfr : (List.range rows.length).filter (fun k => !decide (k ∈ o) && (rows.getD k []).all fun p => decide (p ∈ o)) = fr
    have mfr : ∀ x, x ∈ fr ↔ (x < rows.length ∧ x ∉ o) ∧ ∀ p ∈ rows.getD x [], p ∈ o := fun x => by
      rw [← hfr, List.mem_filter, List.mem_range, Bool.and_eq_true, List.all_eq_true]; simp [and_assoc]
    have lfr : fr.length ≤ 400 := by
      rw [← hfr]; exact Nat.le_trans (List.length_filter_le _ _) (by rw [List.length_range]; exact hn)
    have pfr : 0 < fr.length := by
      obtain ⟨x, h1, h2, h3⟩ := some_free hok ho (by omega)
      have hrow : rows[x]? = some rows[x] := List.getElem?_eq_getElem h1
      refine List.length_pos_of_mem ((mfr x).mpr ⟨⟨h1, h2⟩, ?_⟩)
      rw [List.getD_eq_getElem?_getD, hrow]
      exact h3 _ hrow
    show St (tapeW t c) [.raw (.ref t), .d (rowsD rows), .own l (intsD o), .d (.int i0), .d (.lst (intsD fr)), .no, .no] _ _
    refine st_app (i := 2) (l := l) (ds := intsD o) rfl (by rw [intsD_len]; omega) <| ev_op <| ev_var (i := 4) rfl <| ev_call <| eva_cons <| eve_raw (i := 0) rfl <| eva_d <| ev_cb <| eva_d <| ev_var (i := 4) rfl <| eva_nil <| cd_len (.inl rfl) <| eva_nil ⟨rfl, pick_ok fr.length (by rw [intsD_len]) pfr (by omega) fun r hr2 => ?_⟩
    have hg : fr[r]? = some fr[r] := List.getElem?_eq_getElem hr2
    obtain ⟨⟨h1, h2⟩, h3⟩ := (mfr fr[r]).mp (List.getElem_mem hr2)
    have hrow : rows[fr[r]]? = some rows[fr[r]] := List.getElem?_eq_getElem h1
    refine opd_ix (show ixD (.lst (intsD fr)) ((r : Nat) : Int) = some (.int (fr[r] : Nat)) from atI_of (by unfold intsD; rw [List.getElem?_map, hg]; rfl)) ?_
    refine ⟨o ++ [fr[r]], .d (.int i0), .d (.lst (intsD fr)), rfl, rfl, ho.snoc h2 hrow (fun p hp => h3 p (by rw [List.getD_eq_getElem?_getD, hrow]; exact hp)), by rw [List.length_append, hol]; rfl, ?_⟩
    show [_, _, Ent.own l (_ ++ [_]), _, _, _, _] = _
    rw [intsD_snoc]
  · rintro G' ⟨o, e3, e4, -, -, ho, hol, rfl⟩
    rw [intsUp_len, hlr, Int.toNat_natCast] at hol
    exact stz_ret (i := 2) (l := l) (ns := o) rfl (k o ho hol)
/-! ### _law_is_order -/
abbrev s_law_is_order : Stmt := topS 29
abbrev N_law_is_order : List Str := ["_law_rows_here", "_law_thing", "_law_at", "_law_x", "_law_item", "_law_p"]
theorem sc_law_is_order : FnScope N_law_is_order ["_law_rows_here", "_law_thing"] (defScope s_law_is_order) := ⟨rfl, rfl, rfl, by decide +kernel, rfl, by decide +kernel, by decide +kernel⟩
theorem ints_all {ds : List D} (h : ds.all isIntD = true) : ∃ zs : List Int, ds = zs.map D.int := by
  induction ds with
  | nil => exact ⟨[], rfl⟩
  | cons d ds ih =>
    rw [List.all_cons, Bool.and_eq_true] at h
    obtain ⟨zs, rfl⟩ := ih h.2
    cases d with
    | int i => exact ⟨i :: zs, rfl⟩
    | _ => exact absurd h.1 (by intro z; cases z)
theorem nT_ints (o : List Nat) : intsD o = (o.map fun (k : Nat) => (k : Int)).map D.int := by unfold intsD; rw [List.map_map]; rfl
/-- ints that, sorted, are 0, 1, .. -/
theorem perm_range {zs : List Int} {n : Nat} (h : ((List.range n).map fun (k : Nat) => (k : Int)).Perm zs) : ∃ o : List Nat, zs = o.map (fun (k : Nat) => (k : Int)) ∧ o.Nodup ∧ o.length = n ∧ ∀ k ∈ o, k < n := by
  have e : zs = (zs.map Int.toNat).map fun (k : Nat) => (k : Int) := by
    rw [List.map_map]
    refine ((List.map_congr_left fun z hz => ?_).trans (List.map_id' zs)).symm
    obtain ⟨k, _, rfl⟩ := List.mem_map.mp (h.mem_iff.mpr hz)
    simp
  have pm : (zs.map Int.toNat).Perm (List.range n) := by
    have := (h.map Int.toNat).symm
    rw [List.map_map] at this
    have e2 : (List.range n).map (Int.toNat ∘ fun (k : Nat) => (k : Int)) = List.range n := (List.map_congr_left fun p _ => by simp).trans (List.map_id' _)
    rwa [e2] at this
  exact ⟨zs.map Int.toNat, e, pm.nodup_iff.mpr List.nodup_range, by rw [pm.length_eq, List.length_range], fun k hk => List.mem_range.mp (pm.mem_iff.mp hk)⟩
theorem range_perm {o : List Nat} {n : Nat} (nd : o.Nodup) (hl : o.length = n) (hlt : ∀ k ∈ o, k < n) : o.Perm (List.range n) := by
  refine (List.perm_ext_iff_of_nodup nd List.nodup_range).mpr fun k => ⟨fun h => List.mem_range.mpr (hlt k h), fun h => ?_⟩
  refine Classical.byContradiction fun z => ?_
  have h1 : (k :: o).length ≤ (List.range n).length := (List.nodup_cons.mpr ⟨z, nd⟩).length_le_of_subset fun x hx => by
    rcases List.mem_cons.mp hx with rfl | hx
    · exact h
    · exact List.mem_range.mpr (hlt x hx)
  rw [List.length_cons, List.length_range] at h1
  omega
theorem up_perm {a b : List Int} (h : a.Perm b) (ha : a.Pairwise (· ≤ ·)) (hb : b.Pairwise (· ≤ ·)) : a = b := h.eq_of_pairwise (fun x y _ _ h1 h2 => Int.le_antisymm h1 h2) ha hb
theorem range_up (n : Nat) : ((List.range n).map fun (k : Nat) => (k : Int)).Pairwise (· ≤ ·) := by
  rw [List.pairwise_map]
  exact List.pairwise_lt_range.imp fun h => by omega
theorem toP_lstI (zs : List Int) : toP (.lst (zs.map D.int)) = .list (zs.map fun z => PyData.int z) := by
  show PyData.list (toPs _) = _
  rw [toPs_map]; rfl
theorem ok_lstI (zs : List Int) : okD (.lst (zs.map D.int)) = true := by
  unfold okD
  have h1 : Pd.plain (.lst (zs.map D.int)) = true := plains_map _ (fun _ => rfl) zs
  have h2 : (toP (.lst (zs.map D.int))).canLay0 = true := by
    rw [toP_lstI]
    exact lay_all (fun z => PyData.int z) (fun _ => rfl) zs
  have h3 : (toP (.lst (zs.map D.int))).depth ≤ 1 := by
    rw [toP_lstI]
    have := depth_all (fun z => PyData.int z) 0 (fun _ => Nat.le_refl _) zs
    show PyData.depthAll _ + 1 ≤ 1
    omega
  rw [h1]
  show (PyData.canLay0 _ && decide _) = true
  rw [h2]
  simp; omega
theorem eqD_lstI (a b : List Int) : eqD (.lst (a.map D.int)) (.lst (b.map D.int)) = decide (a = b) := by
  unfold eqD
  rw [toP_lstI, toP_lstI]
  show PyData.eqvAll _ _ = _
  exact eqv_map (fun z => PyData.int z) eqD_ints a b
def pre_law_is_order (K : PySem.W.Frag) (CBook : Addr) (CKindError : Addr) (CNoOrder : Addr) : Wd → List Ent → (D → Prop) → Prop := fun _ es KK => ∃ (rows : List (List Nat)) (d : D), es = [.d (rowsD rows), .d d] ∧ BookOk rows ∧ AnyD K d ∧ (IsOrd rows d → KK (.bl true)) ∧ (¬ IsOrd rows d → KK (.bl false))
theorem len_law_is_order (K : PySem.W.Frag) (CBook : Addr) (CKindError : Addr) (CNoOrder : Addr) : ∀ W es KK, pre_law_is_order K CBook CKindError CNoOrder W es KK → es.length = 2 := by rintro W es K ⟨rows, o, rfl, _⟩; rfl
abbrev sp_law_is_order (K : PySem.W.Frag) (CBook : Addr) (CKindError : Addr) (CNoOrder : Addr) : Sp := FSp (pre_law_is_order K CBook CKindError CNoOrder)
theorem ok_law_is_order {f : Addr} {fd : FuncData} (F : Fun K "_law_is_order" "_law_is_order" s_law_is_order f fd) (T : Txt K mg CBook CKindError CNoOrder) : FnOk P w K mg base CX0 1 f fd ["_law_rows_here", "_law_thing"] (sp_law_is_order K CBook CKindError CNoOrder) := by
  refine F.ok sc_law_is_order (fun vs H Q E h => fn_len (n := 2) (len_law_is_order K CBook CKindError CNoOrder) h) (fun cdv A outer s H vs Q E hr h => ⟨_, (pss_cons (ps_if (PW.pt (pw_or (pt_not (pt_truth (pe_callB call_isi (by rfl) T.z_isinstance (by decide +kernel) (pa_cons (pv 1) (pa_cons (pe_bltn (v := .ty "tuple") (by rfl) T.z_tuple (by decide +kernel) rfl) pa_nil))) (by intro _; rfl))) (pw_or1 (pt_cmpR (op_neD (hu65 hr)) (pe_callB call_len1 (by rfl) T.z_len (by decide +kernel) (pa_cons (pv 1) pa_nil)) (pe_callB call_len1 (by rfl) T.z_len (by decide +kernel) (pa_cons (pv 0) pa_nil)) (nomark _))))) (pss_one (ps_ret pe_bl)) pss_nil)
 (pss_cons (ps_if (pt_not (pt_truth (pe_callB (cr_all rfl) (by rfl) T.z_all (by decide +kernel) (pa_cons (pe_lc (own := [("_law_item", 4)]) rfl sc_law_is_order.nd (pi_tup (pv 1)) (blkOk_by (own := [("_law_item", 4)]) (N := N_law_is_order) (sc := defScope s_law_is_order) (by decide +kernel)) (fun _ _ _ _ _ => (pg_name (i := 4) sc_law_is_order.nd rfl (by first | exact Or.inl rfl | exact Or.inr rfl))) (fun _ _ _ _ _ => pts_nil) (fun _ _ _ _ _ => pe_conv (pe_and (pe_callB call_isi (by rfl) T.z_isinstance (by decide +kernel) (pa_cons (pv 4) (pa_cons (pe_bltn (v := .ty "int") (by rfl) T.z_int (by decide +kernel) rfl) pa_nil))) (pe_one (pe_not (pe_callB call_isi (by rfl) T.z_isinstance (by decide +kernel) (pa_cons (pv 4) (pa_cons (pe_bltn (v := .ty "bool") (by rfl) T.z_bool (by decide +kernel) rfl) pa_nil)))))) (by first | rfl | (dsimp only [Cx.blk]; first | done | rfl)))) pa_nil)) (by intro _; rfl))) (pss_one (ps_ret pe_bl)) pss_nil)
 (pss_cons (ps_if (pt_cmpR (op_neD (hu65 hr)) (pe_callB cr_sortedT (by rfl) T.z_sorted (by decide +kernel) (pa_cons (pv 1) pa_nil)) (pe_listRg rfl (by rfl) T.z_list (prg_1 (by rfl) T.z_range (pe_callB call_len1 (by rfl) T.z_len (by decide +kernel) (pa_cons (pv 0) pa_nil)))) (nomark _)) (pss_one (ps_ret pe_bl)) pss_nil)
 (pss_cons (ps_for PassesOwn.never rfl (pi_enumT (by rfl) T.z_enumerate (pa_cons (pv 1) pa_nil)) (pg_tup (n := 2) rfl (pgs_cons (pg_name (i := 2) sc_law_is_order.nd rfl (by first | exact Or.inl rfl | exact Or.inr rfl)) (pgs_cons (pg_name (i := 3) sc_law_is_order.nd rfl (by first | exact Or.inl rfl | exact Or.inr rfl)) pgs_nil))) (pss_one (ps_if (pt_not (pt_truth (pe_callB (cr_all rfl) (by rfl) T.z_all (by decide +kernel) (pa_cons (pe_lc (own := [("_law_p", 5)]) rfl sc_law_is_order.nd (pi_tup (pe_ix ix_seq (pv 0) (pv 3) (fun _ _ => rfl))) (blkOk_by (own := [("_law_p", 5)]) (N := N_law_is_order) (sc := defScope s_law_is_order) (by decide +kernel)) (fun _ _ _ _ _ => (pg_name (i := 5) sc_law_is_order.nd rfl (by first | exact Or.inl rfl | exact Or.inr rfl))) (fun _ _ _ _ _ => pts_nil) (fun _ _ _ _ _ => pe_conv (pe_cmpR op_in_seq (pv 5) (pe_slice sl_any (pv 1) po_none (po_some (pv 2))) (by rfl)) (by first | rfl | (dsimp only [Cx.blk]; first | done | rfl)))) pa_nil)) (by intro _; rfl))) (pss_one (ps_ret pe_bl)) pss_nil)))
 (pss_one (ps_ret pe_bl)))))), fn_start (ps := ["_law_rows_here", "_law_thing"]) ?_ h⟩)
  rintro W es KK ⟨rows, d, rfl, ok, ⟨ty, tys⟩, k1, k0⟩
  refine ⟨rfl, ?_⟩
  show St W [.d (rowsD rows), .d d, .no, .no, .no, .no] _ _
  have hn := ok.many
  refine st_seq <| st_if <| evt_or ?_
  repeat walk_at "pd"
  refine ⟨fun hb => ?_, fun hb => ?_⟩
  · repeat walk_at "pd"
    exact k0 fun ⟨o, e, _⟩ => by subst e; cases hb
  cases d with
  | tup ds =>
    have tys := tys ds rfl
    refine evt_test <| ev_op <| ev_cb <| eva_d <| ev_var (i := 1) rfl <| eva_nil <| cd_len (.inr rfl) <| ev_cb <| eva_d <| ev_var (i := 0) rfl <| eva_nil <| cd_len (.inr rfl) <| opd_ne rfl rfl ?_
    rw [List.length_map, eqD_nat]
    refine ⟨_, rfl, fun hb => ?_, fun hb => ?_⟩
    · refine st_ret (ev_bl ?_)
      refine k0 fun ⟨o, e, _, hl⟩ => ?_
      cases e
      rw [List.length_map, hl, decide_eq_true rfl] at hb
      cases hb
    have hl : ds.length = rows.length := by simpa using hb
    refine st_next ?_
    refine st_seq <| st_if <| evt_not <| evt_tru <| Ev.b <| ev_cb <| eva_d <| EvL.ev <| evl_lc <| evi_tup <| ev_var (i := 1) rfl ⟨ds, rfl, by omega, fun i acc => acc = ((ds.take i).map isIntD).map D.bl, rfl, ?_, ?_⟩
    · rintro i q acc hq rfl _
      have tq := tys q (List.mem_of_getElem? hq)
      refine tgc_name (by simp) ?_
      show _ = _ ∧ EvT W [.d (rowsD rows), .d (.tup ds), .no, .no, .d q, .no] _ _
      refine ⟨rfl, evt_yes ⟨fun _ => ?_, (fun z => nomatch z)⟩⟩
      refine Ev.mono (K := fun d => d = .bl (isIntD q)) ?_ fun d e => by
        subst e
        rw [snoc_take hq, List.map_append, List.map_append]
        rfl
      repeat walk_at "pd"
      refine ⟨fun hb => ?_, fun hb => ?_⟩
      · repeat walk_at "pd"
        cases q <;> first | rfl | cases hb
      · cases q <;> first | rfl | cases hb
    rintro acc rfl
    rw [List.take_of_length_le (Nat.le_refl _)]
    refine eva_nil <| cd_all (bs := ds.map isIntD) rfl ?_
    have e2 : (ds.map isIntD).all id = ds.all isIntD := by rw [List.all_map]; rfl
    rw [e2]
    refine ⟨rfl, fun hb => ?_, fun hb => ?_⟩
    · have hb : (!(ds.all isIntD)) = true := hb
      refine st_ret (ev_bl ?_)
      refine k0 fun ⟨o, e, _, _⟩ => ?_
      cases e
      have : (o.map fun (k : Nat) => D.int (k : Int)).all isIntD = true := by rw [List.all_map]; exact List.all_eq_true.mpr fun _ _ => rfl
      rw [this] at hb; cases hb
    have hb : (!(ds.all isIntD)) = false := hb
    obtain ⟨zs, rfl⟩ := ints_all (ds := ds) (by simpa using hb)
    rw [List.length_map] at hl
    refine st_next ?_
    refine st_seq <| st_if <| evt_test <| ev_op <| EvL.ev <| evl_sortedT <| eva_d <| ev_var (i := 1) rfl <| eva_nil ⟨_, zs, rfl, rfl, fun ns pm up => ?_⟩
    refine EvL.ev <| evl_lstRg <| evr_1 <| ev_cb <| eva_d <| ev_var (i := 0) rfl <| eva_nil <| cd_len (.inr rfl) ⟨_, rfl, .of_le (by omega) (by rw [List.length_map]; omega) (by omega) (by rw [List.length_map]; omega), ?_⟩
    have er : intsUp 0 (((rows.map nT).length : Int) - 0).toNat = ((List.range rows.length).map fun (k : Nat) => (k : Int)).map D.int := by
      rw [List.length_map, Int.sub_zero, Int.toNat_natCast]
      unfold intsUp
      rw [List.map_map]
      exact List.map_congr_left fun k _ => by show D.int ((0 : Int) + (k : Int)) = _; rw [Int.zero_add]; rfl
    rw [er]
    refine opd_ne (ok_lstI _) (ok_lstI _) ?_
    rw [eqD_lstI]
    refine ⟨_, rfl, fun hb => ?_, fun hb => ?_⟩
    · refine st_ret (ev_bl ?_)
      refine k0 fun ⟨o, e, ho, hlo⟩ => ?_
      have e : zs.map D.int = intsD o := D.tup.inj e
      rw [nT_ints] at e
      have e : zs = o.map fun (k : Nat) => (k : Int) := by
        have := congrArg (List.map fun d => match d with | D.int i => i | _ => 0) e
        rw [List.map_map, List.map_map] at this
        exact (List.map_id' zs).symm.trans (this.trans (List.map_id' _))
      have pr := (range_perm ho.nd hlo ho.lt).map fun (k : Nat) => (k : Int)
      rw [← e] at pr
      have := up_perm (pm.trans pr) up (range_up _)
      rw [decide_eq_true this] at hb
      cases hb
    have hb : ns = (List.range rows.length).map fun (k : Nat) => (k : Int) := by simpa using hb
    subst hb
    obtain ⟨o, rfl, nd, hlo, hlt⟩ := perm_range pm
    refine st_next ?_
    rw [← nT_ints] at k1 k0 ⊢
    have hkk : ∀ (i : Nat), (∀ j k row, j < i → o[j]? = some k → rows[k]? = some row → ∀ p ∈ row, p ∈ o.take j) → i = o.length → IsOrd rows (.tup (intsD o)) := fun i h e => ⟨o, rfl, ⟨nd, hlt, fun j k row hj hr p hp => h j k row (by have := (List.getElem?_eq_some_iff.mp hj).1; omega) hj hr p hp⟩, hlo⟩
    refine st_seq <| st_for <| evi_enumT <| ev_var (i := 1) rfl ⟨intsD o, rfl, fun i G => ∃ e2 e3 : Ent, (∀ j k row, j < i → o[j]? = some k → rows[k]? = some row → ∀ p ∈ row, p ∈ o.take j) ∧ G = [.d (rowsD rows), .d (.tup (intsD o)), e2, e3, .no, .no], ⟨.no, .no, (fun j k row hj => by omega), rfl⟩, ?_, ?_⟩
    · rintro i d G' hd ⟨e2, e3, hbe, rfl⟩
      obtain ⟨u, y, hu, hy, rfl⟩ := pairsOf_of hd
      obtain ⟨hi, rfl⟩ := intsUp_of hu
      obtain ⟨x, hx, rfl⟩ := intsD_of hy
      have hxn := hlt x (List.mem_of_getElem? hx)
      have hil := (List.getElem?_eq_some_iff.mp hx).1
      have hrow : rows[x]? = some rows[x] := List.getElem?_eq_getElem hxn
      have hr6 := ok.six rows[x] (List.getElem_mem hxn)
      generalize rows[x] = row at hrow hr6
      refine tg_tup2 ?_
      rw [Int.zero_add]
      show St W [.d (rowsD rows), .d (.tup (intsD o)), .d (.int (i : Nat)), .d (.int (x : Nat)), .no, .no] _ _
      refine st_if <| evt_not <| evt_tru <| Ev.b <| ev_cb <| eva_d <| EvL.ev <| evl_lc <| evi_tup <| ev_op <| ev_var (i := 0) rfl <| ev_var (i := 3) rfl <| opd_ix (show ixD (rowsD rows) ((x : Nat) : Int) = some (nT row) from atI_of (by rw [List.getElem?_map, hrow]; rfl)) ⟨intsD row, rfl, by rw [intsD_len]; omega, fun q acc => acc = ((row.take q).map fun p => decide (p ∈ o.take i)).map D.bl, rfl, ?_, ?_⟩
      · rintro q d acc hd rfl _
        obtain ⟨p, hp, rfl⟩ := intsD_of hd
        refine tgc_name (by simp) ?_
        show _ = _ ∧ EvT W [.d (rowsD rows), .d (.tup (intsD o)), .d (.int (i : Nat)), .d (.int (x : Nat)), .no, .d (.int (p : Nat))] _ _
        refine ⟨rfl, evt_yes ⟨fun _ => ?_, (fun z => nomatch z)⟩⟩
        refine ev_op <| ev_var (i := 5) rfl <| ev_sl <| Ev.b <| ev_var (i := 1) rfl <| .inl ⟨intsD o, rfl, evo_none <| evo_some <| ev_var (i := 2) rfl ⟨(i : Nat), rfl, ?_⟩⟩
        rw [cutD_to (by rw [intsD_len]; omega), intsD_take]
        refine opd_in (ds := intsD (o.take i)) rfl rfl (natsD_flat _) ?_
        rw [show inD (.int (p : Nat)) (intsD (o.take i)) = decide (p ∈ o.take i) from inD_nats p _]
        dsimp only
        rw [if_neg (by decide), snoc_take hp, List.map_append, List.map_append]
        rfl
      rintro acc rfl
      rw [intsD_len, List.take_of_length_le (Nat.le_refl _)]
      refine eva_nil <| cd_all (bs := row.map fun p => decide (p ∈ o.take i)) rfl ?_
      rw [List.all_map]
      refine ⟨rfl, fun hb => ?_, fun hb => ?_⟩
      · have hb : (!(row.all fun p => decide (p ∈ o.take i))) = true := hb
        refine st_ret (ev_bl ?_)
        refine k0 fun ⟨o', e, ho, _⟩ => ?_
        have e : o = o' := intsD_inj (D.tup.inj e)
        subst e
        have : (row.all fun p => decide (p ∈ o.take i)) = true := List.all_eq_true.mpr fun p hp => decide_eq_true (ho.be i x row hx hrow p hp)
        rw [this] at hb; cases hb
      · have hb : (!(row.all fun p => decide (p ∈ o.take i))) = false := hb
        have hb : (row.all fun p => decide (p ∈ o.take i)) = true := by simpa using hb
        refine st_next ⟨_, _, fun j k row' hj hk hkr p hp => ?_, rfl⟩
        rcases Nat.lt_succ_iff_lt_or_eq.mp hj with z | rfl
        · exact hbe j k row' z hk hkr p hp
        · rw [hx] at hk; cases hk
          rw [hrow] at hkr; cases hkr
          exact of_decide_eq_true (List.all_eq_true.mp hb p hp)
    · rintro G' ⟨e2, e3, hbe, rfl⟩
      rw [pairsOf_len, intsUp_len, intsD_len, Nat.min_self] at hbe
      exact st_ret <| ev_bl <| k1 (hkk _ hbe rfl)
  | _ => cases hb
/-! ### _law_word -/
abbrev s_law_word : Stmt := topS 30
abbrev N_law_word : List Str := ["_law_book", "_law_order_here", "_law_word_here", "e"]
theorem sc_law_word : FnScope N_law_word ["_law_book", "_law_order_here"] (defScope s_law_word) := ⟨rfl, rfl, rfl, by decide +kernel, rfl, by decide +kernel, by decide +kernel⟩
def pre_law_word (K : PySem.W.Frag) (CBook : Addr) (CKindError : Addr) (CNoOrder : Addr) : Wd → List Ent → (D → Prop) → Prop := fun _ es KK => ∃ (rows : List (List Nat)) (d : D), es = [.d (bookD CBook rows), .d d] ∧ BookOk rows ∧ AnyD K d ∧ (IsOrd rows d → KK (.str "let")) ∧ (¬ IsOrd rows d → KK (.str "order"))
theorem len_law_word (K : PySem.W.Frag) (CBook : Addr) (CKindError : Addr) (CNoOrder : Addr) : ∀ W es KK, pre_law_word K CBook CKindError CNoOrder W es KK → es.length = 2 := by rintro W es K ⟨w, d, rfl, _⟩; rfl
abbrev sp_law_word (K : PySem.W.Frag) (CBook : Addr) (CKindError : Addr) (CNoOrder : Addr) : Sp := FSp (pre_law_word K CBook CKindError CNoOrder)
theorem ok_law_word {f : Addr} {fd : FuncData} (F : Fun K "_law_word" "_law_word" s_law_word f fd) (T : Txt K mg CBook CKindError CNoOrder) (h_reordered : HasX P w K mg base 9 "reordered" ["book", "order"] (sp_reordered K CBook CKindError CNoOrder)) : FnOk P w K mg base CX0 10 f fd ["_law_book", "_law_order_here"] (sp_law_word K CBook CKindError CNoOrder) := by
  refine F.ok sc_law_word (fun vs H Q E h => fn_len (n := 2) (len_law_word K CBook CKindError CNoOrder) h) (fun cdv A outer s H vs Q E hr h => ⟨_, (pss_cons (ps_set (i := 2) sc_law_word.nd rfl (by first | exact Or.inl rfl | exact Or.inr rfl) pe_str)
 (pss_cons (ps_try_cl rfl rfl sc_law_word.nd takes0 (fun W pn xe tk _ => (pss_one (ps_expr (pe_hasS tk h_reordered (hr.mono (by decide)) (pa_cons (pv 0) (pa_cons (pv 1) pa_nil)))))) (.named (i := 3) rfl rfl ⟨rfl, by decide, .inl T.g_NoOrder⟩ (fun a oe cls d pn hz hf => (pss_one (ps_set (i := 2) sc_law_word.nd rfl (by first | exact Or.inl rfl | exact Or.inr rfl) (pe_ifExp (PW.pt (pw_and (pt_truthS (K' := K) rfl (pe_callB (call_isEG (X := (cxOf CX0 P w K mg base N_law_word "_law_word" (defScope s_law_word) f cdv A outer s H E).nox) (a := a) (oe := oe) (pn := pn) hz hf) (by rfl) T.z_isinstance (by decide +kernel) (pa_cons (pv 3) (pa_cons (pe_glob (v := .ref CKindError) (by rfl) T.g_KindError rfl) pa_nil))) (by intro _; rfl)) (pw_and1 (pt_truthS (K' := K) rfl (pe_callB (call_isEG (X := (cxOf CX0 P w K mg base N_law_word "_law_word" (defScope s_law_word) f cdv A outer s H E).nox) (a := a) (oe := oe) (pn := pn) hz hf) (by rfl) T.z_isinstance (by decide +kernel) (pa_cons (pv 3) (pa_cons (pe_bltn (v := .ty "ValueError") (by rfl) T.z_ValueError (by decide +kernel) rfl) pa_nil))) (by intro _; rfl))))) pe_str pe_str)))) (.bare ⟨rfl, by decide, .inl T.g_KindError⟩ (fun a oe cls d pn hz hf => (pss_one (ps_set (i := 2) sc_law_word.nd rfl (by first | exact Or.inl rfl | exact Or.inr rfl) pe_str))) .nil)))
 (pss_one (ps_ret (pv 2))))), fn_start (ps := ["_law_book", "_law_order_here"]) ?_ h⟩)
  rintro W es KK ⟨rows, d, rfl, ok, td, k1, k0⟩
  refine ⟨rfl, ?_⟩
  show St W [.d (bookD CBook rows), .d d, .no, .no] _ _
  refine st_seq <| st_asg <| ev_str ?_
  refine st_seq ?_
  refine st_tryCl rfl (fun G' C fs => G' = [.d (bookD CBook rows), .d d, .d (.str "let"), .no] ∧ fs = [] ∧ C = CNoOrder ∧ ¬ IsOrd rows d) (fun Wx => ?_) ?_
  · refine st_dropX <| evx_call <| eva_d <| ev_var (i := 0) rfl <| eva_d <| ev_var (i := 1) rfl <| eva_nil ⟨rfl, rows, d, rfl, ok, td, fun o e ho hl => st_ret (ev_var (i := 2) rfl (k1 ⟨o, e, ho, hl⟩)), fun h => ⟨rfl, rfl, rfl, h⟩⟩
  · rintro G' C fs ⟨rfl, rfl, rfl, hno⟩
    refine ⟨true, T.m_NoOrder_NoOrder, fun _ ad dd hd => ?_, (fun z => nomatch z)⟩
    have hdn : dd = none := hd.mpr rfl
    subst hdn
    show St W [.d (bookD CBook rows), .d d, .d (.str "let"), .raw (.ref ad)] _ _
    dsimp only
    refine st_asg (ev_if ?_)
    refine evt_and <| evt_tru <| Ev.b <| ev_isE (i := 3) rfl T.e_NoOrder (fun u r => r) T.k_NoOrder_KindError ⟨rfl, fun _ => ?_, (fun z => nomatch z)⟩
    refine evt_tru <| Ev.b <| ev_isE (i := 3) rfl T.e_NoOrder (fun u r => r) T.k_NoOrder_ValueError ⟨rfl, fun _ => ev_str ?_, (fun z => nomatch z)⟩
    show St W [.d (bookD CBook rows), .d d, .d (.str "order"), .no] _ _
    exact st_ret (ev_var (i := 2) rfl (k0 hno))
/-! ### _law_bent -/
abbrev s_law_bent : Stmt := topS 31
abbrev N_law_bent : List Str := ["_law_tape_here", "_law_order_here", "_law_things", "_law_at", "_law_odd"]
theorem sc_law_bent : FnScope N_law_bent ["_law_tape_here", "_law_order_here"] (defScope s_law_bent) := ⟨rfl, rfl, rfl, by decide +kernel, rfl, by decide +kernel, by decide +kernel⟩
theorem any_nT {K : PySem.W.Frag} (o : List Nat) : AnyD K (nT o) := ⟨trivial, fun vs e x hx => by
  have e : intsD o = vs := D.tup.inj e
  subst e
  obtain ⟨i, hi⟩ := List.getElem?_of_mem hx
  obtain ⟨k, _, rfl⟩ := intsD_of hi
  trivial⟩
theorem any_tupI {K : PySem.W.Frag} {ds : List D} (h : ∀ x ∈ ds, TyOk K x) : AnyD K (.tup ds) := ⟨trivial, fun vs e => by cases e; exact h⟩
theorem ty_ints {K : PySem.W.Frag} (o : List Nat) : ∀ x ∈ intsD o, TyOk K x := fun x hx => (any_nT (K := K) o).2 _ rfl x hx
theorem cutD_ty {K : PySem.W.Frag} {xs : List D} {lo hi : Option Int} (h : ∀ x ∈ xs, TyOk K x) : ∀ x ∈ cutD xs lo hi, TyOk K x := fun x hx => h x (by
  unfold Pd.cutD at hx
  exact List.mem_of_mem_drop (List.mem_of_mem_take hx))
theorem app_ty {K : PySem.W.Frag} {xs ys : List D} (h1 : ∀ x ∈ xs, TyOk K x) (h2 : ∀ x ∈ ys, TyOk K x) : ∀ x ∈ xs ++ ys, TyOk K x := fun x hx => (List.mem_append.mp hx).elim (h1 x) (h2 x)
theorem cutD_le (xs : List D) (lo hi : Option Int) : (cutD xs lo hi).length ≤ xs.length := by
  unfold Pd.cutD
  rw [List.length_take, List.length_drop]; omega
def pre_law_bent (K : PySem.W.Frag) (CBook : Addr) (CKindError : Addr) (CNoOrder : Addr) : Wd → List Ent → (D → Prop) → Prop := fun W es KK => ∃ (t c : Addr) (o : List Nat), W = tapeW t c ∧ es = [.raw (.ref t), .d (nT o)] ∧ o.length ≤ 400 ∧ ∀ d, AnyD K d → KK d
theorem len_law_bent (K : PySem.W.Frag) (CBook : Addr) (CKindError : Addr) (CNoOrder : Addr) : ∀ W es KK, pre_law_bent K CBook CKindError CNoOrder W es KK → es.length = 2 := by rintro W es K ⟨t, c, o, _, rfl, _⟩; rfl
abbrev sp_law_bent (K : PySem.W.Frag) (CBook : Addr) (CKindError : Addr) (CNoOrder : Addr) : Sp := FSp (pre_law_bent K CBook CKindError CNoOrder)
theorem ok_law_bent {f : Addr} {fd : FuncData} (F : Fun K "_law_bent" "_law_bent" s_law_bent f fd) (T : Txt K mg CBook CKindError CNoOrder) (h_law_pick : Has P w K mg base 1 "_law_pick" ["_law_tape_here", "_law_many"] (sp_law_pick K CBook CKindError CNoOrder)) (h_law_deep : Has P w K mg base 2 "_law_deep" ["_law_tape_here"] (sp_law_deep K CBook CKindError CNoOrder)) : FnOk P w K mg base CX0 3 f fd ["_law_tape_here", "_law_order_here"] (sp_law_bent K CBook CKindError CNoOrder) := by
  refine F.ok sc_law_bent (fun vs H Q E h => fn_len (n := 2) (len_law_bent K CBook CKindError CNoOrder) h) (fun cdv A outer s H vs Q E hr h => ⟨_, (pss_cons (ps_set (i := 2) sc_law_bent.nd rfl (by first | exact Or.inl rfl | exact Or.inr rfl) (pe_lst (pa_cons (pe_callTy call_lst1 (by rfl) T.z_list (by decide +kernel) (pa_cons (pv 1) pa_nil)) (pa_cons pe_non (pa_cons (pe_slice sl_any (pv 1) po_none (po_some (pe_un un_neg pe_int))) (pa_cons (pe_op op_plus (pv 1) (pe_slice sl_any (pv 1) po_none (po_some pe_int))) (pa_cons (pe_revT (pv 1)) (pa_cons (pe_op op_plus (pe_slice sl_any (pv 1) (po_some pe_int) po_none) (pe_slice sl_any (pv 1) po_none (po_some pe_int))) (pa_cons pe_int (pa_cons pe_str (pa_cons pe_dnewK pa_nil)))))))))))
 (pss_cons (ps_if (pt_cmpR op_gt (pe_callB call_len1 (by rfl) T.z_len (by decide +kernel) (pa_cons (pv 1) pa_nil)) pe_int (nomark _)) (pss_cons (ps_set (i := 3) sc_law_bent.nd rfl (by first | exact Or.inl rfl | exact Or.inr rfl) (pe_has h_law_pick (hr.mono (by decide)) (pa_cons (pv 0) (pa_cons (pe_op op_sub (pe_callB call_len1 (by rfl) T.z_len (by decide +kernel) (pa_cons (pv 1) pa_nil)) pe_int) pa_nil))))
 (pss_cons (ps_set (i := 4) sc_law_bent.nd rfl (by first | exact Or.inl rfl | exact Or.inr rfl) (pe_ix ix_seq (pe_lst (pa_cons pe_bl (pa_cons pe_non (pa_cons (pe_un un_neg pe_int) (pa_cons (pe_callB call_len1 (by rfl) T.z_len (by decide +kernel) (pa_cons (pv 1) pa_nil)) (pa_cons pe_str (pa_cons (pe_ix ix_seq (pv 1) (pe_op op_plus (pv 3) pe_int) (fun _ _ => rfl)) pa_nil))))))) (pe_has h_law_pick (hr.mono (by decide)) (pa_cons (pv 0) (pa_cons pe_int pa_nil))) (fun _ _ => rfl)))
 (pss_cons (ps_set (i := 2) sc_law_bent.nd rfl (by first | exact Or.inl rfl | exact Or.inr rfl) (pe_op op_plus (pv 2) (pe_op op_times (pe_lst (pa_cons (pe_op op_plus (pe_op op_plus (pe_slice sl_any (pv 1) po_none (po_some (pv 3))) (pe_tup (pa_cons (pe_ix ix_seq (pv 1) (pe_op op_plus (pv 3) pe_int) (fun _ _ => rfl)) (pa_cons (pe_ix ix_seq (pv 1) (pv 3) (fun _ _ => rfl)) pa_nil)))) (pe_slice sl_any (pv 1) (po_some (pe_op op_plus (pv 3) pe_int)) po_none)) pa_nil)) pe_int)))
 (pss_one (ps_set (i := 2) sc_law_bent.nd rfl (by first | exact Or.inl rfl | exact Or.inr rfl) (pe_op op_plus (pv 2) (pe_op op_times (pe_lst (pa_cons (pe_op op_plus (pe_op op_plus (pe_slice sl_any (pv 1) po_none (po_some (pv 3))) (pe_tup (pa_cons (pv 4) pa_nil))) (pe_slice sl_any (pv 1) (po_some (pe_op op_plus (pv 3) pe_int)) po_none)) pa_nil)) pe_int))))))) pss_nil)
 (pss_one (ps_ret (pe_ix ix_seq (pe_op op_plus (pv 2) (pe_lst (pa_cons (pe_has h_law_deep (hr.mono (by decide)) (pa_cons (pv 0) pa_nil)) pa_nil))) (pe_has h_law_pick (hr.mono (by decide)) (pa_cons (pv 0) (pa_cons (pe_op op_plus (pe_callB call_len1 (by rfl) T.z_len (by decide +kernel) (pa_cons (pv 2) pa_nil)) pe_int) pa_nil))) (fun _ _ => rfl)))))), fn_start (ps := ["_law_tape_here", "_law_order_here"]) ?_ h⟩)
  rintro W es KK ⟨t, c, o, rfl, rfl, hl, k⟩
  refine ⟨rfl, ?_⟩
  have hlo : (intsD o).length ≤ 400 := by rw [intsD_len]; exact hl
  have tyo : ∀ x ∈ intsD o, TyOk K x := ty_ints o
  show St (tapeW t c) [.raw (.ref t), .d (.tup (intsD o)), .no, .no, .no] _ _
  have flat : ∀ {d : D}, TyOk K d → (∀ vs, d ≠ .tup vs) → AnyD K d := fun h n => ⟨h, fun vs e => absurd e (n vs)⟩
  have cut : ∀ lo hi, ∀ x ∈ cutD (intsD o) lo hi, TyOk K x := fun lo hi => cutD_ty tyo
  have cl : ∀ lo hi, (cutD (intsD o) lo hi).length ≤ 400 := fun lo hi => Nat.le_trans (cutD_le _ _ _) hlo
  refine st_seq <| st_asg <| Ev.mono (K := fun x => ∃ ds, x = .lst ds ∧ ds.length = 9 ∧ ∀ y ∈ ds, AnyD K y) (EvL.ev <| evl_lst <| eva_d <| EvL.ev <| evl_listOf <| eva_d <| ev_var (i := 1) rfl <| eva_nil ⟨_, intsD o, rfl, .inr rfl, eva_d <| ev_non ?_⟩) ?_
  · refine eva_d <| ev_sl <| Ev.b <| ev_var (i := 1) rfl <| .inl ⟨intsD o, rfl, evo_none <| evo_some <| ev_un <| ev_int <| und_neg ⟨_, rfl, ?_⟩⟩
    refine eva_d <| ev_op <| ev_var (i := 1) rfl <| ev_sl <| Ev.b <| ev_var (i := 1) rfl <| .inl ⟨intsD o, rfl, evo_none <| evo_some <| ev_int ⟨1, rfl, ?_⟩⟩
    refine opd_plusT (xs := intsD o) (ys := cutD (intsD o) none (some 1)) (by have := cl none (some 1); omega) ?_
    refine eva_d <| ev_revT <| ev_var (i := 1) rfl ⟨intsD o, rfl, ?_⟩
    refine eva_d <| ev_op <| ev_sl <| Ev.b <| ev_var (i := 1) rfl <| .inl ⟨intsD o, rfl, evo_some <| ev_int ⟨1, rfl, evo_none ?_⟩⟩
    refine ev_sl <| Ev.b <| ev_var (i := 1) rfl <| .inl ⟨intsD o, rfl, evo_none <| evo_some <| ev_int ⟨1, rfl, ?_⟩⟩
    refine opd_plusT (xs := cutD (intsD o) (some 1) none) (ys := cutD (intsD o) none (some 1)) (by have := cl none (some 1); have := cl (some 1) none; omega) ?_
    refine eva_d <| ev_int <| eva_d <| ev_str <| eva_d <| ev_dnew <| eva_nil ⟨_, rfl, Nat.le_of_ble_eq_true rfl, _, rfl, rfl, fun y hy => ?_⟩
    simp only [List.mem_cons, List.not_mem_nil, or_false] at hy
    rcases hy with rfl | rfl | rfl | rfl | rfl | rfl | rfl | rfl | rfl
    · exact flat trivial (fun _ z => by cases z)
    · exact flat trivial (fun _ z => by cases z)
    · exact any_tupI (cut _ _)
    · exact any_tupI (app_ty tyo (cut _ _))
    · exact any_tupI fun x hx => tyo x (List.mem_reverse.mp hx)
    · exact any_tupI (app_ty (cut _ _) (cut _ _))
    · exact flat trivial (fun _ z => by cases z)
    · exact flat trivial (fun _ z => by cases z)
    · exact flat trivial (fun _ z => by cases z)
  rintro x ⟨ds, rfl, h9, hds⟩
  show St (tapeW t c) [.raw (.ref t), .d (.tup (intsD o)), .d (.lst ds), .no, .no] _ _
  refine st_cut (fun G' => ∃ (es : List D) (e3 e4 : Ent), es.length ≤ 20 ∧ (∀ y ∈ es, AnyD K y) ∧ G' = [.raw (.ref t), .d (.tup (intsD o)), .d (.lst es), e3, e4]) ?_ ?_
  · refine st_if <| evt_test <| ev_op <| ev_cb <| eva_d <| ev_var (i := 1) rfl <| eva_nil <| cd_len (.inr rfl) <| ev_int <| opd_gt ⟨_, rfl, fun hb => ?_, fun _ => st_next ⟨ds, _, _, by omega, hds, rfl⟩⟩
    have hb := of_decide_eq_true hb
    rw [intsD_len] at hb
    refine st_seq <| st_asg <| ev_call <| eva_cons <| eve_raw (i := 0) rfl <| eva_d <| ev_op <| ev_cb <| eva_d <| ev_var (i := 1) rfl <| eva_nil <| cd_len (.inr rfl) <| ev_int <| opd_sub <| eva_nil ⟨rfl, pick_ok (o.length - 1) (by rw [intsD_len]; omega) (by omega) (by omega) fun q hq => ?_⟩
    show St (tapeW t c) [.raw (.ref t), .d (.tup (intsD o)), .d (.lst ds), .d (.int (q : Nat)), .no] _ _
    have at0 : ixD (.tup (intsD o)) ((q : Nat) : Int) = some (.int (o[q]'(by omega) : Nat)) := atI_of (by unfold intsD; rw [List.getElem?_map, List.getElem?_eq_getElem (by omega)]; rfl)
    have at1 : ixD (.tup (intsD o)) ((q + 1 : Nat) : Int) = some (.int (o[q + 1]'(by omega) : Nat)) := atI_of (by unfold intsD; rw [List.getElem?_map, List.getElem?_eq_getElem (by omega)]; rfl)
    generalize o[q]'(by omega) = o0 at at0
    generalize o[q + 1]'(by omega) = o1 at at1
    have q1 : ((q : Int) + 1) = ((q + 1 : Nat) : Int) := by omega
    refine st_seq <| st_asg <| Ev.mono (K := fun x => TyOk K x) (ev_op <| EvL.ev <| evl_lst <| eva_d <| ev_bl <| eva_d <| ev_non <| eva_d <| ev_un <| ev_int <| und_neg <| eva_d <| ev_cb <| eva_d <| ev_var (i := 1) rfl <| eva_nil <| cd_len (.inr rfl) <| eva_d <| ev_str <| eva_d <| ev_op <| ev_var (i := 1) rfl <| ev_op <| ev_var (i := 3) rfl <| ev_int <| opd_plusI ?_) ?_
    · rw [q1]
      refine opd_ix at1 <| eva_nil ⟨_, rfl, Nat.le_of_ble_eq_true rfl, ?_⟩
      refine ev_call <| eva_cons <| eve_raw (i := 0) rfl <| eva_d <| ev_int <| eva_nil ⟨rfl, pick_ok 6 rfl (by decide) (by decide) fun r hr => ?_⟩
      have all : ∀ x ∈ ([.bl true, .non, .int (-1), .int ((intsD o).length : Int), .str "0", .int (o1 : Nat)] : List D), TyOk K x := fun x hx => by
        simp only [List.mem_cons, List.not_mem_nil, or_false] at hx
        rcases hx with rfl | rfl | rfl | rfl | rfl | rfl <;> trivial
      exact opd_ix (d := ([.bl true, .non, .int (-1), .int ((intsD o).length : Int), .str "0", .int (o1 : Nat)] : List D)[r]) (atI_of (List.getElem?_eq_getElem (by show r < 6; exact hr))) (all _ (List.getElem_mem _))
    rintro od tod
    show St (tapeW t c) [.raw (.ref t), .d (.tup (intsD o)), .d (.lst ds), .d (.int (q : Nat)), .d od] _ _
    refine st_seq <| st_asg <| Ev.mono (K := fun x => ∃ es, x = .lst es ∧ es.length = 13 ∧ ∀ y ∈ es, AnyD K y) (ev_op <| ev_var (i := 2) rfl <| ev_op <| EvL.ev <| evl_lst <| eva_d <| ev_op <| ev_op <| ev_sl <| Ev.b <| ev_var (i := 1) rfl <| .inl ⟨intsD o, rfl, evo_none <| evo_some <| ev_var (i := 3) rfl ⟨(q : Nat), rfl, ?_⟩⟩) ?_
    · refine ev_tup <| eva_d <| ev_op <| ev_var (i := 1) rfl <| ev_op <| ev_var (i := 3) rfl <| ev_int <| opd_plusI ?_
      rw [q1]
      refine opd_ix at1 <| eva_d <| ev_op <| ev_var (i := 1) rfl <| ev_var (i := 3) rfl <| opd_ix at0 <| eva_nil ⟨_, rfl, Nat.le_of_ble_eq_true rfl, ?_⟩
      refine opd_plusT (xs := cutD (intsD o) none (some ((q : Nat) : Int))) (ys := [.int (o1 : Nat), .int (o0 : Nat)]) (by have := cl none (some ((q : Nat) : Int)); show _ + 2 ≤ _; omega) ?_
      refine ev_sl <| Ev.b <| ev_var (i := 1) rfl <| .inl ⟨intsD o, rfl, evo_some <| ev_op <| ev_var (i := 3) rfl <| ev_int <| opd_plusI ⟨_, rfl, evo_none ?_⟩⟩
      refine opd_plusT (xs := cutD (intsD o) none (some ((q : Nat) : Int)) ++ [.int (o1 : Nat), .int (o0 : Nat)]) (ys := cutD (intsD o) (some ((q : Int) + 2)) none) (by have := cl none (some ((q : Nat) : Int)); have := cl (some ((q : Int) + 2)) none; rw [List.length_append]; show _ + 2 + _ ≤ _; omega) ?_
      refine eva_nil ⟨_, rfl, Nat.le_of_ble_eq_true rfl, ev_int <| opd_timesL (by decide) (by decide) (Nat.le_of_ble_eq_true rfl) <| opd_plusL (by rw [h9]; exact Nat.le_of_ble_eq_true rfl) ⟨_, rfl, by rw [List.length_append, h9]; rfl, fun y hy => ?_⟩⟩
      rcases List.mem_append.mp hy with z | z
      · exact hds y z
      · obtain ⟨l, hl1, hl2⟩ := List.mem_flatten.mp z
        rw [(List.mem_replicate.mp hl1).2] at hl2
        rw [List.mem_singleton.mp hl2]
        exact any_tupI (app_ty (app_ty (cut _ _) fun x hx => by
          simp only [List.mem_cons, List.not_mem_nil, or_false] at hx
          rcases hx with rfl | rfl <;> trivial) (cut _ _))
    rintro x ⟨es, rfl, h13, hes⟩
    show St (tapeW t c) [.raw (.ref t), .d (.tup (intsD o)), .d (.lst es), .d (.int (q : Nat)), .d od] _ _
    refine st_asg <| ev_op <| ev_var (i := 2) rfl <| ev_op <| EvL.ev <| evl_lst <| eva_d <| ev_op <| ev_op <| ev_sl <| Ev.b <| ev_var (i := 1) rfl <| .inl ⟨intsD o, rfl, evo_none <| evo_some <| ev_var (i := 3) rfl ⟨(q : Nat), rfl, ?_⟩⟩
    refine ev_tup <| eva_d <| ev_var (i := 4) rfl <| eva_nil ⟨_, rfl, Nat.le_of_ble_eq_true rfl, ?_⟩
    refine opd_plusT (xs := cutD (intsD o) none (some ((q : Nat) : Int))) (ys := [od]) (by have := cl none (some ((q : Nat) : Int)); show _ + 1 ≤ _; omega) ?_
    refine ev_sl <| Ev.b <| ev_var (i := 1) rfl <| .inl ⟨intsD o, rfl, evo_some <| ev_op <| ev_var (i := 3) rfl <| ev_int <| opd_plusI ⟨_, rfl, evo_none ?_⟩⟩
    refine opd_plusT (xs := cutD (intsD o) none (some ((q : Nat) : Int)) ++ [od]) (ys := cutD (intsD o) (some ((q : Int) + 1)) none) (by have := cl none (some ((q : Nat) : Int)); have := cl (some ((q : Int) + 1)) none; rw [List.length_append]; show _ + 1 + _ ≤ _; omega) ?_
    refine eva_nil ⟨_, rfl, Nat.le_of_ble_eq_true rfl, ev_int <| opd_timesL (by decide) (by decide) (Nat.le_of_ble_eq_true rfl) <| opd_plusL (by rw [h13]; exact Nat.le_of_ble_eq_true rfl) ⟨_, _, _, ?_, fun y hy => ?_, rfl⟩⟩
    · rw [List.length_append, h13]; exact Nat.le_of_ble_eq_true rfl
    rcases List.mem_append.mp hy with z | z
    · exact hes y z
    · obtain ⟨l, hl1, hl2⟩ := List.mem_flatten.mp z
      rw [(List.mem_replicate.mp hl1).2] at hl2
      rw [List.mem_singleton.mp hl2]
      exact any_tupI (app_ty (app_ty (cut _ _) fun x hx => by rw [List.mem_singleton.mp hx]; exact tod) (cut _ _))
  rintro G' ⟨es, e3, e4, hel, hes, rfl⟩
  refine st_ret <| ev_op <| ev_op <| ev_var (i := 2) rfl <| EvL.ev <| evl_lst <| eva_d <| ev_call <| eva_cons <| eve_raw (i := 0) rfl <| eva_nil ⟨rfl, deep_ok fun dd hdd => eva_nil ⟨_, rfl, Nat.le_of_ble_eq_true rfl, opd_plusL (by show es.length + 1 ≤ _; omega) ?_⟩⟩
  refine ev_call <| eva_cons <| eve_raw (i := 0) rfl <| eva_d <| ev_op <| ev_cb <| eva_d <| ev_var (i := 2) rfl <| eva_nil <| cd_len (.inl rfl) <| ev_int <| opd_plusI <| eva_nil ⟨rfl, pick_ok (es.length + 1) (by omega) (by omega) (by omega) fun r hr => ?_⟩
  have hr2 : r < (es ++ [dd]).length := by rw [List.length_append]; exact hr
  refine opd_ix (d := (es ++ [dd])[r]) (atI_of (List.getElem?_eq_getElem hr2)) (k _ ?_)
  rcases List.mem_append.mp (List.getElem_mem hr2) with z | z
  · exact hes _ z
  · rw [List.mem_singleton.mp z]; exact hdd
/-! ### _law_reordered_right -/
abbrev s_law_reordered_right : Stmt := topS 32
abbrev N_law_reordered_right : List Str := ["_law_tape_here", "_law_rows_here", "_law_book", "_law_order_here", "_law_told", "_law_place", "_law_due", "_law_above_here", "_law_other", "_law_x", "_law_p"]
theorem sc_law_reordered_right : FnScope N_law_reordered_right ["_law_tape_here", "_law_rows_here"] (defScope s_law_reordered_right) := ⟨rfl, rfl, rfl, by decide +kernel, rfl, by decide +kernel, by decide +kernel⟩
theorem rows_at {rs : List (List Nat)} {x : Nat} {row : List Nat} (h : rs[x]? = some row) : ixD (rowsD rs) ((x : Nat) : Int) = some (nT row) := atI_of (by rw [List.getElem?_map, h]; rfl)
mutual
theorem easy_ok : ∀ {n : Nat} {d : D}, easy n d = true → Pd.plain d = true ∧ (toP d).canLay0 = true ∧ (toP d).depth ≤ n ∧ PyData.eqv (toP d) (toP d) = true
  | n, .non, _ => ⟨rfl, rfl, Nat.zero_le _, rfl⟩
  | n, .bl b, _ => ⟨rfl, rfl, Nat.zero_le _, beq_self_eq_true b⟩
  | n, .int i, _ => ⟨rfl, rfl, Nat.zero_le _, beq_self_eq_true i⟩
  | n + 1, .tup ds, h => by
    have h' : (decide (ds.length < 100000) && easys n ds) = true := h
    obtain ⟨a, b, c, e⟩ := easys_ok (Bool.and_eq_true_iff.mp h').2
    exact ⟨a, b, Nat.succ_le_succ c, e⟩
  | n + 1, .lst ds, h => by
    have h' : (decide (ds.length < 100000) && easys n ds) = true := h
    obtain ⟨a, b, c, e⟩ := easys_ok (Bool.and_eq_true_iff.mp h').2
    exact ⟨a, b, Nat.succ_le_succ c, e⟩
  | 0, .tup ds, h => by cases h
  | 0, .lst ds, h => by cases h
  | n, .str _, h => by cases n <;> cases h
  | n, .dct, h => by cases n <;> cases h
  | n, .rg _ _, h => by cases n <;> cases h
  | n, .obj _ _ _, h => by cases n <;> cases h
theorem easys_ok : ∀ {n : Nat} {ds : List D}, easys n ds = true → Pd.plains ds = true ∧ PyData.canLayAll0 (toPs ds) = true ∧ PyData.depthAll (toPs ds) ≤ n ∧ PyData.eqvAll (toPs ds) (toPs ds) = true
  | n, [], _ => ⟨rfl, rfl, Nat.zero_le _, rfl⟩
  | n, d :: ds, h => by
    rw [easys] at h
    obtain ⟨h1, h2⟩ := Bool.and_eq_true_iff.mp h
    obtain ⟨a, b, c, e⟩ := easy_ok h1
    obtain ⟨a', b', c', e'⟩ := easys_ok h2
    refine ⟨?_, ?_, Nat.max_le.mpr ⟨c, c'⟩, ?_⟩
    · rw [Pd.plains, a, a']; rfl
    · rw [toPs, PyData.canLayAll0, b, b']; rfl
    · rw [toPs, PyData.eqvAll, e, e']; rfl
end
theorem easy_okD {n : Nat} {d : D} (h : easy n d = true) (hn : n ≤ 64) : okD d = true := by
  obtain ⟨a, b, c, e⟩ := easy_ok h
  unfold okD
  rw [a]
  show (PyData.canLay0 _ && decide _) = true
  rw [b]
  simp; omega
theorem easy_eqD {n : Nat} {d : D} (h : easy n d = true) : eqD d d = true := (easy_ok h).2.2.2
theorem easys_all {n : Nat} : ∀ {ds : List D}, (∀ d ∈ ds, easy n d = true) → easys n ds = true
  | [], _ => rfl
  | d :: ds, h => by rw [easys, h d (List.mem_cons_self ..), easys_all fun x hx => h x (List.mem_cons_of_mem _ hx)]; rfl
theorem easy_flags (n m : Nat) (f : Nat → Bool) (h : m < 100000) : easy (n + 1) (.lst (flagsL m f)) = true := by
  show (decide ((flagsL m f).length < 100000) && easys n (flagsL m f)) = true
  rw [flagsL_len, decide_eq_true h, easys_all fun d hd => ?_]
  · rfl
  · obtain ⟨p, _, rfl⟩ := List.mem_map.mp hd
    cases n <;> rfl
theorem easy_aboveD {rows : List (List Nat)} (h : rows.length < 100000) : easy 2 (aboveD rows) = true := by
  show (decide ((aboveL rows rows.length).length < 100000) && easys 1 (aboveL rows rows.length)) = true
  rw [aboveL_len, decide_eq_true h, easys_all fun d hd => ?_]
  · rfl
  · obtain ⟨p, _, rfl⟩ := List.mem_map.mp hd
    exact easy_flags 0 _ _ h
theorem easy_nT (n : Nat) {r : List Nat} (h : r.length < 100000) : easy (n + 1) (nT r) = true := by
  show (decide ((r.map fun (k : Nat) => D.int (k : Int)).length < 100000) && easys n _) = true
  rw [List.length_map, decide_eq_true h, easys_all fun d hd => ?_]
  · rfl
  · obtain ⟨p, _, rfl⟩ := List.mem_map.mp hd
    cases n <;> rfl
theorem easy_rowsD {rows : List (List Nat)} (h : BookOk rows) : easy 2 (rowsD rows) = true := by
  have hm := h.many
  show (decide ((rows.map nT).length < 100000) && easys 1 (rows.map nT)) = true
  rw [List.length_map, decide_eq_true (by omega), easys_all fun d hd => ?_]
  · rfl
  · obtain ⟨r, hr, rfl⟩ := List.mem_map.mp hd
    have := h.six r hr
    exact easy_nT 0 (by omega)
/-- the places of an order's kinds: an order of the reordered book -/
theorem places_ord {rows : List (List Nat)} {o ps : List Nat} (ok : BookOk rows) (ho : OrdOk rows o) (hl : o.length = rows.length) (hp : ps.length = rows.length) (hps : ∀ (i p : Nat), ps[i]? = some p → o[p]? = some i) : OrdOk (reO rows o) ps := by
  refine ⟨?_, fun k hk => ?_, fun j k row hj hr p hpr => ?_⟩
  · refine List.pairwise_iff_getElem.mpr fun i j hi hj hij e => ?_
    have h1 := hps i _ (List.getElem?_eq_getElem hi)
    have h2 := hps j _ (List.getElem?_eq_getElem hj)
    rw [e, h2] at h1
    have := Option.some.inj h1
    omega
  · obtain ⟨i, hi⟩ := List.getElem?_of_mem hk
    have := (List.getElem?_eq_some_iff.mp (hps i k hi)).1
    rw [reO_len]; exact this
  · have hjk := hps j k hj
    rw [reO_get hjk] at hr
    cases hr
    have hjn := ho.lt j (List.mem_of_getElem? hjk)
    have hrow := List.getElem?_eq_getElem hjn
    obtain ⟨q, h1, h2⟩ := (reRow_mem hrow).mp hpr
    have hqj := ok.ok j _ hrow q h2
    have hql : q < ps.length := by omega
    have h3 := hps q _ (List.getElem?_eq_getElem hql)
    have e : p = ps[q] := ord_inj ho h1 h3
    rw [e]
    exact List.mem_iff_getElem.mpr ⟨q, by rw [List.length_take]; omega, by rw [List.getElem_take]⟩
theorem places_back {rows : List (List Nat)} {o ps : List Nat} (ok : BookOk rows) (ho : OrdOk rows o) (hl : o.length = rows.length) (hp : ps.length = rows.length) (hps : ∀ (i p : Nat), ps[i]? = some p → o[p]? = some i) : reO (reO rows o) ps = rows := by
  refine List.ext_getElem? fun x => ?_
  by_cases hx : x < rows.length
  · have hxp : ps[x]? = some ps[x] := List.getElem?_eq_getElem (by omega)
    have h1 := hps x _ hxp
    have hrow := List.getElem?_eq_getElem hx
    rw [reO_get hxp, hrow]
    refine congrArg some (Bm.rising_ext (reRow_up _ _ _) (ok.up _ (List.getElem_mem hx)) fun j => ?_)
    rw [reRow_mem (reO_get h1)]
    constructor
    · rintro ⟨q, h2, h3⟩
      obtain ⟨z, h4, h5⟩ := (reRow_mem hrow).mp h3
      rw [hps j q h2] at h4
      cases h4
      exact h5
    · intro hj
      have hjx := ok.ok x _ hrow j hj
      have hjp : ps[j]? = some ps[j] := List.getElem?_eq_getElem (by omega)
      exact ⟨ps[j], hjp, (reRow_mem hrow).mpr ⟨j, hps j _ hjp, hj⟩⟩
  · rw [List.getElem?_eq_none (by rw [reO_len]; omega), List.getElem?_eq_none (by omega)]
theorem flags_at {n : Nat} {f : Nat → Bool} {p : Nat} (h : p < n) : ixD (.lst (flagsL n f)) ((p : Nat) : Int) = some (.bl (f p)) := atI_of (flagsL_get h)
theorem above_at {rows : List (List Nat)} {x : Nat} (h : x < rows.length) : ixD (aboveD rows) ((x : Nat) : Int) = some (.lst (flagsL rows.length (Bk.isA rows x))) := atI_of (aboveL_get h)
theorem ints_ixL {ps : List Nat} {j p : Nat} (h : ps[j]? = some p) : ixD (.lst (intsD ps)) ((j : Nat) : Int) = some (.int (p : Nat)) := atI_of (by unfold intsD; rw [List.getElem?_map, h]; rfl)
theorem is_ok {K : PySem.W.Frag} {CBook : Addr} {CKindError : Addr} {CNoOrder : Addr} {W : Wd} {KK : D → Prop} {d e : D} (h : d = e) (he : easy 2 d = true) (k : KK (.bl true)) : pre_law_is 2 K CBook CKindError CNoOrder W [.d d, .d e] KK := by
  subst h; exact ⟨d, rfl, he, k⟩
def pre_law_reordered_right (K : PySem.W.Frag) (CBook : Addr) (CKindError : Addr) (CNoOrder : Addr) : Wd → List Ent → (D → Prop) → Prop := fun W es KK => ∃ (t c : Addr) (rows : List (List Nat)), W = tapeW t c ∧ es = [.raw (.ref t), .d (rowsD rows)] ∧ BookOk rows ∧ KK (.bl true)
theorem len_law_reordered_right (K : PySem.W.Frag) (CBook : Addr) (CKindError : Addr) (CNoOrder : Addr) : ∀ W es KK, pre_law_reordered_right K CBook CKindError CNoOrder W es KK → es.length = 2 := by rintro W es K ⟨t, c, rows, _, rfl, _⟩; rfl
abbrev sp_law_reordered_right (K : PySem.W.Frag) (CBook : Addr) (CKindError : Addr) (CNoOrder : Addr) : Sp := FSp (pre_law_reordered_right K CBook CKindError CNoOrder)
theorem ok_law_reordered_right {f : Addr} {fd : FuncData} (F : Fun K "_law_reordered_right" "_law_reordered_right" s_law_reordered_right f fd) (T : Txt K mg CBook CKindError CNoOrder) (h_Book : New P w K mg base 6 "Book" ["self", "parents"] CBook ["parents", "above"] (pre_Book__init_ K CBook CKindError CNoOrder)) (h_law_order : Has P w K mg base 2 "_law_order" ["_law_tape_here", "_law_rows_here"] (sp_law_order K CBook CKindError CNoOrder)) (h_reordered : HasX P w K mg base 9 "reordered" ["book", "order"] (sp_reordered K CBook CKindError CNoOrder)) (h_law_is : Has P w K mg base 3 "_law_is" ["_law_told", "_law_due"] (sp_law_is K CBook CKindError CNoOrder)) (h_law_above : Has P w K mg base 1 "_law_above" ["_law_rows_here"] (sp_law_above K CBook CKindError CNoOrder)) (h_BookEq : EqOf P w K mg base 1 CBook ["self", "other"] (sp_Book__eq_ K CBook CKindError CNoOrder)) : FnOk P w K mg base CX0 10 f fd ["_law_tape_here", "_law_rows_here"] (sp_law_reordered_right K CBook CKindError CNoOrder) := by
  refine F.ok sc_law_reordered_right (fun vs H Q E h => fn_len (n := 2) (len_law_reordered_right K CBook CKindError CNoOrder) h) (fun cdv A outer s H vs Q E hr h => ⟨_, (pss_cons (ps_set (i := 2) sc_law_reordered_right.nd rfl (by first | exact Or.inl rfl | exact Or.inr rfl) (pe_new h_Book (hr.mono (by decide)) (pa_cons (pv 1) pa_nil)))
 (pss_cons (ps_set (i := 3) sc_law_reordered_right.nd rfl (by first | exact Or.inl rfl | exact Or.inr rfl) (pe_has h_law_order (hr.mono (by decide)) (pa_cons (pv 0) (pa_cons (pv 1) pa_nil))))
 (pss_cons (ps_set (i := 4) sc_law_reordered_right.nd rfl (by first | exact Or.inl rfl | exact Or.inr rfl) (pe_hasX h_reordered (hr.mono (by decide)) (pa_cons (pv 2) (pa_cons (pv 3) pa_nil))))
 (pss_cons (ps_set (i := 5) sc_law_reordered_right.nd rfl (by first | exact Or.inl rfl | exact Or.inr rfl) (pe_lc (own := [("_law_x", 9)]) rfl sc_law_reordered_right.nd (pi_range1 (by rfl) T.z_range (pa_cons (pe_callB call_len1 (by rfl) T.z_len (by decide +kernel) (pa_cons (pv 1) pa_nil)) pa_nil)) (blkOk_by (own := [("_law_x", 9)]) (N := N_law_reordered_right) (sc := defScope s_law_reordered_right) (by decide +kernel)) (fun _ _ _ _ _ => (pg_name (i := 9) sc_law_reordered_right.nd rfl (by first | exact Or.inl rfl | exact Or.inr rfl))) (fun _ _ _ _ _ => pts_nil) (fun _ _ _ _ _ => pe_conv (pe_tm PySem.F.plainAttrs_tuple PySem.F.slot_tuple_index PySem.F.type_tuple_index mt_tupIndex (pv 3) (pa_cons (pv 9) pa_nil)) (by first | rfl | (dsimp only [Cx.blk]; first | done | rfl)))))
 (pss_cons (ps_set (i := 6) sc_law_reordered_right.nd rfl (by first | exact Or.inl rfl | exact Or.inr rfl) (pe_callTy call_tup1 (by rfl) T.z_tuple (by decide +kernel) (pa_cons (pe_lc (own := [("_law_x", 9)]) rfl sc_law_reordered_right.nd (pi_tup (pv 3)) (blkOk_by (own := [("_law_x", 9)]) (N := N_law_reordered_right) (sc := defScope s_law_reordered_right) (by decide +kernel)) (fun _ _ _ _ _ => (pg_name (i := 9) sc_law_reordered_right.nd rfl (by first | exact Or.inl rfl | exact Or.inr rfl))) (fun _ _ _ _ _ => pts_nil) (fun _ _ _ _ _ => pe_conv (pe_callTy call_tup1 (by rfl) T.z_tuple (by decide +kernel) (pa_cons (pe_callB cr_sortedI (by rfl) T.z_sorted (by decide +kernel) (pa_cons (pe_lc (own := [("_law_p", 10)]) rfl sc_law_reordered_right.nd (pi_tup (pe_ix ix_seq (pv 1) (pv 9) (fun _ _ => rfl))) (blkOk_by (own := [("_law_p", 10)]) (N := N_law_reordered_right) (by kernel_rfl)) (fun _ _ _ _ _ => (pg_name (i := 10) sc_law_reordered_right.nd rfl (by first | exact Or.inl rfl | exact Or.inr rfl))) (fun _ _ _ _ _ => pts_nil) (fun _ _ _ _ _ => pe_conv (pe_ix ix_seq (pv 5) (pv 10) (fun _ _ => rfl)) (by first | rfl | (dsimp only [Cx.blk]; first | done | rfl)))) pa_nil)) pa_nil)) (by first | rfl | (dsimp only [Cx.blk]; first | done | rfl)))) pa_nil)))
 (pss_cons (ps_if (PW.pt (pw_or (pt_not (pt_truth (pe_callB call_isi (by rfl) T.z_isinstance (by decide +kernel) (pa_cons (pv 4) (pa_cons (pe_glob (v := .ref CBook) (by rfl) T.g_Book rfl) pa_nil))) (by intro _; rfl))) (pw_or1 (pt_not (pt_truth (pe_has h_law_is (hr.mono (by decide)) (pa_cons (pe_fld (pv 4) rfl) (pa_cons (pv 6) pa_nil))) (by intro _; rfl)))))) (pss_one (ps_ret pe_bl)) pss_nil)
 (pss_cons (ps_asg (pe_tup (pa_cons (pe_has h_law_above (hr.mono (by decide)) (pa_cons (pv 1) pa_nil)) (pa_cons (pe_has h_law_above (hr.mono (by decide)) (pa_cons (pv 6) pa_nil)) pa_nil))) (pg_tup (n := 2) rfl (pgs_cons (pg_name (i := 7) sc_law_reordered_right.nd rfl (by first | exact Or.inl rfl | exact Or.inr rfl)) (pgs_cons (pg_name (i := 8) sc_law_reordered_right.nd rfl (by first | exact Or.inl rfl | exact Or.inr rfl)) pgs_nil))))
 (pss_cons (ps_for PassesOwn.never rfl (pi_range1 (by rfl) T.z_range (pa_cons (pe_callB call_len1 (by rfl) T.z_len (by decide +kernel) (pa_cons (pv 1) pa_nil)) pa_nil)) (pg_name (i := 9) sc_law_reordered_right.nd rfl (by first | exact Or.inl rfl | exact Or.inr rfl)) (pss_one (ps_if (pt_cmpR (op_neD (hu65 hr)) (pe_lc (own := [("_law_p", 10)]) rfl sc_law_reordered_right.nd (pi_range1 (by rfl) T.z_range (pa_cons (pe_callB call_len1 (by rfl) T.z_len (by decide +kernel) (pa_cons (pv 1) pa_nil)) pa_nil)) (blkOk_by (own := [("_law_p", 10)]) (N := N_law_reordered_right) (sc := defScope s_law_reordered_right) (by decide +kernel)) (fun _ _ _ _ _ => (pg_name (i := 10) sc_law_reordered_right.nd rfl (by first | exact Or.inl rfl | exact Or.inr rfl))) (fun _ _ _ _ _ => pts_nil) (fun _ _ _ _ _ => pe_conv (pe_ix ix_seq (pe_ix ix_seq (pv 7) (pv 9) (fun _ _ => rfl)) (pv 10) (fun _ _ => rfl)) (by first | rfl | (dsimp only [Cx.blk]; first | done | rfl)))) (pe_lc (own := [("_law_p", 10)]) rfl sc_law_reordered_right.nd (pi_range1 (by rfl) T.z_range (pa_cons (pe_callB call_len1 (by rfl) T.z_len (by decide +kernel) (pa_cons (pv 1) pa_nil)) pa_nil)) (blkOk_by (own := [("_law_p", 10)]) (N := N_law_reordered_right) (sc := defScope s_law_reordered_right) (by decide +kernel)) (fun _ _ _ _ _ => (pg_name (i := 10) sc_law_reordered_right.nd rfl (by first | exact Or.inl rfl | exact Or.inr rfl))) (fun _ _ _ _ _ => pts_nil) (fun _ _ _ _ _ => pe_conv (pe_ix ix_seq (pe_ix ix_seq (pv 8) (pe_ix ix_seq (pv 5) (pv 9) (fun _ _ => rfl)) (fun _ _ => rfl)) (pe_ix ix_seq (pv 5) (pv 10) (fun _ _ => rfl)) (fun _ _ => rfl)) (by first | rfl | (dsimp only [Cx.blk]; first | done | rfl)))) (nomark _)) (pss_one (ps_ret pe_bl)) pss_nil)))
 (pss_one (ps_ret (pe_and (pe_cmpR (op_eqOf h_BookEq (hr.mono (by decide))) (pe_hasX h_reordered (hr.mono (by decide)) (pa_cons (pv 4) (pa_cons (pe_callTy call_tup1 (by rfl) T.z_tuple (by decide +kernel) (pa_cons (pv 5) pa_nil)) pa_nil))) (pv 2) (nomark _)) (pe_one (pe_cmpR (op_eqOf h_BookEq (hr.mono (by decide))) (pv 2) (pe_new h_Book (hr.mono (by decide)) (pa_cons (pv 1) pa_nil)) (nomark _)))))))))))))), fn_start (ps := ["_law_tape_here", "_law_rows_here"]) ?_ h⟩)
  rintro W es KK ⟨t, c, rows, rfl, rfl, ok, k⟩
  refine ⟨rfl, ?_⟩
  have hn := ok.many
  have hlr : (rows.map nT).length = rows.length := List.length_map ..
  show St (tapeW t c) [.raw (.ref t), .d (rowsD rows), .no, .no, .no, .no, .no, .no, .no, .no, .no] _ _
  refine st_seq <| st_asg <| ev_new <| eva_d <| ev_var (i := 1) rfl <| eva_nil ⟨rfl, rows, rfl, ok, ?_⟩
  show St (tapeW t c) [.raw (.ref t), .d (rowsD rows), .d (bookD CBook rows), .no, .no, .no, .no, .no, .no, .no, .no] _ _
  refine st_seq <| st_asgZ <| eva_cons <| eve_raw (i := 0) rfl <| eva_d <| ev_var (i := 1) rfl <| eva_nil ⟨rfl, t, c, rows, rfl, rfl, ok.ok, by omega, (fun r hr => by have := ok.six r hr; omega), fun o ho hol p ob => ?_⟩
  show St (tapeW t c) [.raw (.ref t), .d (rowsD rows), .d (bookD CBook rows), .frz p ob o, .no, .no, .no, .no, .no, .no, .no] _ _
  refine st_seq <| st_asg <| ev_callX <| eva_d <| ev_var (i := 2) rfl <| eva_d <| ev_frz (i := 3) rfl <| eva_nil ⟨rfl, rows, nT o, rfl, ok, any_nT o, fun o' e _ _ => ?_, fun z => absurd ⟨o, rfl, ho, hol⟩ z⟩
  have e : o = o' := intsD_inj (D.tup.inj e)
  subst e
  have rok : BookOk (reO rows o) := reO_ok ok ho hol
  have rlen : (reO rows o).length = rows.length := by rw [reO_len, hol]
  show St (tapeW t c) [.raw (.ref t), .d (rowsD rows), .d (bookD CBook rows), .frz p ob o, .d (bookD CBook (reO rows o)), .no, .no, .no, .no, .no, .no] _ _
  refine st_seq <| st_asg <| EvL.ev <| evl_lc <| evi_rng1 <| ev_cb <| eva_d <| ev_var (i := 1) rfl <| eva_nil <| cd_len (.inr rfl) ⟨_, rfl, by omega, by omega, by rw [intsUp_len]; omega, fun j acc => ∃ ps : List Nat, acc = intsD ps ∧ ps.length = j ∧ ∀ (i p : Nat), ps[i]? = some p → o[p]? = some i, ⟨[], rfl, rfl, (fun i p h => by simp at h)⟩, ?_, ?_⟩
  · rintro x d acc hd ⟨ps, rfl, hpl, hps⟩ _
    obtain ⟨hx, rfl⟩ := intsUp_of hd
    rw [hlr, Int.toNat_natCast] at hx
    refine tgc_name (by simp) ?_
    rw [Int.zero_add]
    show _ = _ ∧ EvT (tapeW t c) [.raw (.ref t), .d (rowsD rows), .d (bookD CBook rows), .frz p ob o, .d (bookD CBook (reO rows o)), .no, .no, .no, .no, .d (.int (x : Nat)), .no] _ _
    refine ⟨rfl, evt_yes ⟨fun _ => ?_, (fun z => nomatch z)⟩⟩
    have hxo : x ∈ o := (range_perm ho.nd hol ho.lt).mem_iff.mpr (List.mem_range.mpr hx)
    obtain ⟨j, hj⟩ := List.getElem?_of_mem hxo
    refine ev_frzIndex (i := 3) rfl <| ev_var (i := 9) rfl ⟨j, x, rfl, hj, fun n hn z => by have := ord_inj ho z hj; omega, ps ++ [j], intsD_snoc _ _, by rw [List.length_append, hpl]; rfl, fun i q hq => ?_⟩
    by_cases z : i < ps.length
    · rw [List.getElem?_append_left z] at hq
      exact hps i q hq
    · have hl1 := (List.getElem?_eq_some_iff.mp hq).1
      rw [List.length_append] at hl1
      have hl1 : i < ps.length + 1 := hl1
      have e : i = ps.length := by omega
      subst e
      rw [List.getElem?_append_right (Nat.le_refl _), Nat.sub_self] at hq
      cases hq
      rw [hpl]; exact hj
  rintro acc ⟨ps, rfl, hpl, hps⟩
  rw [intsUp_len, hlr, Int.toNat_natCast] at hpl
  show St (tapeW t c) [.raw (.ref t), .d (rowsD rows), .d (bookD CBook rows), .frz p ob o, .d (bookD CBook (reO rows o)), .d (.lst (intsD ps)), .no, .no, .no, .no, .no] _ _
  refine st_seq <| st_asg <| ev_cb <| eva_d <| EvL.ev <| evl_lc <| evi_tup <| ev_frz (i := 3) rfl ⟨intsD o, rfl, by rw [intsD_len]; omega, fun j acc => acc = ((reO rows o).take j).map nT, rfl, ?_, ?_⟩
  · rintro j d acc hd rfl _
    obtain ⟨x, hx, rfl⟩ := intsD_of hd
    have hxn := ho.lt x (List.mem_of_getElem? hx)
    have hrow : rows[x]? = some rows[x] := List.getElem?_eq_getElem hxn
    have hr6 := ok.six rows[x] (List.getElem_mem hxn)
    have hrlt := fun q (hq : q ∈ rows[x]) => ok.ok x _ hrow q hq
    generalize rows[x] = row at hrow hr6 hrlt
    refine tgc_name (by simp) ?_
    show _ = _ ∧ EvT (tapeW t c) [.raw (.ref t), .d (rowsD rows), .d (bookD CBook rows), .frz p ob o, .d (bookD CBook (reO rows o)), .d (.lst (intsD ps)), .no, .no, .no, .d (.int (x : Nat)), .no] _ _
    refine ⟨rfl, evt_yes ⟨fun _ => ?_, (fun z => nomatch z)⟩⟩
    refine ev_cb <| eva_d <| EvL.ev <| evl_sortedI <| eva_d <| EvL.ev <| evl_lc <| evi_tup <| ev_op <| ev_var (i := 1) rfl <| ev_var (i := 9) rfl <| opd_ix (rows_at hrow) ⟨intsD row, rfl, by rw [intsD_len]; omega, fun i acc => ∃ qs : List Nat, acc = intsD qs ∧ qs.length = i ∧ ∀ (i p q : Nat), qs[i]? = some p → row[i]? = some q → o[p]? = some q, ⟨[], rfl, rfl, (fun i p q h => by simp at h)⟩, ?_, ?_⟩
    · rintro i d acc hd ⟨qs, rfl, hql, hqs⟩ _
      obtain ⟨q, hq, rfl⟩ := intsD_of hd
      have hqx := hrlt q (List.mem_of_getElem? hq)
      have hpq : ps[q]? = some ps[q] := List.getElem?_eq_getElem (by omega)
      refine tgc_name (by simp) ?_
      show _ = _ ∧ EvT (tapeW t c) [.raw (.ref t), .d (rowsD rows), .d (bookD CBook rows), .frz p ob o, .d (bookD CBook (reO rows o)), .d (.lst (intsD ps)), .no, .no, .no, .d (.int (x : Nat)), .d (.int (q : Nat))] _ _
      refine ⟨rfl, evt_yes ⟨fun _ => ?_, (fun z => nomatch z)⟩⟩
      refine ev_op <| ev_var (i := 5) rfl <| ev_var (i := 10) rfl <| opd_ix (ints_ixL hpq) ⟨qs ++ [ps[q]], intsD_snoc _ _, by rw [List.length_append, hql]; rfl, fun i' p' q' h1 h2 => ?_⟩
      by_cases z : i' < qs.length
      · rw [List.getElem?_append_left z] at h1
        exact hqs i' p' q' h1 h2
      · have hl1 := (List.getElem?_eq_some_iff.mp h1).1
        rw [List.length_append] at hl1
        have hl1 : i' < qs.length + 1 := hl1
        have e : i' = qs.length := by omega
        subst e
        rw [List.getElem?_append_right (Nat.le_refl _), Nat.sub_self] at h1
        cases h1
        rw [hql, hq] at h2
        cases h2
        exact hps q _ hpq
    · rintro acc ⟨qs, rfl, hql, hqs⟩
      rw [intsD_len] at hql
      refine eva_nil ⟨_, qs.map fun (p : Nat) => (p : Int), rfl, by rw [intsD_ints1]; rfl, fun ns' pm up => ?_⟩
      rw [place_row ok ho hrow hql hqs pm up]
      refine eva_nil <| cd_tupL rfl ?_
      dsimp only
      rw [snoc_take (reO_get hx), List.map_append, List.map_map]
      rfl
  rintro acc rfl
  rw [intsD_len, List.take_of_length_le (by rw [reO_len]; exact Nat.le_refl _)]
  refine eva_nil <| cd_tupL rfl ?_
  show St (tapeW t c) [.raw (.ref t), .d (rowsD rows), .d (bookD CBook rows), .frz p ob o, .d (bookD CBook (reO rows o)), .d (.lst (intsD ps)), .d (rowsD (reO rows o)), .no, .no, .no, .no] _ _
  refine st_seq <| st_if <| evt_or ?_
  repeat walk_at "pd"
  refine cd_isiOC T.o_Book.oc T.s_Book ?_
  refine ⟨rfl, (fun z => nomatch z), fun _ => ?_⟩
  refine evt_not <| evt_tru <| Ev.b <| ev_call <| eva_d <| fld_parents T <| ev_var (i := 4) rfl ⟨reO rows o, rfl, eva_d <| ev_var (i := 6) rfl <| eva_nil ⟨rfl, is_ok rfl (easy_rowsD rok) ⟨rfl, (fun z => nomatch z), fun _ => st_next ?_⟩⟩⟩
  refine st_seq <| st_asgT <| ev_tup <| eva_d <| ev_call <| eva_d <| ev_var (i := 1) rfl <| eva_nil ⟨rfl, rows, rfl, ok.ok, by omega, eva_d <| ev_call <| eva_d <| ev_var (i := 6) rfl <| eva_nil ⟨rfl, reO rows o, rfl, rok.ok, by omega, eva_nil ⟨_, rfl, Nat.le_of_ble_eq_true rfl, tg_tup2 ?_⟩⟩⟩
  show St (tapeW t c) [.raw (.ref t), .d (rowsD rows), .d (bookD CBook rows), .frz p ob o, .d (bookD CBook (reO rows o)), .d (.lst (intsD ps)), .d (rowsD (reO rows o)), .d (aboveD rows), .d (aboveD (reO rows o)), .no, .no] _ _
  refine st_seq <| st_for <| evi_rng1 <| ev_cb <| eva_d <| ev_var (i := 1) rfl <| eva_nil <| cd_len (.inr rfl) ⟨_, rfl, by omega, by omega, fun i G => ∃ e9 : Ent, G = [.raw (.ref t), .d (rowsD rows), .d (bookD CBook rows), .frz p ob o, .d (bookD CBook (reO rows o)), .d (.lst (intsD ps)), .d (rowsD (reO rows o)), .d (aboveD rows), .d (aboveD (reO rows o)), e9, .no], ⟨.no, rfl⟩, ?_, ?_⟩
  · rintro x d G' hd ⟨e9, rfl⟩
    obtain ⟨hx, rfl⟩ := intsUp_of hd
    rw [hlr, Int.toNat_natCast] at hx
    have hpx : ps[x]? = some ps[x] := List.getElem?_eq_getElem (by omega)
    refine tg_name ?_
    rw [Int.zero_add]
    show St (tapeW t c) [.raw (.ref t), .d (rowsD rows), .d (bookD CBook rows), .frz p ob o, .d (bookD CBook (reO rows o)), .d (.lst (intsD ps)), .d (rowsD (reO rows o)), .d (aboveD rows), .d (aboveD (reO rows o)), .d (.int (x : Nat)), .no] _ _
    refine st_if <| evt_test <| ev_op <| EvL.ev <| evl_lc <| evi_rng1 <| ev_cb <| eva_d <| ev_var (i := 1) rfl <| eva_nil <| cd_len (.inr rfl) ⟨_, rfl, by omega, by omega, by rw [intsUp_len]; omega, fun j acc => acc = flagsL j (Bk.isA rows x), rfl, ?_, ?_⟩
    · rintro y d acc hd rfl _
      obtain ⟨hy, rfl⟩ := intsUp_of hd
      rw [hlr, Int.toNat_natCast] at hy
      refine tgc_name (by simp) ?_
      rw [Int.zero_add]
      show _ = _ ∧ EvT (tapeW t c) [.raw (.ref t), .d (rowsD rows), .d (bookD CBook rows), .frz p ob o, .d (bookD CBook (reO rows o)), .d (.lst (intsD ps)), .d (rowsD (reO rows o)), .d (aboveD rows), .d (aboveD (reO rows o)), .d (.int (x : Nat)), .d (.int (y : Nat))] _ _
      refine ⟨rfl, evt_yes ⟨fun _ => ?_, (fun z => nomatch z)⟩⟩
      refine ev_op <| ev_op <| ev_var (i := 7) rfl <| ev_var (i := 9) rfl <| opd_ix (above_at hx) <| ev_var (i := 10) rfl <| opd_ix (flags_at hy) ?_
      unfold flagsL
      dsimp only
      rw [List.range_succ, List.map_append]; rfl
    rintro acc rfl
    refine EvL.ev <| evl_lc <| evi_rng1 <| ev_cb <| eva_d <| ev_var (i := 1) rfl <| eva_nil <| cd_len (.inr rfl) ⟨_, rfl, by omega, by omega, by rw [intsUp_len]; omega, fun j acc => acc = flagsL j (Bk.isA rows x), rfl, ?_, ?_⟩
    · rintro y d acc hd rfl _
      obtain ⟨hy, rfl⟩ := intsUp_of hd
      rw [hlr, Int.toNat_natCast] at hy
      have hpy : ps[y]? = some ps[y] := List.getElem?_eq_getElem (by omega)
      have hx2 := (List.getElem?_eq_some_iff.mp (hps x _ hpx)).1
      have hy2 := (List.getElem?_eq_some_iff.mp (hps y _ hpy)).1
      refine tgc_name (by simp) ?_
      rw [Int.zero_add]
      show _ = _ ∧ EvT (tapeW t c) [.raw (.ref t), .d (rowsD rows), .d (bookD CBook rows), .frz p ob o, .d (bookD CBook (reO rows o)), .d (.lst (intsD ps)), .d (rowsD (reO rows o)), .d (aboveD rows), .d (aboveD (reO rows o)), .d (.int (x : Nat)), .d (.int (y : Nat))] _ _
      refine ⟨rfl, evt_yes ⟨fun _ => ?_, (fun z => nomatch z)⟩⟩
      refine ev_op <| ev_op <| ev_var (i := 8) rfl <| ev_op <| ev_var (i := 5) rfl <| ev_var (i := 9) rfl <| opd_ix (ints_ixL hpx) <| opd_ix (above_at (by omega)) <| ev_op <| ev_var (i := 5) rfl <| ev_var (i := 10) rfl <| opd_ix (ints_ixL hpy) <| opd_ix (flags_at (by omega)) ?_
      rw [reO_isA ok.ok ho ps[x] (hps x _ hpx) (hps y _ hpy)]
      unfold flagsL
      dsimp only
      rw [List.range_succ, List.map_append]; rfl
    rintro acc rfl
    rw [intsUp_len, hlr, Int.toNat_natCast]
    have ef := easy_flags 1 rows.length (Bk.isA rows x) (by omega)
    refine opd_ne (easy_okD ef (by decide)) (easy_okD ef (by decide)) ?_
    rw [easy_eqD ef]
    exact ⟨_, rfl, (fun z => nomatch z), fun _ => st_next ⟨_, rfl⟩⟩
  · rintro G' ⟨e9, rfl⟩
    refine st_ret <| ev_andV <| ev_op <| ev_callX <| eva_d <| ev_var (i := 4) rfl <| eva_d <| ev_cb <| eva_d <| ev_var (i := 5) rfl <| eva_nil <| cd_tupL rfl <| eva_nil ⟨rfl, reO rows o, nT ps, rfl, rok, any_nT ps, fun ps' e _ _ => ?_, fun z => absurd ⟨ps, rfl, places_ord ok ho hol hpl hps, by omega⟩ z⟩
    have e : ps = ps' := intsD_inj (D.tup.inj e)
    subst e
    rw [places_back ok ho hol hpl hps]
    refine ev_var (i := 2) rfl <| opd_eqOf ⟨_, _, rfl, _, rfl, ?_⟩
    rw [decide_eq_true rfl]
    refine ⟨true, rfl, fun _ => ?_, (fun z => nomatch z)⟩
    refine ev_op <| ev_var (i := 2) rfl <| ev_new <| eva_d <| ev_var (i := 1) rfl <| eva_nil ⟨rfl, rows, rfl, ok, opd_eqOf ⟨_, _, rfl, _, rfl, ?_⟩⟩
    rw [decide_eq_true rfl]
    exact k
/-! ### law -/
abbrev s_law : Stmt := topS 33
abbrev N_law : List Str := ["_law_script", "_law_tape_here", "_law_again", "_law_rows_here", "_law_bent_here", "_law_more", "_law_both", "_law_moved", "_law_item", "_law_p"]
theorem sc_law : FnScope N_law ["_law_script"] (defScope s_law) := ⟨rfl, rfl, rfl, by decide +kernel, rfl, by decide +kernel, by decide +kernel⟩

theorem ok_strC {x : Str} (h : PyData.strOk x = true) : okD (.str x) = true := by
  unfold okD
  simp [Pd.plain, toP, SeqAt.shaped, PyData.canLay0, PyData.depth, h]
theorem eqD_strC (x : Str) : eqD (.str x) (.str x) = true := by
  show PyData.eqv (.str x) (.str x) = true
  simp [PyData.eqv]
theorem rows_ok {K : PySem.W.Frag} {CBook : Addr} {CKindError : Addr} {CNoOrder : Addr} {t c : Addr} {KK : D → Prop} (n : Nat) (hn : n ≤ 400) (h : ∀ rows : List (List Nat), BookOk rows → rows.length = n → KK (rowsD rows)) : pre_law_rows K CBook CKindError CNoOrder (tapeW t c) [.raw (.ref t), .d (.int (n : Nat))] KK := ⟨t, c, n, rfl, rfl, hn, h⟩
theorem moved_easy {r1 r2 : List (List Nat)} (o1 : BookOk r1) (o2 : BookOk r2) : easy 2 (rowsD (r1 ++ movedR r1.length r2)) = true := by
  have h1 := o1.many
  have h2 := o2.many
  have hml : (movedR r1.length r2).length = r2.length := List.length_map ..
  show (decide (((r1 ++ movedR r1.length r2).map nT).length < 100000) && easys 1 ((r1 ++ movedR r1.length r2).map nT)) = true
  rw [List.length_map, List.length_append, hml, decide_eq_true (by omega), easys_all fun d hd => ?_]
  · rfl
  · obtain ⟨r, hr, rfl⟩ := List.mem_map.mp hd
    rcases List.mem_append.mp hr with z | z
    · have := o1.six r z
      exact easy_nT 0 (by omega)
    · obtain ⟨q, hq, rfl⟩ := List.mem_map.mp z
      have := o2.six q hq
      exact easy_nT 0 (by rw [List.length_map]; omega)
abbrev sp_law (K : PySem.W.Frag) (CBook : Addr) (CKindError : Addr) (CNoOrder : Addr) : Sp := fun vs H Q _ => ∃ (a : Addr) (ns : List Int), vs = [.ref a] ∧ SqL K H a (ns.map V.int) ∧ ns.length ≤ 63 ∧ ∀ H', Q (.bl true) H'
theorem ok_law {f : Addr} {fd : FuncData} (F : Fun K "law" "law" s_law f fd) (T : Txt K mg CBook CKindError CNoOrder) (h_law_tape : Has P w K mg base 1 "_law_tape" ["_law_script"] (sp_law_tape K CBook CKindError CNoOrder)) (h_law_rows : Has P w K mg base 3 "_law_rows" ["_law_tape_here", "_law_many"] (sp_law_rows K CBook CKindError CNoOrder)) (h_law_pick : Has P w K mg base 1 "_law_pick" ["_law_tape_here", "_law_many"] (sp_law_pick K CBook CKindError CNoOrder)) (h_law_reordered_right : Has P w K mg base 10 "_law_reordered_right" ["_law_tape_here", "_law_rows_here"] (sp_law_reordered_right K CBook CKindError CNoOrder)) (h_law_bent : Has P w K mg base 3 "_law_bent" ["_law_tape_here", "_law_order_here"] (sp_law_bent K CBook CKindError CNoOrder)) (h_law_order : Has P w K mg base 2 "_law_order" ["_law_tape_here", "_law_rows_here"] (sp_law_order K CBook CKindError CNoOrder)) (h_law_word : Has P w K mg base 10 "_law_word" ["_law_book", "_law_order_here"] (sp_law_word K CBook CKindError CNoOrder)) (h_Book : New P w K mg base 6 "Book" ["self", "parents"] CBook ["parents", "above"] (pre_Book__init_ K CBook CKindError CNoOrder)) (h_law_is_order : Has P w K mg base 1 "_law_is_order" ["_law_rows_here", "_law_thing"] (sp_law_is_order K CBook CKindError CNoOrder)) (h_beside : Has P w K mg base 9 "beside" ["one_book", "other_book"] (sp_beside K CBook CKindError CNoOrder)) (h_law_is : Has P w K mg base 3 "_law_is" ["_law_told", "_law_due"] (sp_law_is K CBook CKindError CNoOrder)) : FnOk P w K mg base CX0 11 f fd ["_law_script"] (sp_law K CBook CKindError CNoOrder) := by
  refine F.ok sc_law (fun vs H Q E h => ?_) (fun cdv A outer s H vs Q E hr h => ⟨_, (pss_cons (ps_set (i := 1) sc_law.nd rfl (by first | exact Or.inl rfl | exact Or.inr rfl) (pe_has h_law_tape (hr.mono (by decide)) (pa_cons (pv 0) pa_nil)))
 (pss_cons (ps_for PassesOwn.never rfl (pi_range1 (by rfl) T.z_range (pa_cons pe_int pa_nil)) (pg_name (i := 2) sc_law.nd rfl (by first | exact Or.inl rfl | exact Or.inr rfl)) (pss_cons (ps_set (i := 3) sc_law.nd rfl (by first | exact Or.inl rfl | exact Or.inr rfl) (pe_has h_law_rows (hr.mono (by decide)) (pa_cons (pv 1) (pa_cons (pe_has h_law_pick (hr.mono (by decide)) (pa_cons (pv 1) (pa_cons pe_int pa_nil))) pa_nil))))
 (pss_cons (ps_if (pt_not (pt_truth (pe_has h_law_reordered_right (hr.mono (by decide)) (pa_cons (pv 1) (pa_cons (pv 3) pa_nil))) (by intro _; rfl))) (pss_one (ps_ret pe_bl)) pss_nil)
 (pss_cons (ps_set (i := 4) sc_law.nd rfl (by first | exact Or.inl rfl | exact Or.inr rfl) (pe_has h_law_bent (hr.mono (by decide)) (pa_cons (pv 1) (pa_cons (pe_has h_law_order (hr.mono (by decide)) (pa_cons (pv 1) (pa_cons (pv 3) pa_nil))) pa_nil))))
 (pss_cons (ps_if (pt_cmpR (op_neD (hu65 hr)) (pe_has h_law_word (hr.mono (by decide)) (pa_cons (pe_new h_Book (hr.mono (by decide)) (pa_cons (pv 3) pa_nil)) (pa_cons (pv 4) pa_nil))) (pe_ifExp (pt_truth (pe_has h_law_is_order (hr.mono (by decide)) (pa_cons (pv 3) (pa_cons (pv 4) pa_nil))) (by intro _; rfl)) pe_str pe_str) (nomark _)) (pss_one (ps_ret pe_bl)) pss_nil)
 (pss_cons (ps_set (i := 5) sc_law.nd rfl (by first | exact Or.inl rfl | exact Or.inr rfl) (pe_has h_law_rows (hr.mono (by decide)) (pa_cons (pv 1) (pa_cons (pe_has h_law_pick (hr.mono (by decide)) (pa_cons (pv 1) (pa_cons pe_int pa_nil))) pa_nil))))
 (pss_cons (ps_set (i := 6) sc_law.nd rfl (by first | exact Or.inl rfl | exact Or.inr rfl) (pe_has h_beside (hr.mono (by decide)) (pa_cons (pe_new h_Book (hr.mono (by decide)) (pa_cons (pv 3) pa_nil)) (pa_cons (pe_new h_Book (hr.mono (by decide)) (pa_cons (pv 5) pa_nil)) pa_nil))))
 (pss_cons (ps_set (i := 7) sc_law.nd rfl (by first | exact Or.inl rfl | exact Or.inr rfl) (pe_callTy call_tup1 (by rfl) T.z_tuple (by decide +kernel) (pa_cons (pe_lc (own := [("_law_item", 8)]) rfl sc_law.nd (pi_tup (pv 5)) (blkOk_by (own := [("_law_item", 8)]) (N := N_law) (sc := defScope s_law) (by decide +kernel)) (fun _ _ _ _ _ => (pg_name (i := 8) sc_law.nd rfl (by first | exact Or.inl rfl | exact Or.inr rfl))) (fun _ _ _ _ _ => pts_nil) (fun _ _ _ _ _ => pe_conv (pe_callTy call_tup1 (by rfl) T.z_tuple (by decide +kernel) (pa_cons (pe_lc (own := [("_law_p", 9)]) rfl sc_law.nd (pi_tup (pv 8)) (blkOk_by (own := [("_law_p", 9)]) (N := N_law) (by kernel_rfl)) (fun _ _ _ _ _ => (pg_name (i := 9) sc_law.nd rfl (by first | exact Or.inl rfl | exact Or.inr rfl))) (fun _ _ _ _ _ => pts_nil) (fun _ _ _ _ _ => pe_conv (pe_op op_plus (pv 9) (pe_callB call_len1 (by rfl) T.z_len (by decide +kernel) (pa_cons (pv 3) pa_nil))) (by first | rfl | (dsimp only [Cx.blk]; first | done | rfl)))) pa_nil)) (by first | rfl | (dsimp only [Cx.blk]; first | done | rfl)))) pa_nil)))
 (pss_one (ps_if (PW.pt (pw_or (pt_not (pt_truth (pe_callB call_isi (by rfl) T.z_isinstance (by decide +kernel) (pa_cons (pv 6) (pa_cons (pe_glob (v := .ref CBook) (by rfl) T.g_Book rfl) pa_nil))) (by intro _; rfl))) (pw_or1 (pt_not (pt_truth (pe_has h_law_is (hr.mono (by decide)) (pa_cons (pe_fld (pv 6) rfl) (pa_cons (pe_op op_plus (pv 3) (pv 7)) pa_nil))) (by intro _; rfl)))))) (pss_one (ps_ret pe_bl)) pss_nil))))))))))
 (pss_one (ps_ret pe_bl)))), ?_⟩)
  · obtain ⟨a, ns, rfl, _⟩ := h; rfl
  obtain ⟨a, ns, rfl, hS, hlen, k⟩ := h
  refine ⟨.ref a, rfl, a, ns, rfl, hS, fun H1 t c hT => ?_⟩
  dsimp only
  refine (?_ : St (tapeW t c) [.raw (.ref a), .raw (.ref t), .no, .no, .no, .no, .no, .no, .no, .no] _ { nx := fun _ => False, rt := fun d => d = .bl true }) [] [] H1 _ H1 ⟨⟨.cons rfl (.cons rfl (.cons trivial (.cons trivial (.cons trivial (.cons trivial (.cons trivial (.cons trivial (.cons trivial (.cons trivial .nil))))))))), List.nodup_nil, (fun l hl => nomatch hl), (fun l hl => nomatch hl), hT⟩, Ex.refl _ _, (fun l hl => nomatch hl)⟩ _ ⟨(fun _ _ _ z => z.elim), (fun _ _ _ z => z.elim), (fun _ _ _ z => z.elim), fun d v H e _ _ r => by subst e; cases r; exact k _, (fun _ _ _ _ _ _ z => z.elim), (fun _ _ _ _ z => z.elim)⟩
  refine st_seq (st_for (evi_rng1 (ev_int ⟨3, rfl, by decide, by decide, fun i G => ∃ e2 e3 e4 e5 e6 e7 e8 e9 : Ent, G = [.raw (.ref a), .raw (.ref t), e2, e3, e4, e5, e6, e7, e8, e9], ⟨.no, .no, .no, .no, .no, .no, .no, .no, rfl⟩, ?_, ?_⟩)))
  · rintro i d G' hd ⟨e2, e3, e4, e5, e6, e7, e8, e9, rfl⟩
    obtain ⟨hi, rfl⟩ := intsUp_of hd
    refine tg_name ?_
    refine st_nos [3, 4, 5, 6, 7, 8, 9] ?_
    generalize (0 : Int) + (i : Nat) = i0
    show St (tapeW t c) [.raw (.ref a), .raw (.ref t), .d (.int i0), .no, .no, .no, .no, .no, .no, .no] _ _
    refine st_seq <| st_asg <| ev_call <| eva_cons <| eve_raw (i := 1) rfl <| eva_d <| ev_call <| eva_cons <| eve_raw (i := 1) rfl <| eva_d <| ev_int <| eva_nil ⟨rfl, pick_ok 21 rfl (by decide) (by decide) fun n hn => eva_nil ⟨rfl, rows_ok n (by omega) fun rows ok hl => ?_⟩⟩
    show St (tapeW t c) [.raw (.ref a), .raw (.ref t), .d (.int i0), .d (rowsD rows), .no, .no, .no, .no, .no, .no] _ _
    refine st_seq <| st_if <| evt_not <| evt_tru <| Ev.b <| ev_call <| eva_cons <| eve_raw (i := 1) rfl <| eva_d <| ev_var (i := 3) rfl <| eva_nil ⟨rfl, t, c, rows, rfl, rfl, ok, ⟨rfl, (fun z => nomatch z), fun _ => st_next ?_⟩⟩
    refine st_seq <| st_asg <| ev_call <| eva_cons <| eve_raw (i := 1) rfl <| eva_d <| ev_callZ <| eva_cons <| eve_raw (i := 1) rfl <| eva_d <| ev_var (i := 3) rfl <| eva_nil ⟨rfl, t, c, rows, rfl, rfl, ok.ok, by omega, (fun r hr => by have := ok.six r hr; omega), fun o ho hol => eva_nil ⟨rfl, t, c, o, rfl, rfl, by omega, fun d hd => ?_⟩⟩
    show St (tapeW t c) [.raw (.ref a), .raw (.ref t), .d (.int i0), .d (rowsD rows), .d d, .no, .no, .no, .no, .no] _ _
    refine st_cut (fun G' => G' = [.raw (.ref a), .raw (.ref t), .d (.int i0), .d (rowsD rows), .d d, .no, .no, .no, .no, .no]) ?_ ?_
    · by_cases hO : IsOrd rows d
      · refine st_if <| evt_test <| ev_op <| ev_call <| eva_d <| ev_new <| eva_d <| ev_var (i := 3) rfl <| eva_nil ⟨rfl, rows, rfl, ok, eva_d <| ev_var (i := 4) rfl <| eva_nil ⟨rfl, rows, d, rfl, ok, hd, fun _ => ?_, fun z => absurd hO z⟩⟩
        refine ev_if <| evt_tru <| Ev.b <| ev_call <| eva_d <| ev_var (i := 3) rfl <| eva_d <| ev_var (i := 4) rfl <| eva_nil ⟨rfl, rows, d, rfl, ok, hd, (fun _ => ⟨rfl, fun _ => ev_str ?_, (fun z => nomatch z)⟩), fun z => absurd hO z⟩
        refine opd_ne (ok_strC (by decide +kernel)) (ok_strC (by decide +kernel)) ?_
        rw [eqD_strC]
        exact ⟨_, rfl, (fun z => nomatch z), fun _ => st_next rfl⟩
      · refine st_if <| evt_test <| ev_op <| ev_call <| eva_d <| ev_new <| eva_d <| ev_var (i := 3) rfl <| eva_nil ⟨rfl, rows, rfl, ok, eva_d <| ev_var (i := 4) rfl <| eva_nil ⟨rfl, rows, d, rfl, ok, hd, (fun z => absurd z hO), fun _ => ?_⟩⟩
        refine ev_if <| evt_tru <| Ev.b <| ev_call <| eva_d <| ev_var (i := 3) rfl <| eva_d <| ev_var (i := 4) rfl <| eva_nil ⟨rfl, rows, d, rfl, ok, hd, (fun z => absurd z hO), fun _ => ⟨rfl, (fun z => nomatch z), fun _ => ev_str ?_⟩⟩
        refine opd_ne (ok_strC (by decide +kernel)) (ok_strC (by decide +kernel)) ?_
        rw [eqD_strC]
        exact ⟨_, rfl, (fun z => nomatch z), fun _ => st_next rfl⟩
    rintro G' rfl
    refine st_seq <| st_asg <| ev_call <| eva_cons <| eve_raw (i := 1) rfl <| eva_d <| ev_call <| eva_cons <| eve_raw (i := 1) rfl <| eva_d <| ev_int <| eva_nil ⟨rfl, pick_ok 8 rfl (by decide) (by decide) fun n2 hn2 => eva_nil ⟨rfl, rows_ok n2 (by omega) fun more ok2 hl2 => ?_⟩⟩
    show St (tapeW t c) [.raw (.ref a), .raw (.ref t), .d (.int i0), .d (rowsD rows), .d d, .d (rowsD more), .no, .no, .no, .no] _ _
    refine st_seq <| st_asg <| ev_call <| eva_d <| ev_new <| eva_d <| ev_var (i := 3) rfl <| eva_nil ⟨rfl, rows, rfl, ok, eva_d <| ev_new <| eva_d <| ev_var (i := 5) rfl <| eva_nil ⟨rfl, more, rfl, ok2, eva_nil ⟨rfl, rows, more, rfl, ok, ok2, ?_⟩⟩⟩
    show St (tapeW t c) [.raw (.ref a), .raw (.ref t), .d (.int i0), .d (rowsD rows), .d d, .d (rowsD more), .d (bookD CBook (rows ++ movedR rows.length more)), .no, .no, .no] _ _
    refine st_seq <| st_asg <| ev_cb <| eva_d <| EvL.ev <| evl_lc <| evi_tup <| ev_var (i := 5) rfl ⟨more.map nT, rfl, by rw [List.length_map]; omega, fun j acc => acc = ((movedR rows.length more).take j).map nT, rfl, ?_, ?_⟩
    · rintro j e acc hd' rfl _
      obtain ⟨r, hr, rfl⟩ := nT_at hd'
      have h6 := ok2.six r (List.mem_of_getElem? hr)
      refine tgc_name (by simp) ?_
      show _ = _ ∧ EvT (tapeW t c) [.raw (.ref a), .raw (.ref t), .d (.int i0), .d (rowsD rows), .d d, .d (rowsD more), .d (bookD CBook (rows ++ movedR rows.length more)), .no, .d (nT r), .no] _ _
      refine ⟨rfl, evt_yes ⟨fun _ => ?_, (fun z => nomatch z)⟩⟩
      refine ev_cb <| eva_d <| EvL.ev <| evl_lc <| evi_tup <| ev_var (i := 8) rfl ⟨intsD r, rfl, by rw [intsD_len]; omega, fun q acc => acc = intsD ((r.map (· + rows.length)).take q), rfl, ?_, ?_⟩
      · rintro q e acc hq' rfl _
        obtain ⟨p, hp, rfl⟩ := intsD_of hq'
        refine tgc_name (by simp) ?_
        show _ = _ ∧ EvT (tapeW t c) [.raw (.ref a), .raw (.ref t), .d (.int i0), .d (rowsD rows), .d d, .d (rowsD more), .d (bookD CBook (rows ++ movedR rows.length more)), .no, .d (nT r), .d (.int (p : Nat))] _ _
        refine ⟨rfl, evt_yes ⟨fun _ => ?_, (fun z => nomatch z)⟩⟩
        refine ev_op <| ev_var (i := 9) rfl <| ev_cb <| eva_d <| ev_var (i := 3) rfl <| eva_nil <| cd_len (.inr rfl) <| opd_plusI ?_
        rw [List.length_map]
        dsimp only
        rw [snoc_take (x := p + rows.length) (by rw [List.getElem?_map, hp]; rfl), ← intsD_snoc]
        rfl
      · rintro acc rfl
        rw [intsD_len, List.take_of_length_le (by rw [List.length_map]; exact Nat.le_refl _)]
        refine eva_nil <| cd_tupL rfl ?_
        have e : (movedR rows.length more)[j]? = some (r.map (· + rows.length)) := by unfold movedR; rw [List.getElem?_map, hr]; rfl
        dsimp only
        rw [snoc_take e, List.map_append]
        rfl
    rintro acc rfl
    have hml : (movedR rows.length more).length = more.length := List.length_map ..
    rw [List.length_map, List.take_of_length_le (by omega)]
    refine eva_nil <| cd_tupL rfl ?_
    show St (tapeW t c) [.raw (.ref a), .raw (.ref t), .d (.int i0), .d (rowsD rows), .d d, .d (rowsD more), .d (bookD CBook (rows ++ movedR rows.length more)), .d (.tup ((movedR rows.length more).map nT)), .no, .no] _ _
    refine st_if <| evt_or ?_
    repeat walk_at "pd"
    refine cd_isiOC T.o_Book.oc T.s_Book ?_
    refine ⟨rfl, (fun z => nomatch z), fun _ => ?_⟩
    refine evt_not <| evt_tru <| Ev.b <| ev_call <| eva_d <| fld_parents T <| ev_var (i := 6) rfl ⟨rows ++ movedR rows.length more, rfl, eva_d <| ev_op <| ev_var (i := 3) rfl <| ev_var (i := 7) rfl <| opd_plusT (xs := rows.map nT) (ys := (movedR rows.length more).map nT) (by rw [List.length_map, List.length_map, hml]; omega) <| eva_nil ⟨rfl, is_ok (by unfold rowsD; rw [List.map_append]) (moved_easy ok ok2) ⟨rfl, (fun z => nomatch z), fun _ => st_next ⟨_, _, _, _, _, _, _, _, rfl⟩⟩⟩⟩
  · rintro G' ⟨e2, e3, e4, e5, e6, e7, e8, e9, rfl⟩
    exact st_ret <| ev_bl rfl

end
end Lw

namespace Lw
open PySem L2 RZ Pd PyProof.Rows
theorem all_mk {l : PySem.W.OpenLaw} {w : World} {K : PySem.W.Frag} {h : Heap} {mg : Str → Option Value} {fa CBook CKindError CNoOrder f0 f1 f2 f3 f4 f5 f6 f7 f8 f9 f10 f11 f12 f13 f14 f15 f16 f17 f18 f19 f20 f21 f22 f23 f24 f25 : Addr} (X : K.In h) (G : h.Ns mainGlobals mg) (hfa : mg "law" = some (.ref fa))
    {nmNoOrder qNoOrder : Str} {NNoOrder : Addr} {bsNoOrder : List Value} {snNoOrder : List Str} {subNoOrder : List Value} {abNoOrder : Bool} {colNoOrder : Option Bool} {ddNoOrder : Option Addr} {m0NoOrder m1NoOrder m2NoOrder m3NoOrder m5NoOrder : Option Value} {od0 an0 : Option Addr} {sl0 : Array (Option Value)} {oc0 kV0 dc0 pm0 cd0 ct0 : Value} {od1 an1 : Option Addr} {sl1 : Array (Option Value)} {oc1 kV1 dc1 pm1 cd1 ct1 : Value} {od2 an2 : Option Addr} {sl2 : Array (Option Value)} {oc2 kV2 dc2 pm2 cd2 ct2 : Value} {od3 an3 : Option Addr} {sl3 : Array (Option Value)} {oc3 kV3 dc3 pm3 cd3 ct3 : Value} {od4 an4 : Option Addr} {sl4 : Array (Option Value)} {oc4 kV4 dc4 pm4 cd4 ct4 : Value} {od5 an5 : Option Addr} {sl5 : Array (Option Value)} {oc5 kV5 dc5 pm5 cd5 ct5 : Value} {od6 an6 : Option Addr} {sl6 : Array (Option Value)} {oc6 kV6 dc6 pm6 cd6 ct6 : Value} {od7 an7 : Option Addr} {sl7 : Array (Option Value)} {oc7 kV7 dc7 pm7 cd7 ct7 : Value} {od8 an8 : Option Addr} {sl8 : Array (Option Value)} {oc8 kV8 dc8 pm8 cd8 ct8 : Value} {od9 an9 : Option Addr} {sl9 : Array (Option Value)} {oc9 kV9 dc9 pm9 cd9 ct9 : Value} {od10 an10 : Option Addr} {sl10 : Array (Option Value)} {oc10 kV10 dc10 pm10 cd10 ct10 : Value} {od11 an11 : Option Addr} {sl11 : Array (Option Value)} {oc11 kV11 dc11 pm11 cd11 ct11 : Value} {od12 an12 : Option Addr} {sl12 : Array (Option Value)} {oc12 kV12 dc12 pm12 cd12 ct12 : Value} {od13 an13 : Option Addr} {sl13 : Array (Option Value)} {oc13 kV13 dc13 pm13 cd13 ct13 : Value} {od14 an14 : Option Addr} {sl14 : Array (Option Value)} {oc14 kV14 dc14 pm14 cd14 ct14 : Value} {od15 an15 : Option Addr} {sl15 : Array (Option Value)} {oc15 kV15 dc15 pm15 cd15 ct15 : Value} {od16 an16 : Option Addr} {sl16 : Array (Option Value)} {oc16 kV16 dc16 pm16 cd16 ct16 : Value} {od17 an17 : Option Addr} {sl17 : Array (Option Value)} {oc17 kV17 dc17 pm17 cd17 ct17 : Value} {od18 an18 : Option Addr} {sl18 : Array (Option Value)} {oc18 kV18 dc18 pm18 cd18 ct18 : Value} {od19 an19 : Option Addr} {sl19 : Array (Option Value)} {oc19 kV19 dc19 pm19 cd19 ct19 : Value} {od20 an20 : Option Addr} {sl20 : Array (Option Value)} {oc20 kV20 dc20 pm20 cd20 ct20 : Value} {od21 an21 : Option Addr} {sl21 : Array (Option Value)} {oc21 kV21 dc21 pm21 cd21 ct21 : Value} {od22 an22 : Option Addr} {sl22 : Array (Option Value)} {oc22 kV22 dc22 pm22 cd22 ct22 : Value} {od23 an23 : Option Addr} {sl23 : Array (Option Value)} {oc23 kV23 dc23 pm23 cd23 ct23 : Value} {od24 an24 : Option Addr} {sl24 : Array (Option Value)} {oc24 kV24 dc24 pm24 cd24 ct24 : Value} {od25 an25 : Option Addr} {sl25 : Array (Option Value)} {oc25 kV25 dc25 pm25 cd25 ct25 : Value} {tk_MOST_KINDS : Tok} {tk_MOST_PARENTS : Tok}
    (aCBook : PySem.W.nsIn K mainGlobals "Book" = some (some (.ref CBook)))
    (pgBook : PySem.W.plainGet K CBook Str.empty = true)
    (hdBook : PySem.W.hasDictIn K CBook = true)
    (poBook : PySem.W.plainOver K CBook = true)
    (saBook : PySem.W.findIn K (.ref CBook) "__setattr__" = some (some (.builtin "object.__setattr__")))
    (mkBook : PySem.W.makesIn K CBook = true)
    (kcBook : PySem.W.keepIn K (.ref CBook) = true)
    (haBook : PySem.W.findIn K (.ref CBook) "__class__" = some (some (.builtin "object.__class__")))
    (hmBook : PySem.W.mroIn K CBook (.type "object") = some true)
    (uBook_int : PySem.W.kitOne K (.ref CBook) (.type "int") = some false)
    (uBook_bool : PySem.W.kitOne K (.ref CBook) (.type "bool") = some false)
    (uBook_tuple : PySem.W.kitOne K (.ref CBook) (.type "tuple") = some false)
    (uBook_list : PySem.W.kitOne K (.ref CBook) (.type "list") = some false)
    (uBook_str : PySem.W.kitOne K (.ref CBook) (.type "str") = some false)
    (uBook_dict : PySem.W.kitOne K (.ref CBook) (.type "dict") = some false)
    (sBook : PySem.W.kitOne K (.ref CBook) (.ref CBook) = some true)
    (nBook_parents : PySem.W.findIn K (.ref CBook) "parents" = some none)
    (nBook_above : PySem.W.findIn K (.ref CBook) "above" = some none)
    (hnO : PySem.W.specialIn K (.builtin "object.__class__") "__get__" = some (some (.builtin "getset_descriptor.__get__")))
    (htO : PySem.W.takesIn K (.builtin "object.__class__") = some true)
    (aCKindError : PySem.W.nsIn K mainGlobals "KindError" = some (some (.ref CKindError)))
    (aCNoOrder : PySem.W.nsIn K mainGlobals "NoOrder" = some (some (.ref CNoOrder)))
    (xLNoOrder : K.lookup CNoOrder = some (excClassObj nmNoOrder qNoOrder CNoOrder NNoOrder bsNoOrder [.ref CKindError, .type "ValueError", .type "Exception", .type "BaseException", .type "object"] true snNoOrder subNoOrder abNoOrder colNoOrder ddNoOrder m0NoOrder m1NoOrder m2NoOrder m3NoOrder m5NoOrder "ValueError.__new__"))
    (xsaNoOrder : PySem.W.findIn K (.ref CNoOrder) "__setattr__" = some (some (.builtin "object.__setattr__")))
    (xecNoOrder : PySem.W.subIn K (.ref CNoOrder) (.type "BaseException") = some true)
    (xtcNoOrder : PySem.W.typeIn K (.ref CNoOrder) = some (.type "type"))
    (xkcNoOrder : PySem.W.keepIn K (.ref CNoOrder) = true)
    (xgaNoOrder : PySem.W.findIn K (.ref CNoOrder) "__getattribute__" = some (some (.builtin "BaseException.__getattribute__")))
    (xggNoOrder : PySem.W.findIn K (.ref CNoOrder) "__getattr__" = some none)
    (xhdNoOrder : PySem.W.hasDictIn K CNoOrder = true)
    (xhaNoOrder : PySem.W.findIn K (.ref CNoOrder) "__class__" = some (some (.builtin "object.__class__")))
    (xhmNoOrder : PySem.W.mroIn K CNoOrder (.type "object") = some true)
    (sbNoOrder_KindError : PySem.W.subIn K (.ref CNoOrder) (.ref CKindError) = some true)
    (sbNoOrder_NoOrder : PySem.W.subIn K (.ref CNoOrder) (.ref CNoOrder) = some true)
    (kkNoOrder_KindError : PySem.W.kitOne K (.ref CNoOrder) (.ref CKindError) = some true)
    (kkNoOrder_ValueError : PySem.W.kitOne K (.ref CNoOrder) (.type "ValueError") = some true)
    (ybKindError : PySem.W.subIn K (.ref CKindError) (.type "BaseException") = some true)
    (ydKindError : PySem.W.hasDictIn K CKindError = true)
    (ytKindError : PySem.W.typeIn K (.ref CKindError) = some (.type "type"))
    (ybNoOrder : PySem.W.subIn K (.ref CNoOrder) (.type "BaseException") = some true)
    (ydNoOrder : PySem.W.hasDictIn K CNoOrder = true)
    (ytNoOrder : PySem.W.typeIn K (.ref CNoOrder) = some (.type "type"))
    (a0 : PySem.W.nsIn K mainGlobals "is_integer" = some (some (.ref f0)))
    (l0 : K.lookup f0 = some ⟨oc0, od0, .func (PySem.W.fnOf "is_integer" "is_integer" (defArgs s_is_integer) (defBody s_is_integer) (defScope s_is_integer) .none kV0 dc0 pm0 an0 cd0 ct0), sl0⟩)
    (c0 : PySem.W.codeIn K cd0 "is_integer" = true)
    (k0 : PySem.W.keepIn K (.ref f0) = true)
    (a1 : PySem.W.nsIn K mainGlobals "is_number" = some (some (.ref f1)))
    (l1 : K.lookup f1 = some ⟨oc1, od1, .func (PySem.W.fnOf "is_number" "is_number" (defArgs s_is_number) (defBody s_is_number) (defScope s_is_number) .none kV1 dc1 pm1 an1 cd1 ct1), sl1⟩)
    (c1 : PySem.W.codeIn K cd1 "is_number" = true)
    (k1 : PySem.W.keepIn K (.ref f1) = true)
    (a2 : PySem.W.nsIn K mainGlobals "is_lot" = some (some (.ref f2)))
    (l2 : K.lookup f2 = some ⟨oc2, od2, .func (PySem.W.fnOf "is_lot" "is_lot" (defArgs s_is_lot) (defBody s_is_lot) (defScope s_is_lot) .none kV2 dc2 pm2 an2 cd2 ct2), sl2⟩)
    (c2 : PySem.W.codeIn K cd2 "is_lot" = true)
    (k2 : PySem.W.keepIn K (.ref f2) = true)
    (a3 : PySem.W.nsIn K mainGlobals "masks_above" = some (some (.ref f3)))
    (l3 : K.lookup f3 = some ⟨oc3, od3, .func (PySem.W.fnOf "masks_above" "masks_above" (defArgs s_masks_above) (defBody s_masks_above) (defScope s_masks_above) .none kV3 dc3 pm3 an3 cd3 ct3), sl3⟩)
    (c3 : PySem.W.codeIn K cd3 "masks_above" = true)
    (k3 : PySem.W.keepIn K (.ref f3) = true)
    (a4 : PySem.W.nsIn K mainGlobals "is_parents" = some (some (.ref f4)))
    (l4 : K.lookup f4 = some ⟨oc4, od4, .func (PySem.W.fnOf "is_parents" "is_parents" (defArgs s_is_parents) (defBody s_is_parents) (defScope s_is_parents) .none kV4 dc4 pm4 an4 cd4 ct4), sl4⟩)
    (c4 : PySem.W.codeIn K cd4 "is_parents" = true)
    (k4 : PySem.W.keepIn K (.ref f4) = true)
    (a5 : PySem.W.nsIn K mainGlobals "first_bad" = some (some (.ref f5)))
    (l5 : K.lookup f5 = some ⟨oc5, od5, .func (PySem.W.fnOf "first_bad" "first_bad" (defArgs s_first_bad) (defBody s_first_bad) (defScope s_first_bad) .none kV5 dc5 pm5 an5 cd5 ct5), sl5⟩)
    (c5 : PySem.W.codeIn K cd5 "first_bad" = true)
    (k5 : PySem.W.keepIn K (.ref f5) = true)
    (a6 : PySem.W.findIn K (.ref CBook) "__init__" = some (some (.ref f6)))
    (i6 : PySem.W.isFn K (.ref f6) = true)
    (l6 : K.lookup f6 = some ⟨oc6, od6, .func (PySem.W.fnOf "__init__" "Book.__init__" (defArgs s_Book__init_) (defBody s_Book__init_) (defScope s_Book__init_) .none kV6 dc6 pm6 an6 cd6 ct6), sl6⟩)
    (c6 : PySem.W.codeIn K cd6 "Book.__init__" = true)
    (k6 : PySem.W.keepIn K (.ref f6) = true)
    (a7 : PySem.W.findIn K (.ref CBook) "__eq__" = some (some (.ref f7)))
    (i7 : PySem.W.isFn K (.ref f7) = true)
    (l7 : K.lookup f7 = some ⟨oc7, od7, .func (PySem.W.fnOf "__eq__" "Book.__eq__" (defArgs s_Book__eq_) (defBody s_Book__eq_) (defScope s_Book__eq_) .none kV7 dc7 pm7 an7 cd7 ct7), sl7⟩)
    (c7 : PySem.W.codeIn K cd7 "Book.__eq__" = true)
    (k7 : PySem.W.keepIn K (.ref f7) = true)
    (a8 : PySem.W.nsIn K mainGlobals "made_book" = some (some (.ref f8)))
    (l8 : K.lookup f8 = some ⟨oc8, od8, .func (PySem.W.fnOf "made_book" "made_book" (defArgs s_made_book) (defBody s_made_book) (defScope s_made_book) .none kV8 dc8 pm8 an8 cd8 ct8), sl8⟩)
    (c8 : PySem.W.codeIn K cd8 "made_book" = true)
    (k8 : PySem.W.keepIn K (.ref f8) = true)
    (a9 : PySem.W.nsIn K mainGlobals "is_order" = some (some (.ref f9)))
    (l9 : K.lookup f9 = some ⟨oc9, od9, .func (PySem.W.fnOf "is_order" "is_order" (defArgs s_is_order) (defBody s_is_order) (defScope s_is_order) .none kV9 dc9 pm9 an9 cd9 ct9), sl9⟩)
    (c9 : PySem.W.codeIn K cd9 "is_order" = true)
    (k9 : PySem.W.keepIn K (.ref f9) = true)
    (a10 : PySem.W.findIn K (.ref CNoOrder) "__init__" = some (some (.ref f10)))
    (i10 : PySem.W.isFn K (.ref f10) = true)
    (j10 : PySem.W.typeIn K (.ref f10) = some (.type "function"))
    (l10 : K.lookup f10 = some ⟨oc10, od10, .func (PySem.W.fnOf "__init__" "NoOrder.__init__" (defArgs s_NoOrder__init_) (defBody s_NoOrder__init_) (defScope s_NoOrder__init_) .none kV10 dc10 pm10 an10 cd10 ct10), sl10⟩)
    (c10 : PySem.W.codeIn K cd10 "NoOrder.__init__" = true)
    (k10 : PySem.W.keepIn K (.ref f10) = true)
    (a11 : PySem.W.nsIn K mainGlobals "reordered" = some (some (.ref f11)))
    (l11 : K.lookup f11 = some ⟨oc11, od11, .func (PySem.W.fnOf "reordered" "reordered" (defArgs s_reordered) (defBody s_reordered) (defScope s_reordered) .none kV11 dc11 pm11 an11 cd11 ct11), sl11⟩)
    (c11 : PySem.W.codeIn K cd11 "reordered" = true)
    (k11 : PySem.W.keepIn K (.ref f11) = true)
    (a12 : PySem.W.nsIn K mainGlobals "beside" = some (some (.ref f12)))
    (l12 : K.lookup f12 = some ⟨oc12, od12, .func (PySem.W.fnOf "beside" "beside" (defArgs s_beside) (defBody s_beside) (defScope s_beside) .none kV12 dc12 pm12 an12 cd12 ct12), sl12⟩)
    (c12 : PySem.W.codeIn K cd12 "beside" = true)
    (k12 : PySem.W.keepIn K (.ref f12) = true)
    (a13 : PySem.W.nsIn K mainGlobals "_law_tape" = some (some (.ref f13)))
    (l13 : K.lookup f13 = some ⟨oc13, od13, .func (PySem.W.fnOf "_law_tape" "_law_tape" (defArgs s_law_tape) (defBody s_law_tape) (defScope s_law_tape) .none kV13 dc13 pm13 an13 cd13 ct13), sl13⟩)
    (c13 : PySem.W.codeIn K cd13 "_law_tape" = true)
    (k13 : PySem.W.keepIn K (.ref f13) = true)
    (a14 : PySem.W.nsIn K mainGlobals "_law_pick" = some (some (.ref f14)))
    (l14 : K.lookup f14 = some ⟨oc14, od14, .func (PySem.W.fnOf "_law_pick" "_law_pick" (defArgs s_law_pick) (defBody s_law_pick) (defScope s_law_pick) .none kV14 dc14 pm14 an14 cd14 ct14), sl14⟩)
    (c14 : PySem.W.codeIn K cd14 "_law_pick" = true)
    (k14 : PySem.W.keepIn K (.ref f14) = true)
    (a15 : PySem.W.nsIn K mainGlobals "_law_is" = some (some (.ref f15)))
    (l15 : K.lookup f15 = some ⟨oc15, od15, .func (PySem.W.fnOf "_law_is" "_law_is" (defArgs s_law_is) (defBody s_law_is) (defScope s_law_is) .none kV15 dc15 pm15 an15 cd15 ct15), sl15⟩)
    (c15 : PySem.W.codeIn K cd15 "_law_is" = true)
    (k15 : PySem.W.keepIn K (.ref f15) = true)
    (a16 : PySem.W.nsIn K mainGlobals "_law_parents" = some (some (.ref f16)))
    (l16 : K.lookup f16 = some ⟨oc16, od16, .func (PySem.W.fnOf "_law_parents" "_law_parents" (defArgs s_law_parents) (defBody s_law_parents) (defScope s_law_parents) .none kV16 dc16 pm16 an16 cd16 ct16), sl16⟩)
    (c16 : PySem.W.codeIn K cd16 "_law_parents" = true)
    (k16 : PySem.W.keepIn K (.ref f16) = true)
    (a17 : PySem.W.nsIn K mainGlobals "_law_rows" = some (some (.ref f17)))
    (l17 : K.lookup f17 = some ⟨oc17, od17, .func (PySem.W.fnOf "_law_rows" "_law_rows" (defArgs s_law_rows) (defBody s_law_rows) (defScope s_law_rows) .none kV17 dc17 pm17 an17 cd17 ct17), sl17⟩)
    (c17 : PySem.W.codeIn K cd17 "_law_rows" = true)
    (k17 : PySem.W.keepIn K (.ref f17) = true)
    (a18 : PySem.W.nsIn K mainGlobals "_law_above" = some (some (.ref f18)))
    (l18 : K.lookup f18 = some ⟨oc18, od18, .func (PySem.W.fnOf "_law_above" "_law_above" (defArgs s_law_above) (defBody s_law_above) (defScope s_law_above) .none kV18 dc18 pm18 an18 cd18 ct18), sl18⟩)
    (c18 : PySem.W.codeIn K cd18 "_law_above" = true)
    (k18 : PySem.W.keepIn K (.ref f18) = true)
    (a19 : PySem.W.nsIn K mainGlobals "_law_deep" = some (some (.ref f19)))
    (l19 : K.lookup f19 = some ⟨oc19, od19, .func (PySem.W.fnOf "_law_deep" "_law_deep" (defArgs s_law_deep) (defBody s_law_deep) (defScope s_law_deep) .none kV19 dc19 pm19 an19 cd19 ct19), sl19⟩)
    (c19 : PySem.W.codeIn K cd19 "_law_deep" = true)
    (k19 : PySem.W.keepIn K (.ref f19) = true)
    (a20 : PySem.W.nsIn K mainGlobals "_law_order" = some (some (.ref f20)))
    (l20 : K.lookup f20 = some ⟨oc20, od20, .func (PySem.W.fnOf "_law_order" "_law_order" (defArgs s_law_order) (defBody s_law_order) (defScope s_law_order) .none kV20 dc20 pm20 an20 cd20 ct20), sl20⟩)
    (c20 : PySem.W.codeIn K cd20 "_law_order" = true)
    (k20 : PySem.W.keepIn K (.ref f20) = true)
    (a21 : PySem.W.nsIn K mainGlobals "_law_is_order" = some (some (.ref f21)))
    (l21 : K.lookup f21 = some ⟨oc21, od21, .func (PySem.W.fnOf "_law_is_order" "_law_is_order" (defArgs s_law_is_order) (defBody s_law_is_order) (defScope s_law_is_order) .none kV21 dc21 pm21 an21 cd21 ct21), sl21⟩)
    (c21 : PySem.W.codeIn K cd21 "_law_is_order" = true)
    (k21 : PySem.W.keepIn K (.ref f21) = true)
    (a22 : PySem.W.nsIn K mainGlobals "_law_word" = some (some (.ref f22)))
    (l22 : K.lookup f22 = some ⟨oc22, od22, .func (PySem.W.fnOf "_law_word" "_law_word" (defArgs s_law_word) (defBody s_law_word) (defScope s_law_word) .none kV22 dc22 pm22 an22 cd22 ct22), sl22⟩)
    (c22 : PySem.W.codeIn K cd22 "_law_word" = true)
    (k22 : PySem.W.keepIn K (.ref f22) = true)
    (a23 : PySem.W.nsIn K mainGlobals "_law_bent" = some (some (.ref f23)))
    (l23 : K.lookup f23 = some ⟨oc23, od23, .func (PySem.W.fnOf "_law_bent" "_law_bent" (defArgs s_law_bent) (defBody s_law_bent) (defScope s_law_bent) .none kV23 dc23 pm23 an23 cd23 ct23), sl23⟩)
    (c23 : PySem.W.codeIn K cd23 "_law_bent" = true)
    (k23 : PySem.W.keepIn K (.ref f23) = true)
    (a24 : PySem.W.nsIn K mainGlobals "_law_reordered_right" = some (some (.ref f24)))
    (l24 : K.lookup f24 = some ⟨oc24, od24, .func (PySem.W.fnOf "_law_reordered_right" "_law_reordered_right" (defArgs s_law_reordered_right) (defBody s_law_reordered_right) (defScope s_law_reordered_right) .none kV24 dc24 pm24 an24 cd24 ct24), sl24⟩)
    (c24 : PySem.W.codeIn K cd24 "_law_reordered_right" = true)
    (k24 : PySem.W.keepIn K (.ref f24) = true)
    (a25 : PySem.W.nsIn K mainGlobals "law" = some (some (.ref f25)))
    (l25 : K.lookup f25 = some ⟨oc25, od25, .func (PySem.W.fnOf "law" "law" (defArgs s_law) (defBody s_law) (defScope s_law) .none kV25 dc25 pm25 an25 cd25 ct25), sl25⟩)
    (c25 : PySem.W.codeIn K cd25 "law" = true)
    (k25 : PySem.W.keepIn K (.ref f25) = true)
    (zb_ValueError : PySem.W.nsIn K mainGlobals "ValueError" = some none)
    (zb_all : PySem.W.nsIn K mainGlobals "all" = some none)
    (zb_bool : PySem.W.nsIn K mainGlobals "bool" = some none)
    (zb_enumerate : PySem.W.nsIn K mainGlobals "enumerate" = some none)
    (zb_int : PySem.W.nsIn K mainGlobals "int" = some none)
    (zb_isinstance : PySem.W.nsIn K mainGlobals "isinstance" = some none)
    (zb_len : PySem.W.nsIn K mainGlobals "len" = some none)
    (zb_list : PySem.W.nsIn K mainGlobals "list" = some none)
    (zb_max : PySem.W.nsIn K mainGlobals "max" = some none)
    (zb_range : PySem.W.nsIn K mainGlobals "range" = some none)
    (zb_set : PySem.W.nsIn K mainGlobals "set" = some none)
    (zb_sorted : PySem.W.nsIn K mainGlobals "sorted" = some none)
    (zb_tuple : PySem.W.nsIn K mainGlobals "tuple" = some none)
    (zb_zip : PySem.W.nsIn K mainGlobals "zip" = some none)
    (cc_MOST_KINDS : PySem.W.nsIn K mainGlobals "MOST_KINDS" = some (some (.int 400 tk_MOST_KINDS)))
    (cc_MOST_PARENTS : PySem.W.nsIn K mainGlobals "MOST_PARENTS" = some (some (.int 6 tk_MOST_PARENTS))) :
    ∃ fd : FuncData, (∀ (s : Shared) (v : Value), BindsTo s fd ⟨[v], []⟩ [("_law_script", v)]) ∧ ∀ base : Heap, K.In base → base.Ns mainGlobals mg → FnOk l.prog w K mg base CX0 11 fa fd ["_law_script"] (sp_law K 0 0 0) := by
  have e := hfa.symm.trans (PySem.W.mg_of X G a25)
  cases e
  have T : Txt K mg CBook CKindError CNoOrder := {
    z_ValueError := PySem.W.mg_none_of X G zb_ValueError,
    z_all := PySem.W.mg_none_of X G zb_all,
    z_bool := PySem.W.mg_none_of X G zb_bool,
    z_enumerate := PySem.W.mg_none_of X G zb_enumerate,
    z_int := PySem.W.mg_none_of X G zb_int,
    z_isinstance := PySem.W.mg_none_of X G zb_isinstance,
    z_len := PySem.W.mg_none_of X G zb_len,
    z_list := PySem.W.mg_none_of X G zb_list,
    z_max := PySem.W.mg_none_of X G zb_max,
    z_range := PySem.W.mg_none_of X G zb_range,
    z_set := PySem.W.mg_none_of X G zb_set,
    z_sorted := PySem.W.mg_none_of X G zb_sorted,
    z_tuple := PySem.W.mg_none_of X G zb_tuple,
    z_zip := PySem.W.mg_none_of X G zb_zip,
    c_MOST_KINDS := ⟨_, PySem.W.mg_of X G cc_MOST_KINDS⟩,
    c_MOST_PARENTS := ⟨_, PySem.W.mg_of X G cc_MOST_PARENTS⟩,
    g_Book := PySem.W.mg_of X G aCBook,
    o_Book := ⟨⟨⟨pgBook, hdBook, poBook, saBook⟩, haBook, hnO, htO, hmBook⟩, by
      intro T hT
      have hT' : T = "int" ∨ T = "bool" ∨ T = "tuple" ∨ T = "list" ∨ T = "str" ∨ T = "dict" := by simpa [usual] using hT
      rcases hT' with rfl | rfl | rfl | rfl | rfl | rfl
      · exact uBook_int
      · exact uBook_bool
      · exact uBook_tuple
      · exact uBook_list
      · exact uBook_str
      · exact uBook_dict⟩,
    s_Book := sBook,
    n_Book_parents := nBook_parents,
    n_Book_above := nBook_above,
    g_KindError := PySem.W.mg_of X G aCKindError,
    g_NoOrder := PySem.W.mg_of X G aCNoOrder,
    e_NoOrder := ⟨xgaNoOrder, xggNoOrder, xecNoOrder, xhdNoOrder, xhaNoOrder, hnO, htO, xhmNoOrder⟩,
    m_NoOrder_KindError := PySem.W.exm_ref ybKindError ydKindError ytKindError sbNoOrder_KindError,
    m_NoOrder_NoOrder := PySem.W.exm_ref ybNoOrder ydNoOrder ytNoOrder sbNoOrder_NoOrder,
    k_NoOrder_KindError := kkNoOrder_KindError,
    k_NoOrder_ValueError := kkNoOrder_ValueError }
  refine ⟨PySem.W.fnOf "law" "law" (defArgs s_law) (defBody s_law) (defScope s_law) .none kV25 dc25 pm25 an25 cd25 ct25, fun s v => .of_eq rfl, fun base _ _ => ?_⟩
  have H_is_integer : Has l.prog w K mg base 1 "is_integer" ["thing"] (sp_is_integer K CBook CKindError CNoOrder) := ⟨f0, _, PySem.W.mg_of X G a0, k0, ((fun_mk (st := s_is_integer) l0 c0 k0).binds (ps := ["thing"]) fun _ _ _ _ _ _ us hl => match us, hl with | [_], _ => rfl), ok_is_integer (fun_mk (st := s_is_integer) l0 c0 k0) T⟩
  have H_is_number : Has l.prog w K mg base 2 "is_number" ["thing", "low", "high"] (sp_is_number K CBook CKindError CNoOrder) := ⟨f1, _, PySem.W.mg_of X G a1, k1, ((fun_mk (st := s_is_number) l1 c1 k1).binds (ps := ["thing", "low", "high"]) fun _ _ _ _ _ _ us hl => match us, hl with | [_, _, _], _ => rfl), ok_is_number (fun_mk (st := s_is_number) l1 c1 k1) T H_is_integer⟩
  have H_is_lot : Has l.prog w K mg base 3 "is_lot" ["thing", "many"] (sp_is_lot K CBook CKindError CNoOrder) := ⟨f2, _, PySem.W.mg_of X G a2, k2, ((fun_mk (st := s_is_lot) l2 c2 k2).binds (ps := ["thing", "many"]) fun _ _ _ _ _ _ us hl => match us, hl with | [_, _], _ => rfl), ok_is_lot (fun_mk (st := s_is_lot) l2 c2 k2) T H_is_number⟩
  have H_masks_above : Has l.prog w K mg base 1 "masks_above" ["parents"] (sp_masks_above K CBook CKindError CNoOrder) := ⟨f3, _, PySem.W.mg_of X G a3, k3, ((fun_mk (st := s_masks_above) l3 c3 k3).binds (ps := ["parents"]) fun _ _ _ _ _ _ us hl => match us, hl with | [_], _ => rfl), ok_masks_above (fun_mk (st := s_masks_above) l3 c3 k3) T⟩
  have H_is_parents : Has l.prog w K mg base 4 "is_parents" ["thing", "kind"] (sp_is_parents K CBook CKindError CNoOrder) := ⟨f4, _, PySem.W.mg_of X G a4, k4, ((fun_mk (st := s_is_parents) l4 c4 k4).binds (ps := ["thing", "kind"]) fun _ _ _ _ _ _ us hl => match us, hl with | [_, _], _ => rfl), ok_is_parents (fun_mk (st := s_is_parents) l4 c4 k4) T H_is_lot⟩
  have H_first_bad : Has l.prog w K mg base 5 "first_bad" ["parents"] (sp_first_bad K CBook CKindError CNoOrder) := ⟨f5, _, PySem.W.mg_of X G a5, k5, ((fun_mk (st := s_first_bad) l5 c5 k5).binds (ps := ["parents"]) fun _ _ _ _ _ _ us hl => match us, hl with | [_], _ => rfl), ok_first_bad (fun_mk (st := s_first_bad) l5 c5 k5) T H_is_parents⟩
  have H_Book : New l.prog w K mg base 6 "Book" ["self", "parents"] CBook ["parents", "above"] (pre_Book__init_ K CBook CKindError CNoOrder) := ⟨f6, _, PySem.W.mg_of X G aCBook, ⟨mkBook, a6, i6, kcBook⟩, ((fun_mk (st := s_Book__init_) l6 c6 k6).binds (ps := ["self", "parents"]) fun _ _ _ _ _ _ us hl => match us, hl with | [_, _], _ => rfl), ok_Book__init_ (fun_mk (st := s_Book__init_) l6 c6 k6) T H_first_bad H_masks_above⟩
  have H_BookEq : EqOf l.prog w K mg base 1 CBook ["self", "other"] (sp_Book__eq_ K CBook CKindError CNoOrder) := ⟨f7, _, a7, i7, ((fun_mk (st := s_Book__eq_) l7 c7 k7).binds (ps := ["self", "other"]) fun _ _ _ _ _ _ us hl => match us, hl with | [_, _], _ => rfl), ok_Book__eq_ (fun_mk (st := s_Book__eq_) l7 c7 k7) T⟩
  have H_made_book : Has l.prog w K mg base 8 "made_book" ["parents"] (sp_made_book K CBook CKindError CNoOrder) := ⟨f8, _, PySem.W.mg_of X G a8, k8, ((fun_mk (st := s_made_book) l8 c8 k8).binds (ps := ["parents"]) fun _ _ _ _ _ _ us hl => match us, hl with | [_], _ => rfl), ok_made_book (fun_mk (st := s_made_book) l8 c8 k8) T H_Book H_masks_above⟩
  have H_is_order : Has l.prog w K mg base 3 "is_order" ["book", "thing"] (sp_is_order K CBook CKindError CNoOrder) := ⟨f9, _, PySem.W.mg_of X G a9, k9, ((fun_mk (st := s_is_order) l9 c9 k9).binds (ps := ["book", "thing"]) fun _ _ _ _ _ _ us hl => match us, hl with | [_, _], _ => rfl), ok_is_order (fun_mk (st := s_is_order) l9 c9 k9) T H_is_number⟩
  have N_NoOrder : XNew l.prog w K mg base 1 "NoOrder" CNoOrder := ⟨PySem.W.mg_of X G aCNoOrder, ⟨⟨_, _, _, _, _, _, _, _, _, _, _, _, _, _, _, xLNoOrder, rfl⟩, xsaNoOrder, xecNoOrder, xtcNoOrder, xkcNoOrder⟩, f10, _, ["self"], a10, j10, ok_NoOrder__init_ (fun_mk (st := s_NoOrder__init_) l10 c10 k10), ((fun_mk (st := s_NoOrder__init_) l10 c10 k10).binds (ps := ["self"]) fun _ _ _ _ _ _ us hl => match us, hl with | [_], _ => rfl)⟩
  have H_reordered : HasX l.prog w K mg base 9 "reordered" ["book", "order"] (sp_reordered K CBook CKindError CNoOrder) := ⟨f11, _, PySem.W.mg_of X G a11, k11, ((fun_mk (st := s_reordered) l11 c11 k11).binds (ps := ["book", "order"]) fun _ _ _ _ _ _ us hl => match us, hl with | [_, _], _ => rfl), ok_reordered (fun_mk (st := s_reordered) l11 c11 k11) T H_is_order N_NoOrder H_made_book⟩
  have H_beside : Has l.prog w K mg base 9 "beside" ["one_book", "other_book"] (sp_beside K CBook CKindError CNoOrder) := ⟨f12, _, PySem.W.mg_of X G a12, k12, ((fun_mk (st := s_beside) l12 c12 k12).binds (ps := ["one_book", "other_book"]) fun _ _ _ _ _ _ us hl => match us, hl with | [_, _], _ => rfl), ok_beside (fun_mk (st := s_beside) l12 c12 k12) T H_made_book⟩
  have H_law_tape : Has l.prog w K mg base 1 "_law_tape" ["_law_script"] (sp_law_tape K CBook CKindError CNoOrder) := ⟨f13, _, PySem.W.mg_of X G a13, k13, ((fun_mk (st := s_law_tape) l13 c13 k13).binds (ps := ["_law_script"]) fun _ _ _ _ _ _ us hl => match us, hl with | [_], _ => rfl), ok_law_tape (fun_mk (st := s_law_tape) l13 c13 k13) T⟩
  have H_law_pick : Has l.prog w K mg base 1 "_law_pick" ["_law_tape_here", "_law_many"] (sp_law_pick K CBook CKindError CNoOrder) := ⟨f14, _, PySem.W.mg_of X G a14, k14, ((fun_mk (st := s_law_pick) l14 c14 k14).binds (ps := ["_law_tape_here", "_law_many"]) fun _ _ _ _ _ _ us hl => match us, hl with | [_, _], _ => rfl), ok_law_pick (fun_mk (st := s_law_pick) l14 c14 k14) T⟩
  have H_law_is0 : Has l.prog w K mg base 1 "_law_is" ["_law_told", "_law_due"] (FSp (pre_law_is 0 K CBook CKindError CNoOrder)) := ⟨f15, _, PySem.W.mg_of X G a15, k15, ((fun_mk (st := s_law_is) l15 c15 k15).binds (ps := ["_law_told", "_law_due"]) fun _ _ _ _ _ _ us hl => match us, hl with | [_, _], _ => rfl), ok_law_is_0 (fun_mk (st := s_law_is) l15 c15 k15) T⟩
  have H_law_is1 : Has l.prog w K mg base 2 "_law_is" ["_law_told", "_law_due"] (FSp (pre_law_is 1 K CBook CKindError CNoOrder)) := ⟨f15, _, PySem.W.mg_of X G a15, k15, ((fun_mk (st := s_law_is) l15 c15 k15).binds (ps := ["_law_told", "_law_due"]) fun _ _ _ _ _ _ us hl => match us, hl with | [_, _], _ => rfl), ok_law_is_s (fun_mk (st := s_law_is) l15 c15 k15) T H_law_is0⟩
  have H_law_is : Has l.prog w K mg base 3 "_law_is" ["_law_told", "_law_due"] (FSp (pre_law_is 2 K CBook CKindError CNoOrder)) := ⟨f15, _, PySem.W.mg_of X G a15, k15, ((fun_mk (st := s_law_is) l15 c15 k15).binds (ps := ["_law_told", "_law_due"]) fun _ _ _ _ _ _ us hl => match us, hl with | [_, _], _ => rfl), ok_law_is_s (fun_mk (st := s_law_is) l15 c15 k15) T H_law_is1⟩
  have H_law_parents : Has l.prog w K mg base 2 "_law_parents" ["_law_tape_here", "_law_number", "_law_kind"] (sp_law_parents K CBook CKindError CNoOrder) := ⟨f16, _, PySem.W.mg_of X G a16, k16, ((fun_mk (st := s_law_parents) l16 c16 k16).binds (ps := ["_law_tape_here", "_law_number", "_law_kind"]) fun _ _ _ _ _ _ us hl => match us, hl with | [_, _, _], _ => rfl), ok_law_parents (fun_mk (st := s_law_parents) l16 c16 k16) T H_law_pick⟩
  have H_law_rows : Has l.prog w K mg base 3 "_law_rows" ["_law_tape_here", "_law_many"] (sp_law_rows K CBook CKindError CNoOrder) := ⟨f17, _, PySem.W.mg_of X G a17, k17, ((fun_mk (st := s_law_rows) l17 c17 k17).binds (ps := ["_law_tape_here", "_law_many"]) fun _ _ _ _ _ _ us hl => match us, hl with | [_, _], _ => rfl), ok_law_rows (fun_mk (st := s_law_rows) l17 c17 k17) T H_law_pick H_law_parents⟩
  have H_law_above : Has l.prog w K mg base 1 "_law_above" ["_law_rows_here"] (sp_law_above K CBook CKindError CNoOrder) := ⟨f18, _, PySem.W.mg_of X G a18, k18, ((fun_mk (st := s_law_above) l18 c18 k18).binds (ps := ["_law_rows_here"]) fun _ _ _ _ _ _ us hl => match us, hl with | [_], _ => rfl), ok_law_above (fun_mk (st := s_law_above) l18 c18 k18) T⟩
  have H_law_deep : Has l.prog w K mg base 2 "_law_deep" ["_law_tape_here"] (sp_law_deep K CBook CKindError CNoOrder) := ⟨f19, _, PySem.W.mg_of X G a19, k19, ((fun_mk (st := s_law_deep) l19 c19 k19).binds (ps := ["_law_tape_here"]) fun _ _ _ _ _ _ us hl => match us, hl with | [_], _ => rfl), ok_law_deep (fun_mk (st := s_law_deep) l19 c19 k19) T H_law_pick⟩
  have H_law_order : Has l.prog w K mg base 2 "_law_order" ["_law_tape_here", "_law_rows_here"] (sp_law_order K CBook CKindError CNoOrder) := ⟨f20, _, PySem.W.mg_of X G a20, k20, ((fun_mk (st := s_law_order) l20 c20 k20).binds (ps := ["_law_tape_here", "_law_rows_here"]) fun _ _ _ _ _ _ us hl => match us, hl with | [_, _], _ => rfl), ok_law_order (fun_mk (st := s_law_order) l20 c20 k20) T H_law_pick⟩
  have H_law_is_order : Has l.prog w K mg base 1 "_law_is_order" ["_law_rows_here", "_law_thing"] (sp_law_is_order K CBook CKindError CNoOrder) := ⟨f21, _, PySem.W.mg_of X G a21, k21, ((fun_mk (st := s_law_is_order) l21 c21 k21).binds (ps := ["_law_rows_here", "_law_thing"]) fun _ _ _ _ _ _ us hl => match us, hl with | [_, _], _ => rfl), ok_law_is_order (fun_mk (st := s_law_is_order) l21 c21 k21) T⟩
  have H_law_word : Has l.prog w K mg base 10 "_law_word" ["_law_book", "_law_order_here"] (sp_law_word K CBook CKindError CNoOrder) := ⟨f22, _, PySem.W.mg_of X G a22, k22, ((fun_mk (st := s_law_word) l22 c22 k22).binds (ps := ["_law_book", "_law_order_here"]) fun _ _ _ _ _ _ us hl => match us, hl with | [_, _], _ => rfl), ok_law_word (fun_mk (st := s_law_word) l22 c22 k22) T H_reordered⟩
  have H_law_bent : Has l.prog w K mg base 3 "_law_bent" ["_law_tape_here", "_law_order_here"] (sp_law_bent K CBook CKindError CNoOrder) := ⟨f23, _, PySem.W.mg_of X G a23, k23, ((fun_mk (st := s_law_bent) l23 c23 k23).binds (ps := ["_law_tape_here", "_law_order_here"]) fun _ _ _ _ _ _ us hl => match us, hl with | [_, _], _ => rfl), ok_law_bent (fun_mk (st := s_law_bent) l23 c23 k23) T H_law_pick H_law_deep⟩
  have H_law_reordered_right : Has l.prog w K mg base 10 "_law_reordered_right" ["_law_tape_here", "_law_rows_here"] (sp_law_reordered_right K CBook CKindError CNoOrder) := ⟨f24, _, PySem.W.mg_of X G a24, k24, ((fun_mk (st := s_law_reordered_right) l24 c24 k24).binds (ps := ["_law_tape_here", "_law_rows_here"]) fun _ _ _ _ _ _ us hl => match us, hl with | [_, _], _ => rfl), ok_law_reordered_right (fun_mk (st := s_law_reordered_right) l24 c24 k24) T H_Book H_law_order H_reordered H_law_is H_law_above H_BookEq⟩
  have r : FnOk l.prog w K mg base CX0 11 fa _ ["_law_script"] (sp_law K CBook CKindError CNoOrder) := ok_law (fun_mk (st := s_law) l25 c25 k25) T H_law_tape H_law_rows H_law_pick H_law_reordered_right H_law_bent H_law_order H_law_word H_Book H_law_is_order H_beside H_law_is
  exact r
theorem walk {l : PySem.W.OpenLaw} {q : Program} {loose : List Str} {XP : (Str → Option Value) → Heap → Prop} {YP : World → Heap → Prop} {d : DefRec} {K : Params → PySem.W.Frag} (hn : l.most = some 63) (hdf : d.params.defaults = [])
    (hY : ∀ (w : World) (h : Heap), YP w h → (K w.params).In h)
    (F : ∀ (w : World) (mg : Str → Option Value) (fa : Addr) (h : Heap), (K w.params).In h → h.Ns mainGlobals mg → mg d.name = some (.ref fa) →
      ∃ fd : FuncData, (∀ (s : Shared) (u : Value), BindsTo s fd ⟨[u], []⟩ [("_law_script", u)]) ∧ ∀ base : Heap, (K w.params).In base → base.Ns mainGlobals mg → FnOk l.prog w (K w.params) mg base CX0 11 fa fd ["_law_script"] (sp_law (K w.params) 0 0 0)) :
    PySem.W.WalkO q loose XP YP l.row.toRowW d [] (fun f vs => PySem.call f vs) :=
  L2.walk_of (n := 63) (k := 11) (x := "_law_script") (CX := fun _ => CX0) (sp := fun w => sp_law (K w.params) 0 0 0) hn (by decide) hdf ⟨rfl, by decide, by decide⟩ hY F (fun _ _ a ns hl _ hS => ⟨a, ns, rfl, hS, hl, fun _ => rfl⟩) fun _ _ _ _ _ z => z
end Lw
open PySem PySem.W PyProof.Rows in
set_option maxRecDepth 100000 in
set_option maxHeartbeats 0 in
theorem PySem.Challenge.cw_latekinds_k03_whole_books_in_other_order_holds : PySem.Challenge.rw_latekinds_k03_whole_books_in_other_order.Holds := by
  w_on; o_law; k_head; (case hw => w_witness2)
  k_fill
  refine Lw.walk (l := PySem.Challenge.rw_latekinds_k03_whole_books_in_other_order) rfl rfl (fun w h Y => PySem.W.kIn_of Y) ?F
  case F =>
    intro w mg fa h KX G hmg
    refine' Lw.all_mk KX G hmg ?aCBook ?pgBook ?hdBook ?poBook ?saBook ?mkBook ?kcBook ?haBook ?hmBook ?uBook_int ?uBook_bool ?uBook_tuple ?uBook_list ?uBook_str ?uBook_dict ?sBook ?nBook_parents ?nBook_above ?hnO ?htO ?aCKindError ?aCNoOrder ?xLNoOrder ?xsaNoOrder ?xecNoOrder ?xtcNoOrder ?xkcNoOrder ?xgaNoOrder ?xggNoOrder ?xhdNoOrder ?xhaNoOrder ?xhmNoOrder ?sbNoOrder_KindError ?sbNoOrder_NoOrder ?kkNoOrder_KindError ?kkNoOrder_ValueError ?ybKindError ?ydKindError ?ytKindError ?ybNoOrder ?ydNoOrder ?ytNoOrder ?a0 ?l0 ?c0 ?k0 ?a1 ?l1 ?c1 ?k1 ?a2 ?l2 ?c2 ?k2 ?a3 ?l3 ?c3 ?k3 ?a4 ?l4 ?c4 ?k4 ?a5 ?l5 ?c5 ?k5 ?a6 ?i6 ?l6 ?c6 ?k6 ?a7 ?i7 ?l7 ?c7 ?k7 ?a8 ?l8 ?c8 ?k8 ?a9 ?l9 ?c9 ?k9 ?a10 ?i10 ?j10 ?l10 ?c10 ?k10 ?a11 ?l11 ?c11 ?k11 ?a12 ?l12 ?c12 ?k12 ?a13 ?l13 ?c13 ?k13 ?a14 ?l14 ?c14 ?k14 ?a15 ?l15 ?c15 ?k15 ?a16 ?l16 ?c16 ?k16 ?a17 ?l17 ?c17 ?k17 ?a18 ?l18 ?c18 ?k18 ?a19 ?l19 ?c19 ?k19 ?a20 ?l20 ?c20 ?k20 ?a21 ?l21 ?c21 ?k21 ?a22 ?l22 ?c22 ?k22 ?a23 ?l23 ?c23 ?k23 ?a24 ?l24 ?c24 ?k24 ?a25 ?l25 ?c25 ?k25 ?zb_ValueError ?zb_all ?zb_bool ?zb_enumerate ?zb_int ?zb_isinstance ?zb_len ?zb_list ?zb_max ?zb_range ?zb_set ?zb_sorted ?zb_tuple ?zb_zip ?cc_MOST_KINDS ?cc_MOST_PARENTS
    (case aCBook => k_is)
    (case pgBook => k_is)
    (case hdBook => k_is)
    (case poBook => k_is)
    (case saBook => k_is)
    (case mkBook => k_is)
    (case kcBook => k_is)
    (case haBook => k_is)
    (case hmBook => k_is)
    (case uBook_int => kit_is)
    (case uBook_bool => kit_is)
    (case uBook_tuple => kit_is)
    (case uBook_list => kit_is)
    (case uBook_str => kit_is)
    (case uBook_dict => kit_is)
    (case sBook => kit_is)
    (case nBook_parents => k_is)
    (case nBook_above => k_is)
    (case hnO => k_is)
    (case htO => k_is)
    (case aCKindError => k_is)
    (case aCNoOrder => k_is)
    (case xLNoOrder => k_is)
    (case xsaNoOrder => k_is)
    (case xecNoOrder => k_is)
    (case xtcNoOrder => k_is)
    (case xkcNoOrder => k_is)
    (case xgaNoOrder => k_is)
    (case xggNoOrder => k_is)
    (case xhdNoOrder => k_is)
    (case xhaNoOrder => k_is)
    (case xhmNoOrder => k_is)
    (case sbNoOrder_KindError => first | rfl | k_is)
    (case sbNoOrder_NoOrder => first | rfl | k_is)
    (case kkNoOrder_KindError => kit_is)
    (case kkNoOrder_ValueError => kit_is)
    (case ybKindError => k_is)
    (case ydKindError => k_is)
    (case ytKindError => k_is)
    (case ybNoOrder => k_is)
    (case ydNoOrder => k_is)
    (case ytNoOrder => k_is)
    (case a0 => k_is)
    (case l0 => k_is)
    (case c0 => k_is)
    (case k0 => k_is)
    (case a1 => k_is)
    (case l1 => k_is)
    (case c1 => k_is)
    (case k1 => k_is)
    (case a2 => k_is)
    (case l2 => k_is)
    (case c2 => k_is)
    (case k2 => k_is)
    (case a3 => k_is)
    (case l3 => k_is)
    (case c3 => k_is)
    (case k3 => k_is)
    (case a4 => k_is)
    (case l4 => k_is)
    (case c4 => k_is)
    (case k4 => k_is)
    (case a5 => k_is)
    (case l5 => k_is)
    (case c5 => k_is)
    (case k5 => k_is)
    (case a6 => k_is)
    (case i6 => k_is)
    (case l6 => k_is)
    (case c6 => k_is)
    (case k6 => k_is)
    (case a7 => k_is)
    (case i7 => k_is)
    (case l7 => k_is)
    (case c7 => k_is)
    (case k7 => k_is)
    (case a8 => k_is)
    (case l8 => k_is)
    (case c8 => k_is)
    (case k8 => k_is)
    (case a9 => k_is)
    (case l9 => k_is)
    (case c9 => k_is)
    (case k9 => k_is)
    (case a10 => k_is)
    (case i10 => k_is)
    (case j10 => k_is)
    (case l10 => k_is)
    (case c10 => k_is)
    (case k10 => k_is)
    (case a11 => k_is)
    (case l11 => k_is)
    (case c11 => k_is)
    (case k11 => k_is)
    (case a12 => k_is)
    (case l12 => k_is)
    (case c12 => k_is)
    (case k12 => k_is)
    (case a13 => k_is)
    (case l13 => k_is)
    (case c13 => k_is)
    (case k13 => k_is)
    (case a14 => k_is)
    (case l14 => k_is)
    (case c14 => k_is)
    (case k14 => k_is)
    (case a15 => k_is)
    (case l15 => k_is)
    (case c15 => k_is)
    (case k15 => k_is)
    (case a16 => k_is)
    (case l16 => k_is)
    (case c16 => k_is)
    (case k16 => k_is)
    (case a17 => k_is)
    (case l17 => k_is)
    (case c17 => k_is)
    (case k17 => k_is)
    (case a18 => k_is)
    (case l18 => k_is)
    (case c18 => k_is)
    (case k18 => k_is)
    (case a19 => k_is)
    (case l19 => k_is)
    (case c19 => k_is)
    (case k19 => k_is)
    (case a20 => k_is)
    (case l20 => k_is)
    (case c20 => k_is)
    (case k20 => k_is)
    (case a21 => k_is)
    (case l21 => k_is)
    (case c21 => k_is)
    (case k21 => k_is)
    (case a22 => k_is)
    (case l22 => k_is)
    (case c22 => k_is)
    (case k22 => k_is)
    (case a23 => k_is)
    (case l23 => k_is)
    (case c23 => k_is)
    (case k23 => k_is)
    (case a24 => k_is)
    (case l24 => k_is)
    (case c24 => k_is)
    (case k24 => k_is)
    (case a25 => k_is)
    (case l25 => k_is)
    (case c25 => k_is)
    (case k25 => k_is)
    (case zb_ValueError => k_is)
    (case zb_all => k_is)
    (case zb_bool => k_is)
    (case zb_enumerate => k_is)
    (case zb_int => k_is)
    (case zb_isinstance => k_is)
    (case zb_len => k_is)
    (case zb_list => k_is)
    (case zb_max => k_is)
    (case zb_range => k_is)
    (case zb_set => k_is)
    (case zb_sorted => k_is)
    (case zb_tuple => k_is)
    (case zb_zip => k_is)
    (case cc_MOST_KINDS => k_is)
    (case cc_MOST_PARENTS => k_is)
