import PyProof.Rows.All
import Wide.All
import OpenK.AllK
import Wide.FinOn
import HandS.ForMost
import HandS.ForExc
import HandS.IsInst
import HandS.Wide
import HandS.StrMore
import HandS.Walk
import HandS.TupAny
import HandS.Zip
import HandS.Style
import HandS.ExcIs
import KE.KDictKeyed
import KE.KeyNested
import HandS.TupLe
import HandS.Sort
import HandS.SortOrd
import HandS.ExcOwn
import HandS.WordsExc
import KE.SortKeyed
import KE.KSortTupAny
import HandS.ExcInit
import HandS.ExcValue
import HandS.ExcField
import HandS.ClsMeth
import HandS.FStr
import HandS.FStrTup
import KE.KExcIs
import KE.KExcInit
import PyProof.FitsInt
import PyProof.StrOps2
import HandS.Dict
import HandS.DictTup
import HandS.More
import PyProof.DictUpdate
import HandS.Conv
import KE.GoesZip
import KE.GoesMore
import PySem.Challenge.RW_forkrolls_k37_forms_of_deeds
set_option Elab.async false
set_option linter.all false
set_option maxRecDepth 100000
/-! Things as data; what a heap holds of them. -/
namespace Bx
open PySem PySem.Spec PyProof.Rows L2
abbrev maxS : Nat := 100000
abbrev maxL : Nat := 1000000
def okS (z : Str) : Prop := z.length ≤ maxS ∧ PyData.strOk z = true
instance (z : Str) : Decidable (okS z) := by unfold okS; infer_instance
/-- things as data: a dict by its keys and values, in order -/
inductive D where
  | non | bl (b : Bool) | int (i : Int) | str (z : Str) | tup (ds : List D) | lst (ds : List D) | dct (ks vs : List D)
mutual
def nk : D → NestedKey
  | .non => .none
  | .bl b => .num (if b = true then 1 else 0)
  | .int i => .num i
  | .str x => .text x
  | .tup ds => .tup (nks ds)
  | .lst _ => .none
  | .dct _ _ => .none
def nks : List D → List NestedKey
  | [] => []
  | d :: r => nk d :: nks r
end
/-- an entry: where its key stands, the key's datum, the value -/
abbrev Ent := Addr × D × V
def Pairs (es : List Ent) (xs : List (NestedKey × Addr × Value)) : Prop := Paired (fun (p : Ent) (q : NestedKey × Addr × Value) => nk p.2.1 = q.1 ∧ p.1 = q.2.1 ∧ RelV p.2.2 q.2.2) es xs
def DOf (P : Program) (w : World) (d : Addr) (xs : List (NestedKey × Addr × Value)) (h : Heap) : Prop := ∃ o ds ep, h.get? d = some o ∧ o.ExactDict ∧ o.data = .dict ds ep ∧ ds.toList = xs.map (entryOfKey (nestedKind P w)) ∧ (xs.map (·.1)).Nodup
def NDo (P : Program) (w : World) (d : Addr) (es : List Ent) : HO := .ext fun h => es.length ≤ sizeLine ∧ (d == sysModules) = false ∧ ∃ xs, Pairs es xs ∧ DOf P w d xs h
/-- the program, the world, the written part, where each class of errors stands -/
structure Un where
  P : Program
  w : World
  K : PySem.W.Frag
  ca : Str → Addr
def keyD : Key → D
  | .inl i => .int i
  | .inr z => .str z
/-- a dict at a: its keys as values and as data, its values -/
inductive DictAt (U : Un) (H : Hp) (a : Addr) : List V → List D → List V → Prop
  | k (kvs : List (Key × V)) (h : H a = some (.dK kvs)) : DictAt U H a (kvs.map fun e => kV e.1) (kvs.map fun e => keyD e.1) (kvs.map (·.2))
  | n (es : List Ent) (h : H a = some (NDo U.P U.w a es)) : DictAt U H a (es.map fun e => .ref e.1) (es.map (·.2.1)) (es.map (·.2.2))
abbrev Ad := Addr → Prop
/-- an error object of the class cls at a, its own dict at dv, if it has one -/
def ErO (cls : Value) (dv : Option Addr) (a : Addr) : HO := .ext fun h => ∃ oe, h.get? a = some oe ∧ Zc cls dv oe ∧ ∃ vs, oe.data = .fields vs
/-- what it keeps: nothing, or a thing as name -/
inductive EdAt (H : Hp) : Option Addr → List V → Prop
  | non : EdAt H none []
  | one {d : Addr} {v : V} (h : H d = some (.xd [("name", v)])) : EdAt H (some d) [v]
/-- an error as a datum (no dict has more keys than values): its class by its name, what it keeps -/
def errD (c : Str) (ks : List D) : D := .dct (.str c :: ks) []
mutual
inductive Is (U : Un) (A : Ad) (H : Hp) : V → D → Prop
  | non : Is U A H .non .non
  | bl (b : Bool) : Is U A H (.bl b) (.bl b)
  | int (i : Int) : Is U A H (.int i) (.int i)
  | str (z : Str) (h : okS z) : Is U A H (.str z) (.str z)
  | tup {a : Addr} {xs : List V} {ds : List D} (e : H a = some (.tup xs)) (h : IsAll U A H xs ds) (hp : ¬ A a) : Is U A H (.ref a) (.tup ds)
  | lst {a : Addr} {xs : List V} {ds : List D} (e : Rd H a (.lst xs)) (h : IsAll U A H xs ds) (hp : ¬ A a) : Is U A H (.ref a) (.lst ds)
  | dct {a : Addr} {kv xs : List V} {ks vs : List D} (e : DictAt U H a kv ks xs) (hk : IsAll U A H kv ks) (h : IsAll U A H xs vs) (hp : ¬ A a) : Is U A H (.ref a) (.dct ks vs)
  | err {a : Addr} {c : Str} {dv : Option Addr} {xs : List V} {ks : List D} (e : H a = some (ErO (.ref (U.ca c)) dv a)) (ed : EdAt H dv xs) (h : IsAll U A H xs ks) (hd : ∀ d, dv = some d → ¬ A d) (hp : ¬ A a) : Is U A H (.ref a) (.dct (.str c :: ks) [])
inductive IsAll (U : Un) (A : Ad) (H : Hp) : List V → List D → Prop
  | nil : IsAll U A H [] []
  | cons {v : V} {vs : List V} {d : D} {ds : List D} : Is U A H v d → IsAll U A H vs ds → IsAll U A H (v :: vs) (d :: ds)
end
/-- what stands unowned stands on, unowned -/
def Ext (A : Ad) (H : Hp) (A' : Ad) (H' : Hp) : Prop := ∀ a o, H a = some o → ¬ A a → H' a = some o ∧ ¬ A' a
theorem Ext.refl {A : Ad} {H : Hp} : Ext A H A H := fun _ _ h n => ⟨h, n⟩
theorem Ext.trans {A B C : Ad} {H H1 H2 : Hp} (x : Ext A H B H1) (y : Ext B H1 C H2) : Ext A H C H2 := fun a o h n => let ⟨h1, n1⟩ := x a o h n; y a o h1 n1
theorem Ext.same {A : Ad} {H H' : Hp} (s : Same H H') : Ext A H A H' := fun a o h n => ⟨s _ _ h, n⟩
theorem Same.refl' {H : Hp} : Same H H := fun _ _ h => h
theorem Same.trans' {H H1 H2 : Hp} (x : Same H H1) (y : Same H1 H2) : Same H H2 := fun a o h => y a o (x a o h)
theorem Same.new {q : Addr} {H : Hp} {o : HO} (h : H q = none) : Same H (upd H q o) := fun b x e => by
  rw [upd_ne (ne_of_none e h)]; exact e
theorem Rd.ext {A A' : Ad} {H H' : Hp} {a : Addr} {u : HO} (h : Rd H a u) (n : ¬ A a) (x : Ext A H A' H') : Rd H' a u ∧ ¬ A' a := by
  rcases h with h | ⟨o, h⟩
  · exact ⟨.inl (x _ _ h n).1, (x _ _ h n).2⟩
  · exact ⟨.inr ⟨o, (x _ _ h n).1⟩, (x _ _ h n).2⟩
theorem DictAt.ext {U : Un} {A A' : Ad} {H H' : Hp} {a : Addr} {kv : List V} {ks : List D} {xs : List V} (h : DictAt U H a kv ks xs) (n : ¬ A a) (x : Ext A H A' H') : DictAt U H' a kv ks xs ∧ ¬ A' a := by
  cases h with
  | k kvs h => exact ⟨.k kvs (x _ _ h n).1, (x _ _ h n).2⟩
  | n es h => exact ⟨.n es (x _ _ h n).1, (x _ _ h n).2⟩
theorem EdAt.ext {A A' : Ad} {H H' : Hp} {dv : Option Addr} {xs : List V} (h : EdAt H dv xs) (n : ∀ d, dv = some d → ¬ A d) (x : Ext A H A' H') : EdAt H' dv xs ∧ ∀ d, dv = some d → ¬ A' d := by
  cases h with
  | non => exact ⟨.non, fun d z => nomatch z⟩
  | one h => exact ⟨.one (x _ _ h (n _ rfl)).1, fun d z => by cases z; exact (x _ _ h (n _ rfl)).2⟩
section
variable {U : Un} {A A' : Ad} {H H' : Hp}
mutual
theorem Is.ext {v : V} {d : D} (h : Is U A H v d) (x : Ext A H A' H') : Is U A' H' v d := by
  cases h with
  | non => exact .non
  | bl b => exact .bl b
  | int i => exact .int i
  | str z hz => exact .str z hz
  | tup e h hp => exact .tup (x _ _ e hp).1 (IsAll.ext h x) (x _ _ e hp).2
  | lst e h hp => exact .lst (Rd.ext e hp x).1 (IsAll.ext h x) (Rd.ext e hp x).2
  | dct e hk h hp => exact .dct (e.ext hp x).1 (IsAll.ext hk x) (IsAll.ext h x) (e.ext hp x).2
  | err e ed h hd hp => exact .err (x _ _ e hp).1 (ed.ext hd x).1 (IsAll.ext h x) (ed.ext hd x).2 (x _ _ e hp).2
theorem IsAll.ext {vs : List V} {ds : List D} (h : IsAll U A H vs ds) (x : Ext A H A' H') : IsAll U A' H' vs ds := by
  cases h with
  | nil => exact .nil
  | cons h t => exact .cons (Is.ext h x) (IsAll.ext t x)
end
theorem Is.same {v : V} {d : D} (h : Is U A H v d) (s : Same H H') : Is U A H' v d := h.ext (Ext.same s)
theorem IsAll.same {vs : List V} {ds : List D} (h : IsAll U A H vs ds) (s : Same H H') : IsAll U A H' vs ds := h.ext (Ext.same s)
/-- fewer addresses to keep away from -/
theorem Is.less {v : V} {d : D} (h : Is U A H v d) (l : ∀ a, A' a → A a) : Is U A' H v d := h.ext fun a _ e n => ⟨e, fun z => n (l a z)⟩
theorem IsAll.less {v : List V} {d : List D} (h : IsAll U A H v d) (l : ∀ a, A' a → A a) : IsAll U A' H v d := h.ext fun a _ e n => ⟨e, fun z => n (l a z)⟩
theorem IsAll.length : ∀ {vs : List V} {ds : List D}, IsAll U A H vs ds → vs.length = ds.length
  | _, _, .nil => rfl
  | _, _, .cons _ t => by rw [List.length_cons, List.length_cons, t.length]
theorem IsAll.get : ∀ {vs : List V} {ds : List D} {i : Nat} {d : D}, IsAll U A H vs ds → ds[i]? = some d → ∃ v, vs[i]? = some v ∧ Is U A H v d
  | _, _, _, _, .nil, e => by simp at e
  | _, _, 0, _, .cons h _, e => by
    obtain rfl : _ = _ := by simpa using e
    exact ⟨_, rfl, h⟩
  | _, _, i + 1, _, .cons _ t, e => by
    obtain ⟨d, h1, h2⟩ := t.get (i := i) (by simpa using e)
    exact ⟨d, by simpa using h1, h2⟩
theorem IsAll.getV : ∀ {vs : List V} {ds : List D} {i : Nat} {v : V}, IsAll U A H vs ds → vs[i]? = some v → ∃ d, ds[i]? = some d ∧ Is U A H v d
  | _, _, _, _, .nil, e => by simp at e
  | _, _, 0, _, .cons h _, e => by
    obtain rfl : _ = _ := by simpa using e
    exact ⟨_, rfl, h⟩
  | _, _, i + 1, _, .cons _ t, e => by
    obtain ⟨d, h1, h2⟩ := t.getV (i := i) (by simpa using e)
    exact ⟨d, by simpa using h1, h2⟩
theorem IsAll.append : ∀ {xs ys : List V} {ds es : List D}, IsAll U A H xs ds → IsAll U A H ys es → IsAll U A H (xs ++ ys) (ds ++ es)
  | _, _, _, _, .nil, t => t
  | _, _, _, _, .cons h s, t => .cons h (s.append t)
theorem IsAll.drop : ∀ {xs : List V} {ds : List D} (n : Nat), IsAll U A H xs ds → IsAll U A H (xs.drop n) (ds.drop n)
  | _, _, 0, h => h
  | _, _, n + 1, .nil => .nil
  | _, _, n + 1, .cons _ t => t.drop n
theorem IsAll.take : ∀ {xs : List V} {ds : List D} (n : Nat), IsAll U A H xs ds → IsAll U A H (xs.take n) (ds.take n)
  | _, _, 0, _ => .nil
  | _, _, n + 1, .nil => .nil
  | _, _, n + 1, .cons h t => .cons h (t.take n)
theorem IsAll.set : ∀ {xs : List V} {ds : List D} (n : Nat) {v : V} {d : D}, IsAll U A H xs ds → Is U A H v d → IsAll U A H (xs.set n v) (ds.set n d)
  | _, _, _, _, _, .nil, _ => .nil
  | _, _, 0, _, _, .cons _ t, h => .cons h t
  | _, _, n + 1, _, _, .cons g t, h => .cons g (t.set n h)
theorem IsAll.reverse {xs : List V} {ds : List D} (h : IsAll U A H xs ds) : IsAll U A H xs.reverse ds.reverse := by
  cases h with
  | nil => exact .nil
  | cons h t => rw [List.reverse_cons, List.reverse_cons]; exact (IsAll.reverse t).append (.cons h .nil)
termination_by xs.length
theorem IsAll.of_get : ∀ {vs : List V} {ds : List D}, vs.length = ds.length → (∀ (i : Nat) (v : V) (d : D), vs[i]? = some v → ds[i]? = some d → Is U A H v d) → IsAll U A H vs ds
  | [], [], _, _ => .nil
  | [], _ :: _, e, _ => by simp at e
  | _ :: _, [], e, _ => by simp at e
  | v :: vs, d :: ds, e, h => .cons (h 0 v d rfl rfl) (IsAll.of_get (by simpa using e) fun i x y hx hy => h (i + 1) x y (by simpa using hx) (by simpa using hy))
/-- a new tuple, list of data -/
theorem Is.newT {p : Addr} {xs : List V} {ds : List D} (al : ∀ a, A a → H a ≠ none) (hp : H p = none) (h : IsAll U A H xs ds) : Is U A (upd H p (.tup xs)) (.ref p) (.tup ds) :=
  .tup upd_same (h.same (Same.new hp)) fun z => al _ z hp
theorem Is.newL {p : Addr} {xs : List V} {ds : List D} (al : ∀ a, A a → H a ≠ none) (hp : H p = none) (h : IsAll U A H xs ds) : Is U A (upd H p (.lst xs)) (.ref p) (.lst ds) :=
  .lst (.inl upd_same) (h.same (Same.new hp)) fun z => al _ z hp
theorem Is.str_inv {v : V} {z : Str} (h : Is U A H v (.str z)) : v = .str z ∧ okS z := by
  cases h with
  | str _ h => exact ⟨rfl, h⟩
theorem Is.int_inv {v : V} {i : Int} (h : Is U A H v (.int i)) : v = .int i := by
  cases h with
  | int _ => rfl
theorem Is.bl_inv {v : V} {i : Bool} (h : Is U A H v (.bl i)) : v = .bl i := by
  cases h with
  | bl _ => rfl
theorem Is.non_inv {v : V} (h : Is U A H v .non) : v = .non := by
  cases h with
  | non => rfl
theorem Is.tup_inv {v : V} {ds : List D} (h : Is U A H v (.tup ds)) : ∃ a xs, v = .ref a ∧ H a = some (.tup xs) ∧ IsAll U A H xs ds ∧ ¬ A a := by
  cases h with
  | tup e h hp => exact ⟨_, _, rfl, e, h, hp⟩
theorem Is.lst_inv {v : V} {ds : List D} (h : Is U A H v (.lst ds)) : ∃ a xs, v = .ref a ∧ Rd H a (.lst xs) ∧ IsAll U A H xs ds ∧ ¬ A a := by
  cases h with
  | lst e h hp => exact ⟨_, _, rfl, e, h, hp⟩
end
def D.kind : D → String
  | .non => "NoneType" | .bl _ => "bool" | .int _ => "int" | .str _ => "str" | .tup _ => "tuple" | .lst _ => "list" | .dct _ _ => "dict"
/-! ### slots as data, and what runs over them -/
abbrev Env := List (Option D)
inductive Rs (α : Type) where
  | ok (a : α) (ρ : Env)
  | ex (c : Str) (x : D) (ρ : Env)
abbrev M (α : Type) := Env → Option (Rs α)
@[reducible] def M.pure {α : Type} (a : α) : M α := fun ρ => some (.ok a ρ)
def M.bind {α β : Type} (m : M α) (f : α → M β) : M β := fun ρ => match m ρ with
  | none => none
  | some (.ok a ρ') => f a ρ'
  | some (.ex c x ρ') => some (.ex c x ρ')
def M.opt {α : Type} : Option α → M α
  | some a => fun ρ => some (.ok a ρ)
  | none => fun _ => none
theorem bind_none {α β : Type} {m : M α} {f : α → M β} {ρ : Env} (h : m ρ = none) : M.bind m f ρ = none := by unfold M.bind; rw [h]
theorem bind_ok {α β : Type} {m : M α} {f : α → M β} {ρ ρ' : Env} {a : α} (h : m ρ = some (.ok a ρ')) : M.bind m f ρ = f a ρ' := by unfold M.bind; rw [h]
theorem bind_ex {α β : Type} {m : M α} {f : α → M β} {ρ ρ' : Env} {c : Str} {x : D} (h : m ρ = some (.ex c x ρ')) : M.bind m f ρ = some (.ex c x ρ') := by unfold M.bind; rw [h]
/-- what a body is told of: the avoided, the owned slots, the caller's objects, the heap at its start, what is wanted of errors -/
structure Cz (U : Un) where
  S0 : Ad
  own : List Nat
  io : List (Nat × Addr)
  H0 : Hp
  hold : Addr → Option HO
  E : L2.St → XK
def Av {U : Un} (C : Cz U) (σ : L2.St) : Ad := fun a => C.S0 a ∨ ∃ i, i ∈ C.own ∧ σ[i]? = some (some (.ref a))
/-- an owned list (or dict) -/
def Own (U : Un) (A : Ad) (H : Hp) (v : V) (d : D) : Prop := ∃ a, v = .ref a ∧ ((∃ xs ds, H a = some (.lst xs) ∧ IsAll U A H xs ds ∧ d = .lst ds) ∨
  ∃ kv ks xs vs, DictAt U H a kv ks xs ∧ IsAll U A H kv ks ∧ IsAll U A H xs vs ∧ d = .dct ks vs)
structure Ok {U : Un} (C : Cz U) (σ : L2.St) (H : Hp) (ρ : Env) : Prop where
  len : σ.length = ρ.length
  sl : ∀ i d, ρ[i]? = some (some d) → ∃ v, σ[i]? = some (some v) ∧ (i ∉ C.own → Is U (Av C σ) H v d) ∧ (i ∈ C.own → Own U (Av C σ) H v d)
  dist : ∀ i j a, i ∈ C.own → j ∈ C.own → σ[i]? = some (some (.ref a)) → σ[j]? = some (some (.ref a)) → i = j
  al : ∀ a, Av C σ a → H a ≠ none
  keep : ∀ a o, C.H0 a = some o → (∀ j, (j, a) ∉ C.io) → H a = some o
  new : ∀ i a, i ∈ C.own → σ[i]? = some (some (.ref a)) → ¬ C.S0 a ∧ ((i, a) ∈ C.io ∨ C.H0 a = none)
  io : ∀ j a, (j, a) ∈ C.io → j ∈ C.own ∧ σ[j]? = some (some (.ref a)) ∧ C.H0 a ≠ none ∧ ¬ C.S0 a
  hold : ∀ a o, C.hold a = some o → H a = some o ∧ C.S0 a
section
variable {U : Un} {C : Cz U} {σ : L2.St} {H H' : Hp} {ρ ρ' : Env}
theorem Own.ext {U : Un} {A A' : Ad} {v : V} {d : D} (h : Own U A H v d) (x : Ext A H A' H') (k : ∀ a o, v = .ref a → H a = some o → H' a = some o) : Own U A' H' v d := by
  obtain ⟨a, rfl, h⟩ := h
  refine ⟨a, rfl, ?_⟩
  rcases h with ⟨xs, ds, e, h, r⟩ | ⟨kv, ks, xs, vs, e, hk, h, r⟩
  · exact .inl ⟨xs, ds, k _ _ rfl e, h.ext x, r⟩
  · refine .inr ⟨kv, ks, xs, vs, ?_, hk.ext x, h.ext x, r⟩
    cases e with
    | k kvs e => exact .k kvs (k _ _ rfl e)
    | n es e => exact .n es (k _ _ rfl e)
theorem Ok.same (O : Ok C σ H ρ) (s : Same H H') : Ok C σ H' ρ where
  len := O.len
  sl := fun i d e => by
    obtain ⟨v, h1, h2, h3⟩ := O.sl i d e
    exact ⟨v, h1, fun n => (h2 n).same s, fun n => (h3 n).ext (Ext.same s) fun a o _ e => s _ _ e⟩
  dist := O.dist
  al := fun a z n => by
    cases e : H a with
    | none => exact O.al a z e
    | some o => rw [s _ _ e] at n; cases n
  keep := fun a o e n => s _ _ (O.keep a o e n)
  new := O.new
  io := O.io
  hold := fun a o e => ⟨s _ _ (O.hold a o e).1, (O.hold a o e).2⟩
theorem Ok.var (O : Ok C σ H ρ) {i : Nat} {d : D} (e : ρ[i]? = some (some d)) (n : i ∉ C.own) : ∃ v, σ[i]? = some (some v) ∧ Is U (Av C σ) H v d := by
  obtain ⟨v, h1, h2, _⟩ := O.sl i d e
  exact ⟨v, h1, h2 n⟩
theorem Ok.owned (O : Ok C σ H ρ) {i : Nat} {d : D} (e : ρ[i]? = some (some d)) (n : i ∈ C.own) : ∃ v, σ[i]? = some (some v) ∧ Own U (Av C σ) H v d := by
  obtain ⟨v, h1, _, h2⟩ := O.sl i d e
  exact ⟨v, h1, h2 n⟩
/-- slots that are no longer told of -/
theorem Ok.weak (O : Ok C σ H ρ) (hl : ρ'.length = ρ.length) (h : ∀ (i : Nat) (d : D), ρ'[i]? = some (some d) → ρ[i]? = some (some d)) : Ok C σ H ρ' :=
  ⟨O.len.trans hl.symm, fun i d e => O.sl i d (h i d e), O.dist, O.al, O.keep, O.new, O.io, O.hold⟩
theorem nem {l : List Nat} {i j : Nat} (n : i ∉ l) (h : j ∈ l) : i ≠ j := fun z => n (by rw [z]; exact h)
theorem av_set {i : Nat} {v : Option V} (n : i ∉ C.own) : Av C (σ.set i v) = Av C σ := by
  funext a
  apply propext
  unfold Av
  constructor
  · rintro (h | ⟨j, hj, e⟩)
    · exact .inl h
    · refine .inr ⟨j, hj, ?_⟩
      rw [List.getElem?_set_ne (nem n hj)] at e
      exact e
  · rintro (h | ⟨j, hj, e⟩)
    · exact .inl h
    · refine .inr ⟨j, hj, ?_⟩
      rw [List.getElem?_set_ne (nem n hj)]
      exact e
/-- a slot of data is set -/
theorem Ok.set (O : Ok C σ H ρ) {i : Nat} {v : V} {d : D} (n : i ∉ C.own) (h : Is U (Av C σ) H v d) : Ok C (σ.set i (some v)) H (ρ.set i (some d)) where
  len := by rw [List.length_set, List.length_set]; exact O.len
  sl := fun j e hj => by
    rw [av_set n]
    by_cases hij : i = j
    · subst hij
      have hl : i < ρ.length := by
        have := (List.getElem?_eq_some_iff.mp hj).1
        rwa [List.length_set] at this
      rw [List.getElem?_set_self hl] at hj
      cases hj
      exact ⟨v, by rw [List.getElem?_set_self (by rw [O.len]; exact hl)], fun _ => h, fun z => absurd z n⟩
    · rw [List.getElem?_set_ne hij] at hj
      obtain ⟨v2, h1, h2⟩ := O.sl j e hj
      exact ⟨v2, by rw [List.getElem?_set_ne hij]; exact h1, h2⟩
  dist := fun j k a hj hk e1 e2 => by
    rw [List.getElem?_set_ne (nem n hj)] at e1
    rw [List.getElem?_set_ne (nem n hk)] at e2
    exact O.dist j k a hj hk e1 e2
  al := fun a z => by rw [av_set n] at z; exact O.al a z
  keep := O.keep
  new := fun j a hj e => by
    rw [List.getElem?_set_ne (nem n hj)] at e
    exact O.new j a hj e
  io := fun j a hj => by
    obtain ⟨h1, h2, h3⟩ := O.io j a hj
    exact ⟨h1, by rw [List.getElem?_set_ne (nem n h1)]; exact h2, h3⟩
  hold := O.hold
/-- a slot of data is emptied -/
theorem Ok.unset (O : Ok C σ H ρ) {i : Nat} (n : i ∉ C.own) : Ok C (σ.set i none) H (ρ.set i none) where
  len := by rw [List.length_set, List.length_set]; exact O.len
  sl := fun j e hj => by
    rw [av_set n]
    by_cases hij : i = j
    · subst hij
      have hl : i < ρ.length := by
        have := (List.getElem?_eq_some_iff.mp hj).1
        rwa [List.length_set] at this
      rw [List.getElem?_set_self hl] at hj
      cases hj
    · rw [List.getElem?_set_ne hij] at hj
      obtain ⟨v2, h1, h2⟩ := O.sl j e hj
      exact ⟨v2, by rw [List.getElem?_set_ne hij]; exact h1, h2⟩
  dist := fun j k a hj hk e1 e2 => by
    rw [List.getElem?_set_ne (nem n hj)] at e1
    rw [List.getElem?_set_ne (nem n hk)] at e2
    exact O.dist j k a hj hk e1 e2
  al := fun a z => by rw [av_set n] at z; exact O.al a z
  keep := O.keep
  new := fun j a hj e => by
    rw [List.getElem?_set_ne (nem n hj)] at e
    exact O.new j a hj e
  io := fun j a hj => by
    obtain ⟨h1, h2, h3⟩ := O.io j a hj
    exact ⟨h1, by rw [List.getElem?_set_ne (nem n h1)]; exact h2, h3⟩
  hold := O.hold
end
/-- an error: its class by its name, what it keeps -/
def Exc (U : Un) (A : Ad) (H : Hp) (c : Str) (x : D) (cv : Value) (dv : Option Addr) : Prop := cv = .ref (U.ca c) ∧
  ((x = .non ∧ dv = none) ∨ ∃ d v, dv = some d ∧ H d = some (.xd [("name", v)]) ∧ Is U A H v x)
/-- what is wanted of a value -/
def Post {U : Un} (C : Cz U) (σ : L2.St) (H : Hp) : Rs D → VK → Prop
  | .ok d ρ', Q => ∀ v H', Ok C σ H' ρ' → Ext (Av C σ) H (Av C σ) H' → Is U (Av C σ) H' v d → Q v H'
  | .ex c x ρ', _ => ∀ cv dv H', Ok C σ H' ρ' → Ext (Av C σ) H (Av C σ) H' → Exc U (Av C σ) H' c x cv dv → C.E σ cv dv H'
def DEr {U : Un} (C : Cz U) (t : TE) (m : M D) : Prop := ∀ σ H ρ r Q, Ok C σ H ρ → m ρ = some r → Post C σ H r Q → t σ H Q
/-- an expression as data -/
def DE (X : Cx) {U : Un} (C : Cz U) (e : Expr) (t : TE) (m : M D) : Prop := PE X e t ∧ DEr C t m
/-- one address more to keep away from -/
def Cz.plus {U : Un} (C : Cz U) (a : Addr) (o : HO) : Cz U := { C with S0 := fun b => C.S0 b ∨ b = a, hold := fun b => if b = a then some o else C.hold b }
/-- a new list, owned by nobody yet: all else keeps away from it -/
def PostF {U : Un} (C : Cz U) (σ : L2.St) (H : Hp) : Rs D → VK → Prop
  | .ok d ρ', Q => ∀ a o H', H a = none → Ok (C.plus a o) σ H' ρ' → Ext (Av C σ) H (Av (C.plus a o) σ) H' → Own U (Av (C.plus a o) σ) H' (.ref a) d → Q (.ref a) H'
  | .ex c x ρ', _ => ∀ cv dv H', Ok C σ H' ρ' → Ext (Av C σ) H (Av C σ) H' → Exc U (Av C σ) H' c x cv dv → C.E σ cv dv H'
def DFr {U : Un} (C : Cz U) (t : TE) (m : M D) : Prop := ∀ σ H ρ r Q, Ok C σ H ρ → m ρ = some r → PostF C σ H r Q → t σ H Q
def DF (X : Cx) {U : Un} (C : Cz U) (e : Expr) (t : TE) (m : M D) : Prop := PE X e t ∧ DFr C t m
def PostT {U : Un} (C : Cz U) (σ : L2.St) (H : Hp) : Rs Bool → (Bool → Hp → Prop) → Prop
  | .ok d ρ', Q => ∀ H', Ok C σ H' ρ' → Ext (Av C σ) H (Av C σ) H' → Q d H'
  | .ex c x ρ', _ => ∀ cv dv H', Ok C σ H' ρ' → Ext (Av C σ) H (Av C σ) H' → Exc U (Av C σ) H' c x cv dv → C.E σ cv dv H'
def DTr {U : Un} (C : Cz U) (t : TT) (m : M Bool) : Prop := ∀ σ H ρ r Q, Ok C σ H ρ → m ρ = some r → PostT C σ H r Q → t σ H Q
def DT (X : Cx) {U : Un} (C : Cz U) (e : Expr) (t : TT) (m : M Bool) : Prop := PT X e t ∧ DTr C t m
def DW (X : Cx) {U : Un} (C : Cz U) (e : Expr) (t : TT) (m : M Bool) : Prop := PW X e t ∧ DTr C t m
def PostA {U : Un} (C : Cz U) (σ : L2.St) (H : Hp) : Rs (List D) → (List V → Hp → Prop) → Prop
  | .ok d ρ', Q => ∀ v H', Ok C σ H' ρ' → Ext (Av C σ) H (Av C σ) H' → IsAll U (Av C σ) H' v d → Q v H'
  | .ex c x ρ', _ => ∀ cv dv H', Ok C σ H' ρ' → Ext (Av C σ) H (Av C σ) H' → Exc U (Av C σ) H' c x cv dv → C.E σ cv dv H'
def DAr {U : Un} (C : Cz U) (t : TA) (m : M (List D)) : Prop := ∀ σ H ρ r Q, Ok C σ H ρ → m ρ = some r → PostA C σ H r Q → t σ H Q
def DA (X : Cx) {U : Un} (C : Cz U) (es : List Expr) (t : TA) (m : M (List D)) : Prop := PA X es t ∧ DAr C t m
/-- one value, then the rest: the step behind most rules -/
theorem DEr.then {U : Un} {C : Cz U} {t : TE} {m : M D} {α : Type} {k : D → M α} {σ : L2.St} {H : Hp} {ρ : Env} {r : Rs α} {R : VK} (h : DEr C t m) (O : Ok C σ H ρ) (e : M.bind m k ρ = some r)
    (hx : ∀ c x ρ', r = .ex c x ρ' → ∀ cv dv H', Ok C σ H' ρ' → Ext (Av C σ) H (Av C σ) H' → Exc U (Av C σ) H' c x cv dv → C.E σ cv dv H')
    (hk : ∀ d ρ' v H', Ok C σ H' ρ' → Ext (Av C σ) H (Av C σ) H' → Is U (Av C σ) H' v d → k d ρ' = some r → R v H') : t σ H R := by
  cases hm : m ρ with
  | none => rw [bind_none hm] at e; cases e
  | some q =>
    cases q with
    | ok d ρ' =>
      rw [bind_ok hm] at e
      exact h σ H ρ _ R O hm fun v H' O' x i => hk d ρ' v H' O' x i e
    | ex c x ρ' =>
      rw [bind_ex hm] at e
      cases e
      exact h σ H ρ _ R O hm (hx c x ρ' rfl)
theorem DTr.then {U : Un} {C : Cz U} {t : TT} {m : M Bool} {α : Type} {k : Bool → M α} {σ : L2.St} {H : Hp} {ρ : Env} {r : Rs α} {R : Bool → Hp → Prop} (h : DTr C t m) (O : Ok C σ H ρ) (e : M.bind m k ρ = some r)
    (hx : ∀ c x ρ', r = .ex c x ρ' → ∀ cv dv H', Ok C σ H' ρ' → Ext (Av C σ) H (Av C σ) H' → Exc U (Av C σ) H' c x cv dv → C.E σ cv dv H')
    (hk : ∀ d ρ' H', Ok C σ H' ρ' → Ext (Av C σ) H (Av C σ) H' → k d ρ' = some r → R d H') : t σ H R := by
  cases hm : m ρ with
  | none => rw [bind_none hm] at e; cases e
  | some q =>
    cases q with
    | ok d ρ' =>
      rw [bind_ok hm] at e
      exact h σ H ρ _ R O hm fun H' O' x => hk d ρ' H' O' x e
    | ex c x ρ' =>
      rw [bind_ex hm] at e
      cases e
      exact h σ H ρ _ R O hm (hx c x ρ' rfl)
theorem DAr.then {U : Un} {C : Cz U} {t : TA} {m : M (List D)} {α : Type} {k : List D → M α} {σ : L2.St} {H : Hp} {ρ : Env} {r : Rs α} {R : List V → Hp → Prop} (h : DAr C t m) (O : Ok C σ H ρ) (e : M.bind m k ρ = some r)
    (hx : ∀ c x ρ', r = .ex c x ρ' → ∀ cv dv H', Ok C σ H' ρ' → Ext (Av C σ) H (Av C σ) H' → Exc U (Av C σ) H' c x cv dv → C.E σ cv dv H')
    (hk : ∀ d ρ' v H', Ok C σ H' ρ' → Ext (Av C σ) H (Av C σ) H' → IsAll U (Av C σ) H' v d → k d ρ' = some r → R v H') : t σ H R := by
  cases hm : m ρ with
  | none => rw [bind_none hm] at e; cases e
  | some q =>
    cases q with
    | ok d ρ' =>
      rw [bind_ok hm] at e
      exact h σ H ρ _ R O hm fun v H' O' x i => hk d ρ' v H' O' x i e
    | ex c x ρ' =>
      rw [bind_ex hm] at e
      cases e
      exact h σ H ρ _ R O hm (hx c x ρ' rfl)
/-- what is left of a wish, from a later heap -/
theorem Post.later {U : Un} {C : Cz U} {σ : L2.St} {H H1 : Hp} {r : Rs D} {Q : VK} (p : Post C σ H r Q) (x : Ext (Av C σ) H (Av C σ) H1) : Post C σ H1 r Q := by
  cases r with
  | ok d ρ' => exact fun v H' O y i => p v H' O (x.trans y) i
  | ex c e ρ' => exact fun v d H' O y i => p v d H' O (x.trans y) i
theorem Post.ex {U : Un} {C : Cz U} {σ : L2.St} {H : Hp} {r : Rs D} {Q : VK} (p : Post C σ H r Q) : ∀ c x ρ', r = .ex c x ρ' → ∀ cv dv H', Ok C σ H' ρ' → Ext (Av C σ) H (Av C σ) H' → Exc U (Av C σ) H' c x cv dv → C.E σ cv dv H' := by
  rintro c x ρ' rfl
  exact p
theorem PostT.later {U : Un} {C : Cz U} {σ : L2.St} {H H1 : Hp} {r : Rs Bool} {Q : Bool → Hp → Prop} (p : PostT C σ H r Q) (x : Ext (Av C σ) H (Av C σ) H1) : PostT C σ H1 r Q := by
  cases r with
  | ok d ρ' => exact fun H' O y => p H' O (x.trans y)
  | ex c e ρ' => exact fun v d H' O y i => p v d H' O (x.trans y) i
theorem PostT.ex {U : Un} {C : Cz U} {σ : L2.St} {H : Hp} {r : Rs Bool} {Q : Bool → Hp → Prop} (p : PostT C σ H r Q) : ∀ c x ρ', r = .ex c x ρ' → ∀ cv dv H', Ok C σ H' ρ' → Ext (Av C σ) H (Av C σ) H' → Exc U (Av C σ) H' c x cv dv → C.E σ cv dv H' := by
  rintro c x ρ' rfl
  exact p
theorem PostA.later {U : Un} {C : Cz U} {σ : L2.St} {H H1 : Hp} {r : Rs (List D)} {Q : List V → Hp → Prop} (p : PostA C σ H r Q) (x : Ext (Av C σ) H (Av C σ) H1) : PostA C σ H1 r Q := by
  cases r with
  | ok d ρ' => exact fun v H' O y i => p v H' O (x.trans y) i
  | ex c e ρ' => exact fun v d H' O y i => p v d H' O (x.trans y) i
theorem PostA.ex {U : Un} {C : Cz U} {σ : L2.St} {H : Hp} {r : Rs (List D)} {Q : List V → Hp → Prop} (p : PostA C σ H r Q) : ∀ c x ρ', r = .ex c x ρ' → ∀ cv dv H', Ok C σ H' ρ' → Ext (Av C σ) H (Av C σ) H' → Exc U (Av C σ) H' c x cv dv → C.E σ cv dv H' := by
  rintro c x ρ' rfl
  exact p
theorem PostF.later {U : Un} {C : Cz U} {σ : L2.St} {H H1 : Hp} {r : Rs D} {Q : VK} (p : PostF C σ H r Q) (x : Ext (Av C σ) H (Av C σ) H1) (n : ∀ a, H1 a = none → H a = none) : PostF C σ H1 r Q := by
  cases r with
  | ok d ρ' => exact fun a o H' hn O y i => p a o H' (n a hn) O (x.trans y) i
  | ex c e ρ' => exact fun v d H' O y i => p v d H' O (x.trans y) i
theorem PostF.ex {U : Un} {C : Cz U} {σ : L2.St} {H : Hp} {r : Rs D} {Q : VK} (p : PostF C σ H r Q) : ∀ c x ρ', r = .ex c x ρ' → ∀ cv dv H', Ok C σ H' ρ' → Ext (Av C σ) H (Av C σ) H' → Exc U (Av C σ) H' c x cv dv → C.E σ cv dv H' := by
  rintro c x ρ' rfl
  exact p
section
variable {U : Un} {C : Cz U} {σ : L2.St} {H H' : Hp} {ρ ρ' : Env} {a : Addr} {o : HO}
/-- what is allocated stays so -/
theorem Ok.alloc (O : Ok C σ H' ρ) (x : Ext (Av C σ) H (Av C σ) H') : ∀ a, H' a = none → H a = none := fun a n => by
  cases e : H a with
  | none => rfl
  | some o =>
    by_cases z : Av C σ a
    · exact absurd n (O.al a z)
    · rw [(x a o e z).1] at n; cases n
theorem av_plus : ∀ b, Av C σ b → Av (C.plus a o) σ b := fun b z => z.elim (fun q => .inl (.inl q)) .inr
theorem Ok.minus (O : Ok (C.plus a o) σ H ρ) (nS : ¬ C.S0 a) (hh : ∀ b o, C.hold b = some o → C.S0 b) : Ok C σ H ρ where
  len := O.len
  sl := fun i d e => by
    obtain ⟨v, h1, h2, h3⟩ := O.sl i d e
    exact ⟨v, h1, fun n => (h2 n).less av_plus, fun n => (h3 n).ext (fun b o e z => ⟨e, fun q => z (av_plus b q)⟩) fun _ _ _ e => e⟩
  dist := O.dist
  al := fun b z => O.al b (av_plus b z)
  keep := O.keep
  new := fun i b hi e => ⟨fun z => (O.new i b hi e).1 (.inl z), (O.new i b hi e).2⟩
  io := fun j b hj => let ⟨h1, h2, h3, h4⟩ := O.io j b hj; ⟨h1, h2, h3, fun z => h4 (.inl z)⟩
  hold := fun b o2 e => by
    have hs := hh b o2 e
    have nb : b ≠ a := fun z => nS (by rw [← z]; exact hs)
    exact ⟨(O.hold b o2 (by show (if b = a then some o else C.hold b) = _; rw [if_neg nb]; exact e)).1, hs⟩
theorem Ok.H0 (O : Ok C σ H ρ) (n : H a = none) : C.H0 a = none := by
  cases e : C.H0 a with
  | none => rfl
  | some o =>
    by_cases z : ∀ j, (j, a) ∉ C.io
    · rw [O.keep a o e z] at n; cases n
    · have : ∃ j, (j, a) ∈ C.io := Classical.byContradiction fun q => z fun j hj => q ⟨j, hj⟩
      obtain ⟨j, hj⟩ := this
      obtain ⟨h1, h2, _⟩ := O.io j a hj
      exact absurd n (O.al a (.inr ⟨j, h1, h2⟩))
theorem Ok.notAv (O : Ok C σ H ρ) (n : H a = none) : ¬ Av C σ a := fun z => O.al a z n
theorem Ok.extPlus (O : Ok C σ H ρ) (n : H a = none) (s : Same H H') : Ext (Av C σ) H (Av (C.plus a o) σ) H' := fun b o e z => ⟨s _ _ e, fun q => by
  rcases q with (q | q) | q
  · exact z (.inl q)
  · subst q; rw [n] at e; cases e
  · exact z (.inr q)⟩
/-- a new object is kept away from -/
theorem Ok.plus (O : Ok C σ H ρ) (n : H a = none) (s : Same H H') (n2 : H' a = some o) : Ok (C.plus a o) σ H' ρ where
  len := O.len
  sl := fun i d e => by
    obtain ⟨v, h1, h2, h3⟩ := O.sl i d e
    exact ⟨v, h1, fun q => (h2 q).ext (O.extPlus n s), fun q => (h3 q).ext (O.extPlus n s) fun _ _ _ e => s _ _ e⟩
  dist := O.dist
  al := fun b z => by
    rcases z with (z | z) | z
    · exact (O.same s).al b (.inl z)
    · subst z; rw [n2]; nofun
    · exact (O.same s).al b (.inr z)
  keep := (O.same s).keep
  new := fun i b hi e => ⟨fun z => by
    rcases z with z | z
    · exact (O.new i b hi e).1 z
    · subst z; exact O.notAv n (.inr ⟨i, hi, e⟩), (O.new i b hi e).2⟩
  io := fun j b hj => let ⟨h1, h2, h3, h4⟩ := O.io j b hj; ⟨h1, h2, h3, fun z => by
    rcases z with z | z
    · exact h4 z
    · subst z; exact O.notAv n (.inr ⟨j, h1, h2⟩)⟩
  hold := fun b o2 e => by
    by_cases nb : b = a
    · have e : (if b = a then some o else C.hold b) = some o2 := e
      rw [if_pos nb] at e
      cases e
      exact ⟨by rw [nb]; exact n2, .inr nb⟩
    · have e : (if b = a then some o else C.hold b) = some o2 := e
      rw [if_neg nb] at e
      exact ⟨s _ _ (O.hold b o2 e).1, .inl (O.hold b o2 e).2⟩
/-- an owned slot gets a new object -/
theorem Ok.setOwn {i : Nat} {d : D} (hh : ∀ b o, C.hold b = some o → C.S0 b) (O : Ok (C.plus a o) σ H ρ) (hi : i ∈ C.own) (nio : ∀ b, (i, b) ∉ C.io) (h0 : C.H0 a = none) (nS : ¬ C.S0 a) (h : Own U (Av (C.plus a o) σ) H (.ref a) d) : Ok C (σ.set i (some (.ref a))) H (ρ.set i (some d)) := by
  have lessA : ∀ b, Av C (σ.set i (some (.ref a))) b → Av (C.plus a o) σ b := by
    rintro b (z | ⟨j, hj, e⟩)
    · exact .inl (.inl z)
    · by_cases hij : i = j
      · subst hij
        rw [List.getElem?_set] at e
        simp only [↓reduceIte] at e
        split at e
        · cases e; exact .inl (.inr rfl)
        · cases e
      · rw [List.getElem?_set_ne hij] at e
        exact .inr ⟨j, hj, e⟩
  have nA : ∀ j b, j ∈ C.own → σ[j]? = some (some (.ref b)) → b ≠ a := fun j b hj e z => by subst z; exact (O.new j b hj e).1 (.inr rfl)
  refine ⟨by rw [List.length_set, List.length_set]; exact O.len, fun j e hj => ?_, fun j k b hj hk e1 e2 => ?_, fun b z => O.al b (lessA b z), O.keep, fun j b hj e => ?_, fun j b hj => ?_, fun b o2 e => ?_⟩
  · by_cases hij : i = j
    · subst hij
      have hl : i < ρ.length := by
        have := (List.getElem?_eq_some_iff.mp hj).1
        rwa [List.length_set] at this
      rw [List.getElem?_set_self hl] at hj
      cases hj
      refine ⟨.ref a, by rw [List.getElem?_set_self (by rw [O.len]; exact hl)], fun z => absurd hi z, fun _ => ?_⟩
      exact h.ext (fun b o e z => ⟨e, fun q => z (lessA b q)⟩) fun _ _ _ e => e
    · rw [List.getElem?_set_ne hij] at hj
      obtain ⟨v2, h1, h2, h3⟩ := O.sl j e hj
      refine ⟨v2, by rw [List.getElem?_set_ne hij]; exact h1, fun q => (h2 q).less lessA, fun q => ?_⟩
      exact (h3 q).ext (fun b o e z => ⟨e, fun q => z (lessA b q)⟩) fun _ _ _ e => e
  · by_cases h1 : i = j <;> by_cases h2 : i = k
    · exact h1.symm.trans h2
    · subst h1
      rw [List.getElem?_set_ne h2] at e2
      rw [List.getElem?_set] at e1
      simp only [↓reduceIte] at e1
      split at e1
      · cases e1; exact absurd rfl (nA k _ hk e2)
      · cases e1
    · subst h2
      rw [List.getElem?_set_ne h1] at e1
      rw [List.getElem?_set] at e2
      simp only [↓reduceIte] at e2
      split at e2
      · cases e2; exact absurd rfl (nA j _ hj e1)
      · cases e2
    · rw [List.getElem?_set_ne h1] at e1
      rw [List.getElem?_set_ne h2] at e2
      exact O.dist j k b hj hk e1 e2
  · by_cases hij : i = j
    · subst hij
      rw [List.getElem?_set] at e
      simp only [↓reduceIte] at e
      split at e
      · cases e
        exact ⟨nS, .inr h0⟩
      · cases e
    · rw [List.getElem?_set_ne hij] at e
      exact ⟨fun z => (O.new j b hj e).1 (.inl z), (O.new j b hj e).2⟩
  · obtain ⟨h1, h2, h3, h4⟩ := O.io j b hj
    refine ⟨h1, ?_, h3, fun z => h4 (.inl z)⟩
    rw [List.getElem?_set_ne (fun z => nio b (by rw [z]; exact hj))]
    exact h2
  · have hs := hh b o2 e
    have nb : b ≠ a := fun z => nS (by rw [← z]; exact hs)
    exact ⟨(O.hold b o2 (by show (if b = a then some o else C.hold b) = _; rw [if_neg nb]; exact e)).1, hs⟩
end
end Bx
namespace Pr
open PySem PySem.Spec PyProof.Rows L2

/-! ### texts of known size and signs -/
def okS (z : Str) : Prop := z.length ≤ 1000 ∧ PyData.strOk z = true
theorem strOk_iff {z : Str} : PyData.strOk z = true ↔ ∀ c ∈ z.cps.toList, c < 0x110000 := by
  unfold PyData.strOk
  rw [← Array.all_toList, List.all_eq_true]
  exact ⟨fun h c hc => of_decide_eq_true (h c hc), fun h c hc => decide_eq_true (h c hc)⟩
theorem strOk_cut {z : Str} (h : PyData.strOk z = true) (lo hi : Option Int) : PyData.strOk (cutS z lo hi) = true := by
  rw [strOk_iff] at h ⊢
  intro c hc
  refine h c ?_
  unfold cutS at hc
  exact List.mem_of_mem_drop (List.mem_of_mem_take hc)
theorem strOk_append {x y : Str} (h : PyData.strOk x = true) (h2 : PyData.strOk y = true) : PyData.strOk (x ++ y) = true := by
  rw [strOk_iff] at h h2 ⊢
  intro c hc
  have e : (x ++ y).cps.toList = x.cps.toList ++ y.cps.toList := by
    show (x.cps ++ y.cps).toList = _
    exact Array.toList_append
  rw [e] at hc
  exact (List.mem_append.mp hc).elim (h c) (h2 c)
theorem strOk_join {sep : Str} (hs : PyData.strOk sep = true) : ∀ {ys : List Str}, (∀ y ∈ ys, PyData.strOk y = true) → PyData.strOk (Str.join sep ys) = true
  | [], _ => by show PyData.strOk Str.empty = true; decide +kernel
  | [x], h => h x List.mem_cons_self
  | x :: y :: r, h => strOk_append (strOk_append (h x List.mem_cons_self) hs) (strOk_join hs fun z hz => h z (List.mem_cons_of_mem _ hz))
/-! ### what a value is, by its built-in class -/
inductive Knd (H : Hp) : V → String → Prop
  | non : Knd H .non "NoneType"
  | bl (b : Bool) : Knd H (.bl b) "bool"
  | int (i : Int) : Knd H (.int i) "int"
  | str (z : Str) (h : okS z) : Knd H (.str z) "str"
  | lst {a : Addr} {xs : List V} (e : H a = some (.lst xs)) : Knd H (.ref a) "list"
  | tup {a : Addr} {xs : List V} (e : H a = some (.tup xs)) : Knd H (.ref a) "tuple"
  | dK {a : Addr} {kvs : List (Key × V)} (e : H a = some (.dK kvs)) : Knd H (.ref a) "dict"
theorem Knd.same {H H' : Hp} {v : V} {k : String} (h : Knd H v k) (s : Same H H') : Knd H' v k := by
  cases h with
  | non => exact .non
  | bl b => exact .bl b
  | int i => exact .int i
  | str z hz => exact .str z hz
  | lst e => exact .lst (s _ _ e)
  | tup e => exact .tup (s _ _ e)
  | dK e => exact .dK (s _ _ e)
theorem Knd.ty {K : PySem.W.Frag} {H : Hp} {v : V} {k : String} (h : Knd H v k) : TyX K H v (.type k) := by
  cases h with
  | non => exact .base .non
  | bl b => exact .base (.bl b)
  | int i => exact .base (.int i)
  | str z hz => exact .base (.str z)
  | lst e => exact .base (.lst e)
  | tup e => exact .base (.tup e)
  | dK e => exact .base (.dK e)
/-- is a value of built-in class k one of T? -/
def isk (k T : String) : Bool := k == T || (k == "bool" && T == "int")
def okT (T : String) : Prop := T = "bool" ∨ T = "int" ∨ T = "str" ∨ T = "tuple" ∨ T = "list" ∨ T = "dict"
theorem isk_kit {K : PySem.W.Frag} {H : Hp} {v : V} {k T : String} (h : Knd H v k) (hT : okT T) : PySem.W.kitOne K (.type k) (.type T) = some (isk k T) := by
  refine kit_ty ?_
  rcases hT with rfl | rfl | rfl | rfl | rfl | rfl <;> cases h <;> decide +kernel
def rIsk : List V → Hp → VK → Prop := fun xs H Q => ∃ (v : V) (T k : String), xs = [v, .ty T] ∧ okT T ∧ Knd H v k ∧ Q (.bl (isk k T)) H
theorem call_isk {X : Cx} : CallR X (.builtin "isinstance") rIsk := by
  intro pins s σ H xs us Q I r h
  obtain ⟨v, T, k, rfl, hT, hk, q⟩ := h
  exact call_isi pins s σ H _ us Q I r ⟨v, .ty T, _, _, _, rfl, .ty T, hk.ty, isk_kit hk hT, q⟩

/-! ### powers of great numbers -/
def CPowW (i j : Int) : Prop := 0 ≤ j ∧ (Builtin.Int.intBits i : Int) * j ≤ 2 ^ 27
theorem op_powW {X : Cx} : OpR X (binaryOp .Pow) (rI CPowW fun i j => .int (i ^ j.toNat)) := opI fun _ _ _ _ _ _ _ hc q => pow_int hc.1 hc.2 q

/-! ### texts: eight small letters -/
theorem az1 : ∀ c : Fin 128, ((Unicode.isAlpha c.val && !(Unicode.isUpper c.val || Unicode.isTitle c.val)) = decide (97 ≤ c.val ∧ c.val ≤ 122)) := by decide +kernel
theorem az2 : ∀ c : Fin 128, Unicode.isLower c.val = decide (97 ≤ c.val ∧ c.val ≤ 122) := by decide +kernel
def azS : Str := "abcdefghijklmnopqrstuvwxyz"
theorem mem_az (c : Nat) : decide (c ∈ azS.cps.toList) = decide (97 ≤ c ∧ c ≤ 122) := by
  have e : azS.cps.toList = (List.range 26).map (· + 97) := by decide +kernel
  rw [e]
  apply decide_eq_decide.mpr
  rw [List.mem_map]
  constructor
  · rintro ⟨a, ha, rfl⟩
    have := List.mem_range.mp ha
    omega
  · rintro ⟨h1, h2⟩
    exact ⟨c - 97, List.mem_range.mpr (by omega), by omega⟩
/-- the letters are all small ones -/
def azAll (z : Str) : Bool := z.cps.toList.all fun c => decide (97 ≤ c ∧ c ≤ 122)
theorem az_word (z : Str) : (Txt.isascii z && (Txt.isalpha z && Txt.islower z)) = (decide (0 < z.length) && azAll z) := by
  unfold Txt.isascii Txt.isalpha Txt.islower azAll
  rw [← Array.all_toList, ← Array.all_toList, ← Array.any_toList, ← Array.any_toList]
  have hl : z.length = z.cps.toList.length := rfl
  rw [hl]
  generalize z.cps.toList = l
  by_cases ha : (l.all fun x => decide (x < 128)) = true
  · have h1 : ∀ c ∈ l, c < 128 := fun c hc => of_decide_eq_true (List.all_eq_true.mp ha c hc)
    rw [ha, Bool.true_and]
    cases l with
    | nil => rfl
    | cons d r =>
      have hpos : decide (0 < (d :: r).length) = true := by simp
      rw [hpos, Bool.true_and, Bool.true_and]
      generalize hm : d :: r = m at *
      have hne : ∃ c, c ∈ m := ⟨d, by rw [← hm]; exact List.mem_cons_self⟩
      apply Bool.eq_iff_iff.mpr
      constructor
      · intro h
        simp only [Bool.and_eq_true, List.all_eq_true, Bool.not_eq_true', List.any_eq_false] at h
        obtain ⟨ha1, ha2, ha3⟩ := h
        rw [List.all_eq_true]
        intro c hc
        have e := az1 ⟨c, h1 c hc⟩
        have q1 := ha1 c hc
        have q2 := ha3 c hc
        simp only [q1, Bool.true_and] at e
        rw [← e]
        simpa using q2
      · intro h
        rw [List.all_eq_true] at h
        simp only [Bool.and_eq_true, List.all_eq_true, Bool.not_eq_true', List.any_eq_false, List.any_eq_true]
        refine ⟨fun c hc => ?_, ?_, fun c hc => ?_⟩
        · have e := az1 ⟨c, h1 c hc⟩
          simp only [h c hc, Bool.and_eq_true] at e
          exact e.1
        · obtain ⟨c, hc⟩ := hne
          exact ⟨c, hc, (az2 ⟨c, h1 c hc⟩).trans (h c hc)⟩
        · have e := az1 ⟨c, h1 c hc⟩
          simp only [h c hc, Bool.and_eq_true] at e
          simpa using e.2
  · have h0 : (l.all fun x => decide (x < 128)) = false := by simpa using ha
    rw [h0, Bool.false_and]
    have : (l.all fun c => decide (97 ≤ c ∧ c ≤ 122)) = false := by
      apply Bool.eq_false_iff.mpr
      intro h
      apply ha
      rw [List.all_eq_true] at h ⊢
      intro c hc
      have := of_decide_eq_true (h c hc)
      exact decide_eq_true (by omega)
    rw [this, Bool.and_false]
end Pr
namespace Pr
open PySem PySem.Spec PyProof.Rows L2
/-! ### the pot: three numbers in a list -/
def Pot (p : Addr) (n : Nat) (H : Hp) : Prop := ∃ a b c : Int, H p = some (.lst [.int a, .int b, .int c]) ∧ (0 ≤ a ∧ a < 2 ^ 2000) ∧ (0 ≤ b ∧ b < 2 ^ 61) ∧ 0 ≤ c ∧ c ≤ n
/-- all that was tracked is as it was, but at p -/
def But (p : Addr) (H H' : Hp) : Prop := ∀ q o, q ≠ p → H q = some o → H' q = some o
theorem But.refl (p : Addr) (H : Hp) : But p H H := fun _ _ _ h => h
theorem But.trans {p : Addr} {H H1 H2 : Hp} (a : But p H H1) (b : But p H1 H2) : But p H H2 := fun q o n h => b q o n (a q o n h)
theorem But.of {p : Addr} {H H1 : Hp} (a : Same H H1) : But p H H1 := fun q o _ h => a q o h
theorem But.put {p : Addr} {H : Hp} {o : HO} : But p H (upd H p o) := fun q _ n h => by rw [upd_ne n]; exact h
theorem But.new {p q : Addr} {H : Hp} {o : HO} (h : H q = none) : But p H (upd H q o) := fun b x _ e => by
  rw [upd_ne (ne_of_none e h)]
  exact e
theorem Same.new {q : Addr} {H : Hp} {o : HO} (h : H q = none) : Same H (upd H q o) := fun b x e => by
  rw [upd_ne (ne_of_none e h)]
  exact e
theorem Pot.some {p : Addr} {n : Nat} {H : Hp} (h : Pot p n H) : ∃ o, H p = some o := by
  obtain ⟨a, b, c, e, _⟩ := h
  exact ⟨_, e⟩
theorem Pot.ne {p q : Addr} {n : Nat} {H : Hp} (h : Pot p n H) (e : H q = none) : q ≠ p := by
  obtain ⟨o, ho⟩ := h.some
  exact fun z => by rw [z, ho] at e; cases e
theorem Pot.same {p : Addr} {n : Nat} {H H' : Hp} (h : Pot p n H) (s : Same H H') : Pot p n H' := by
  obtain ⟨a, b, c, e, r⟩ := h
  exact ⟨a, b, c, s _ _ e, r⟩
theorem Pot.mono {p : Addr} {n m : Nat} {H : Hp} (h : Pot p n H) (l : n ≤ m) : Pot p m H := by
  obtain ⟨a, b, c, e, ha, hb, h0, h1⟩ := h
  exact ⟨a, b, c, e, ha, hb, h0, by omega⟩
theorem But.same {p : Addr} {H0 H H' : Hp} (b : But p H H') (hp : H0 p = none) (s : Same H0 H) : Same H0 H' := fun q o h => b q o (ne_of_none h hp) (s q o h)
theorem atI_bdN {α : Type} {xs : List α} {r : Int} (h0 : 0 ≤ r) (h1 : r < xs.length) : ∃ v, atI xs r = some v ∧ v ∈ xs := by
  obtain ⟨j, rfl⟩ := Int.eq_ofNat_of_zero_le h0
  have hj : j < xs.length := by omega
  exact ⟨xs[j], atI_nat (List.getElem?_eq_getElem hj), List.getElem_mem hj⟩
theorem atI_bd {xs : List V} {r : Int} (h0 : 0 ≤ r) (h1 : r < xs.length) : ∃ v, atI xs r = some v ∧ v ∈ xs := atI_bdN h0 h1
theorem join_le (sep : Str) (ys : List Str) : (Txt.join sep ys).length ≤ (ys.map (·.length)).sum + ys.length * sep.length := by
  show (Builtin.Str.glued sep ys).length ≤ _
  rw [StrLaws.glued_eq_join]
  exact StrLaws.join_length_le sep ys
theorem strOk_joinT {sep : Str} (hs : PyData.strOk sep = true) {ys : List Str} (h : ∀ y ∈ ys, PyData.strOk y = true) : PyData.strOk (Txt.join sep ys) = true := by
  show PyData.strOk (Builtin.Str.glued sep ys) = true
  rw [StrLaws.glued_eq_join]
  exact strOk_join hs h
theorem sum_ones : ∀ (ys : List Str), (∀ y ∈ ys, y.length = 1) → (ys.map (·.length)).sum = ys.length
  | [], _ => rfl
  | y :: r, h => by
    rw [List.map_cons, List.sum_cons, sum_ones r fun z hz => h z (List.mem_cons_of_mem _ hz), h y List.mem_cons_self, List.length_cons]
    omega

def spTake : Sp := fun vs H Q _ => ∃ (p : Addr) (n : Nat) (many : Int), vs = [.ref p, .int many] ∧ Pot p n H ∧ n < 100000 ∧ 0 < many ∧ many < 2 ^ 64 ∧
  ∀ r H', 0 ≤ r → r < many → Pot p (n + 1) H' → But p H H' → Q (.int r) H'
def spPot (K : PySem.W.Frag) : Sp := fun vs H Q _ => ∃ (a : Addr) (ns : List Int) (k : Int), vs = [.ref a, .int k] ∧ SqL K H a (ns.map V.int) ∧ 0 ≤ k ∧ k < 1000 ∧
  ∀ p H', H p = none → Same H H' → Pot p 0 H' → Q (.ref p) H'
theorem big_lt : ((10 : Int) ^ (60 : Int).toNat) ^ (10 : Int).toNat < 2 ^ 2000 ∧ (0 : Int) < ((10 : Int) ^ (60 : Int).toNat) ^ (10 : Int).toNat := by decide +kernel
theorem powW1 : CPowW ((10 : Int) ^ (60 : Int).toNat) 10 := by
  refine ⟨by decide, ?_⟩
  decide +kernel
theorem b01 (g : Bool) : -(2 ^ 64) < (if g = true then (1 : Int) else 0) ∧ (if g = true then (1 : Int) else 0) < 2 ^ 64 := by cases g <;> decide
theorem powArg {r k : Int} (h0 : 0 ≤ r) (h1 : r < 2147483629) (k0 : 0 ≤ k) (k1 : k < 1000) : (r + 7919 * k + 1).natAbs < 2 ^ 64 := by omega
theorem lt2000 : (0 : Int) < 2 ^ 2000 := by decide +kernel
end Pr
namespace Pr
open PySem PySem.Spec PyProof.Rows L2
theorem But.later {p q : Addr} {H H1 : Hp} {o : HO} (b : But p H H1) (h : H q = none) : But p H (upd H1 q o) := fun c x n e => by
  rw [upd_ne (ne_of_none e h)]
  exact b c x n e
theorem Knd.but {p : Addr} {H H' : Hp} {v : V} {k : String} (h : Knd H v k) (hp : v ≠ .ref p) (s : But p H H') : Knd H' v k := by
  cases h with
  | non => exact .non
  | bl b => exact .bl b
  | int i => exact .int i
  | str z hz => exact .str z hz
  | lst e => exact .lst (s _ _ (fun q => hp (by rw [q])) e)
  | tup e => exact .tup (s _ _ (fun q => hp (by rw [q])) e)
  | dK e => exact .dK (s _ _ (fun q => hp (by rw [q])) e)
theorem Knd.updL {L : Addr} {H : Hp} {xs ys : List V} {v : V} {k : String} (e0 : H L = some (.lst xs)) (h : Knd H v k) : Knd (upd H L (.lst ys)) v k := by
  cases h with
  | non => exact .non
  | bl b => exact .bl b
  | int i => exact .int i
  | str z hz => exact .str z hz
  | @lst a zs e =>
    by_cases q : a = L
    · rw [q]; exact .lst upd_same
    · exact .lst (by rw [upd_ne q]; exact e)
  | tup e => exact .tup (by rw [upd_ne (ne_of e e0 (by intro z; cases z))]; exact e)
  | dK e => exact .dK (by rw [upd_ne (ne_of e e0 (by intro z; cases z))]; exact e)
/-- a part: of some kind, not the pot -/
def El (p : Addr) (H : Hp) (x : V) : Prop := (∃ k, Knd H x k) ∧ x ≠ .ref p
theorem El.but {p : Addr} {H H' : Hp} {x : V} (h : El p H x) (s : But p H H') : El p H' x := ⟨h.1.elim fun k q => ⟨k, q.but h.2 s⟩, h.2⟩
theorem El.updL {p L : Addr} {H : Hp} {xs ys : List V} {x : V} (e0 : H L = some (.lst xs)) (h : El p H x) : El p (upd H L (.lst ys)) x := ⟨h.1.elim fun k q => ⟨k, q.updL e0⟩, h.2⟩
theorem El.int {p : Addr} {H : Hp} (i : Int) : El p H (.int i) := ⟨⟨_, .int i⟩, fun z => by cases z⟩
theorem El.str {p : Addr} {H : Hp} {z : Str} (h : okS z) : El p H (.str z) := ⟨⟨_, .str z h⟩, fun z => by cases z⟩
/-- a thing of any kind, not the pot; what is in a tuple is of some kind, too -/
inductive Thing (p : Addr) (H : Hp) : V → Prop
  | flat {v : V} {k : String} (h : Knd H v k) (hk : k ≠ "tuple") (hp : v ≠ .ref p) : Thing p H v
  | tup {a : Addr} {xs : List V} (e : H a = some (.tup xs)) (h : ∀ x ∈ xs, El p H x) (hp : a ≠ p) : Thing p H (.ref a)
theorem Thing.but {p : Addr} {H H' : Hp} {v : V} (h : Thing p H v) (s : But p H H') : Thing p H' v := by
  cases h with
  | flat h hk hp => exact .flat (h.but hp s) hk hp
  | tup e h hp => exact .tup (s _ _ hp e) (fun x hx => (h x hx).but s) hp
theorem Thing.el {p : Addr} {H : Hp} {v : V} (h : Thing p H v) : El p H v := by
  cases h with
  | flat h hk hp => exact ⟨⟨_, h⟩, hp⟩
  | tup e h hp => exact ⟨⟨_, .tup e⟩, fun z => hp (V.ref.inj z)⟩
theorem Thing.knd {p : Addr} {H : Hp} {v : V} (h : Thing p H v) : ∃ k, Knd H v k := h.el.1
theorem Thing.int {p : Addr} {H : Hp} (i : Int) : Thing p H (.int i) := .flat (.int i) (by decide) (fun z => by cases z)
theorem Thing.str {p : Addr} {H : Hp} {z : Str} (h : okS z) : Thing p H (.str z) := .flat (.str z h) (by decide) (fun z => by cases z)
theorem alloc {H : Hp} {p : Addr} (o : HO) (h : H p = none) : ∃ H1, upd H p o = H1 ∧ Same H H1 ∧ H1 p = some o := ⟨_, rfl, Same.new h, upd_same⟩
/-- what follows, by a name -/
theorem absQ {t : TE} {σ : L2.St} {H : Hp} {Q : VK} (h : ∀ G : VK, (∀ v H', Q v H' → G v H') → t σ H G) : t σ H Q := h Q fun _ _ q => q
theorem seqAsg {te : TE} {g : TG} {u : TS} {D : Ends} {σ : L2.St} {H : Hp} (h : ∀ G : VK, (∀ v H', g v σ H' (u D) → G v H') → te σ H G) : tSeq (tAsg te g) u D σ H := absQ (t := te) h
theorem nameInto {t : TS} {D E : Ends} {i : Nat} {x : V} {σ : L2.St} {H : Hp} (h : t D (σ.set i (some x)) H) : gName i x σ H ({ E with nx := t D } : Ends).nx := h
theorem mem_cutV {xs : List V} {lo hi : Option Int} {x : V} (h : x ∈ cutV xs lo hi) : x ∈ xs := by
  unfold cutV at h
  exact List.mem_of_mem_drop (List.mem_of_mem_take h)
end Pr
namespace PySem.SeqAt
open PySem PySem.Spec PyProof.Rows
theorem dict_eq_declines_strX (l : Addr) (es : Array DictEntry) (ep : Nat) (dd : Option Addr) (sl : Array (Option Value)) (b : Str) (u : Tok) :
    Meets (Builtin.«dict.__eq__» ⟨[.ref l, .str b u], []⟩) (fun _ R s => s.heap.get? l = some { cls := .type "dict", dict := dd, data := .dict es ep, slots := sl } ∧ R (.ok (.ret .notImplemented)) s) :=
  .of_wp fun prog w A R s h => by obtain ⟨hp, g, d, tk, os⟩ := s; obtain ⟨hl, h⟩ := h; have f1 := F.sub_str_dict; wp_walk using wpAny_loadPart' hl; exact ⟨_, rfl, h⟩
theorem str_eq_declines_dictX (b : Str) (u : Tok) (l : Addr) (es : Array DictEntry) (ep : Nat) (dd : Option Addr) (sl : Array (Option Value)) :
    Meets (Builtin.«str.__eq__» ⟨[.str b u, .ref l], []⟩) (fun _ R s => s.heap.get? l = some { cls := .type "dict", dict := dd, data := .dict es ep, slots := sl } ∧ R (.ok (.ret .notImplemented)) s) :=
  .of_wp fun prog w A R s h => by obtain ⟨hp, g, d, tk, os⟩ := s; obtain ⟨hl, h⟩ := h; wp_walk using wpAny_loadPart' hl, wpAny_load hl; exact ⟨_, rfl, h⟩
section
variable {A : Around} {s : Shared}
def IsDct (h : Heap) (l : Addr) : Prop := ∃ (o : Obj) (es : Array DictEntry) (ep : Nat), h.get? l = some o ∧ o.cls = .type "dict" ∧ o.data = .dict es ep
theorem RcAt.dict_strX {l : Addr} (b : Str) (u : Tok) (hl : IsDct s.heap l) (hu : A.units < cLine) : RcAt A s (.ref l) (.str b u) false := fun prog w E Q h => by
  obtain ⟨⟨cls, dd, data, sl⟩, es, ep, ho, hc, hd⟩ := id hl
  simp only at hc hd
  subst hc hd
  exact rc_eq_decline_or (k := false) ⟨_, ho, rfl⟩ (typeIs_str s b u) (by decide) F.sub_str_dict F.slot_dict_eq F.slot_str_eq_refl
    (fun _ hq => call_meets F.slot_dict_eq ⟨_, ho, rfl⟩ F.entry_dict_eq (F.args_dict_eq_2 _ _) (dict_eq_declines_strX l es ep dd sl b u) ⟨ho, hq⟩)
    (fun _ hq => call_meets F.slot_str_eq_refl (typeIs_str s b u) F.entry_str_eq (F.args_str_eq_2 _ _) (str_eq_declines_dictX b u l es ep dd sl) ⟨ho, hq⟩)
    (fun _ hq => wpAny_of_eq (rfl : isSame (.ref l) (.str b u) = pure false) hq) (.inr hu) h
theorem RcAt.str_dictX {l : Addr} (b : Str) (u : Tok) (hl : IsDct s.heap l) (hu : A.units < cLine) : RcAt A s (.str b u) (.ref l) false := fun prog w E Q h => by
  obtain ⟨⟨cls, dd, data, sl⟩, es, ep, ho, hc, hd⟩ := id hl
  simp only at hc hd
  subst hc hd
  exact rc_eq_decline_or (k := false) (typeIs_str s b u) ⟨_, ho, rfl⟩ (by decide) F.sub_dict_str F.slot_str_eq F.slot_dict_eq_refl
    (fun _ hq => call_meets F.slot_str_eq (typeIs_str s b u) F.entry_str_eq (F.args_str_eq_2 _ _) (str_eq_declines_dictX b u l es ep dd sl) ⟨ho, hq⟩)
    (fun _ hq => call_meets F.slot_dict_eq_refl ⟨_, ho, rfl⟩ F.entry_dict_eq (F.args_dict_eq_2 _ _) (dict_eq_declines_strX l es ep dd sl b u) ⟨ho, hq⟩)
    (fun _ hq => wpAny_of_eq (rfl : isSame (.str b u) (.ref l) = pure false) hq) (.inr hu) h
theorem EqAt.str_dictX {l : Addr} (b : Str) (u : Tok) (hl : IsDct s.heap l) (hu : A.units < cLine) : EqAt A s (.str b u) (.ref l) false := fun prog w E Q h => by
  unfold eqBool
  refine wpAny_holding ?_
  refine wpAny_ite_split (fun hab => absurd (eq_of_beq hab) nofun) (fun _ => ?_)
  exact wpAny_bind (RcAt.str_dictX b u hl hu prog w E _ (wpAny_truthy_bool h))
end
end PySem.SeqAt
namespace Pr
open PySem PySem.Spec PyProof.Rows L2
/-! ### things as data; lists and dicts are told by their kind alone -/
inductive D where
  | non | bl (b : Bool) | int (i : Int) | str (z : Str) | tup (ds : List D) | lst | dct
mutual
inductive Is (p : Addr) (H : Hp) : V → D → Prop
  | non : Is p H .non .non
  | bl (b : Bool) : Is p H (.bl b) (.bl b)
  | int (i : Int) : Is p H (.int i) (.int i)
  | str (z : Str) (h : okS z) : Is p H (.str z) (.str z)
  | tup {a : Addr} {xs : List V} {ds : List D} (e : H a = some (.tup xs)) (h : IsAll p H xs ds) (hp : a ≠ p) : Is p H (.ref a) (.tup ds)
  | lst {a : Addr} {xs : List V} (e : H a = some (.lst xs)) (hp : a ≠ p) : Is p H (.ref a) .lst
  | dct {a : Addr} {kvs : List (Key × V)} (e : H a = some (.dK kvs)) (hp : a ≠ p) : Is p H (.ref a) .dct
inductive IsAll (p : Addr) (H : Hp) : List V → List D → Prop
  | nil : IsAll p H [] []
  | cons {v : V} {vs : List V} {d : D} {ds : List D} : Is p H v d → IsAll p H vs ds → IsAll p H (v :: vs) (d :: ds)
end
mutual
theorem Is.but {p : Addr} {H H' : Hp} {v : V} {d : D} (h : Is p H v d) (s : But p H H') : Is p H' v d := by
  cases h with
  | non => exact .non
  | bl b => exact .bl b
  | int i => exact .int i
  | str z hz => exact .str z hz
  | tup e h hp => exact .tup (s _ _ hp e) (IsAll.but h s) hp
  | lst e hp => exact .lst (s _ _ hp e) hp
  | dct e hp => exact .dct (s _ _ hp e) hp
theorem IsAll.but {p : Addr} {H H' : Hp} {vs : List V} {ds : List D} (h : IsAll p H vs ds) (s : But p H H') : IsAll p H' vs ds := by
  cases h with
  | nil => exact .nil
  | cons h t => exact .cons (Is.but h s) (IsAll.but t s)
end
theorem Is.same {p : Addr} {H H' : Hp} {v : V} {d : D} (h : Is p H v d) (s : Same H H') : Is p H' v d := h.but (But.of s)
theorem IsAll.same {p : Addr} {H H' : Hp} {v : List V} {d : List D} (h : IsAll p H v d) (s : Same H H') : IsAll p H' v d := h.but (But.of s)
theorem IsAll.length {p : Addr} {H : Hp} : ∀ {vs : List V} {ds : List D}, IsAll p H vs ds → vs.length = ds.length
  | _, _, .nil => rfl
  | _, _, .cons _ t => by rw [List.length_cons, List.length_cons, t.length]
theorem IsAll.get {p : Addr} {H : Hp} : ∀ {vs : List V} {ds : List D} {i : Nat} {v : V}, IsAll p H vs ds → vs[i]? = some v → ∃ d, ds[i]? = some d ∧ Is p H v d
  | _, _, _, _, .nil, e => by simp at e
  | _, _, 0, _, .cons h _, e => by
    obtain rfl : _ = _ := by simpa using e
    exact ⟨_, rfl, h⟩
  | _, _, i + 1, _, .cons _ t, e => by
    obtain ⟨d, h1, h2⟩ := t.get (i := i) (by simpa using e)
    exact ⟨d, by simpa using h1, h2⟩
theorem IsAll.append {p : Addr} {H : Hp} : ∀ {xs ys : List V} {ds es : List D}, IsAll p H xs ds → IsAll p H ys es → IsAll p H (xs ++ ys) (ds ++ es)
  | _, _, _, _, .nil, t => t
  | _, _, _, _, .cons h s, t => .cons h (s.append t)
theorem IsAll.drop {p : Addr} {H : Hp} : ∀ {xs : List V} {ds : List D} (n : Nat), IsAll p H xs ds → IsAll p H (xs.drop n) (ds.drop n)
  | _, _, 0, h => h
  | _, _, n + 1, .nil => .nil
  | _, _, n + 1, .cons _ t => t.drop n
theorem IsAll.take {p : Addr} {H : Hp} : ∀ {xs : List V} {ds : List D} (n : Nat), IsAll p H xs ds → IsAll p H (xs.take n) (ds.take n)
  | _, _, 0, _ => .nil
  | _, _, n + 1, .nil => .nil
  | _, _, n + 1, .cons h t => .cons h (t.take n)
theorem IsAll.of_mem {p : Addr} {H : Hp} : ∀ {xs : List V}, (∀ x ∈ xs, ∃ d, Is p H x d) → ∃ ds, IsAll p H xs ds
  | [], _ => ⟨[], .nil⟩
  | x :: r, h => by
    obtain ⟨d, hd⟩ := h x List.mem_cons_self
    obtain ⟨ds, hs⟩ := IsAll.of_mem fun y hy => h y (List.mem_cons_of_mem _ hy)
    exact ⟨_, .cons hd hs⟩
theorem IsAll.mem {p : Addr} {H : Hp} : ∀ {xs : List V} {ds : List D}, IsAll p H xs ds → ∀ x ∈ xs, ∃ d, Is p H x d
  | _, _, .nil => fun _ h => nomatch h
  | _, _, .cons h t => fun x hx => by
    rcases List.mem_cons.mp hx with rfl | hx
    · exact ⟨_, h⟩
    · exact t.mem x hx
/-- a thing of any kind -/
def Any (p : Addr) (H : Hp) (v : V) : Prop := ∃ d, Is p H v d
theorem Any.but {p : Addr} {H H' : Hp} {v : V} (h : Any p H v) (s : But p H H') : Any p H' v := h.elim fun d q => ⟨d, q.but s⟩
theorem Any.same {p : Addr} {H H' : Hp} {v : V} (h : Any p H v) (s : Same H H') : Any p H' v := h.but (But.of s)
def D.kind : D → String
  | .non => "NoneType" | .bl _ => "bool" | .int _ => "int" | .str _ => "str" | .tup _ => "tuple" | .lst => "list" | .dct => "dict"
theorem Is.knd {p : Addr} {H : Hp} {v : V} {d : D} (h : Is p H v d) : Knd H v d.kind := by
  cases h with
  | non => exact .non
  | bl b => exact .bl b
  | int i => exact .int i
  | str z hz => exact .str z hz
  | tup e h hp => exact .tup e
  | lst e hp => exact .lst e
  | dct e hp => exact .dK e
def rIsd : List V → Hp → VK → Prop := fun xs H Q => ∃ (p : Addr) (v : V) (d : D) (T : String), xs = [v, .ty T] ∧ okT T ∧ Is p H v d ∧ Q (.bl (isk d.kind T)) H
theorem call_isd {X : Cx} : CallR X (.builtin "isinstance") rIsd := by
  intro pins s σ H xs us Q I r h
  obtain ⟨p, v, d, T, rfl, hT, hd, q⟩ := h
  exact call_isk pins s σ H _ us Q I r ⟨v, T, _, rfl, hT, hd.knd, q⟩
/-- is the thing this text? -/
def isS (d : D) (z : Str) : Bool := match d with
  | .str y => decide (y = z)
  | _ => false
section
variable {X : Cx} {pins : List (Addr × Obj)} {σ : L2.St} {H : Hp} {s : Shared}
theorem isDct_of {a : Addr} {kvs : List (Key × V)} (I : Inv X pins σ H s) (e : H a = some (.dK kvs)) : PySem.SeqAt.IsDct s.heap a := by
  obtain ⟨_, _, vs, _, o, es, ep, h1, h2, h3, _⟩ := (show ObjOk X.prog X.w H s.heap a (.dK kvs) from I.hok a _ e)
  exact ⟨o, es, ep, h1, h2.1, h3⟩
/-- x == 'text' -/
theorem op_eqS (hu : X.A.units + 64 < cLine) : OpR X (compareOp .Eq) (fun x y H Q => ∃ (p : Addr) (d : D) (z : Str), y = .str z ∧ Is p H x d ∧ Q (.bl (isS d z)) H) := by
  intro pins s σ H x y v u Q I rx ry h
  obtain ⟨p, d, z, rfl, hd, q⟩ := h
  have hu' : X.A.units < cLine := by omega
  cases hd with
  | non => exact op_eq pins s σ H _ _ v u Q I rx ry ⟨rfl, q⟩
  | bl b => exact op_eq pins s σ H _ _ v u Q I rx ry ⟨rfl, by simpa [isS] using q⟩
  | int i => exact op_eq pins s σ H _ _ v u Q I rx ry ⟨rfl, by simpa [isS] using q⟩
  | str y hy => exact op_eq pins s σ H _ _ v u Q I rx ry ⟨rfl, by simpa [isS] using q⟩
  | tup e h hp =>
    cases (show v = Value.ref _ from rx)
    obtain ⟨t, rfl⟩ := ry
    obtain ⟨its, r, pl, hz⟩ := I.tuple (SqT.of e)
    exact SeqAt.RcAt.tuple_str z t pl hu' X.prog X.w _ _ ⟨.bl false, H, I, rfl, q⟩
  | lst e hp =>
    cases (show v = Value.ref _ from rx)
    obtain ⟨t, rfl⟩ := ry
    obtain ⟨its, r, pl, hz⟩ := I.list (SqL.of e)
    exact SeqAt.RcAt.list_str z t pl.isList hu' X.prog X.w _ _ ⟨.bl false, H, I, rfl, q⟩
  | dct e hp =>
    cases (show v = Value.ref _ from rx)
    obtain ⟨t, rfl⟩ := ry
    exact SeqAt.RcAt.dict_strX z t (isDct_of I e) hu' X.prog X.w _ _ ⟨.bl false, H, I, rfl, q⟩
/-- x is True -/
def isT (d : D) : Bool := match d with
  | .bl b => b
  | _ => false
theorem op_isTrue : OpR X (compareOp .Is) (fun x y H Q => ∃ (p : Addr) (d : D), y = .bl true ∧ Is p H x d ∧ Q (.bl (isT d)) H) := by
  intro pins s σ H x y v u Q I rx ry h
  obtain ⟨p, d, rfl, hd, q⟩ := h
  cases (show u = Value.bool true from ry)
  cases hd with
  | non => cases rx; exact wpAny_is_other rfl (by intro z; cases z) ⟨.bl false, H, I, rfl, q⟩
  | bl b =>
    cases rx
    cases b with
    | true => exact wpAny_is_self rfl ⟨.bl true, H, I, rfl, q⟩
    | false => exact wpAny_is_other rfl (by intro z; cases z) ⟨.bl false, H, I, rfl, q⟩
  | int i => obtain ⟨t, rfl⟩ := rx; exact wpAny_is_other rfl (by intro z; cases z) ⟨.bl false, H, I, rfl, q⟩
  | str y hy => obtain ⟨t, rfl⟩ := rx; exact wpAny_is_other rfl (by intro z; cases z) ⟨.bl false, H, I, rfl, q⟩
  | tup e h hp => cases rx; exact wpAny_is_other rfl (by intro z; cases z) ⟨.bl false, H, I, rfl, q⟩
  | lst e hp => cases rx; exact wpAny_is_other rfl (by intro z; cases z) ⟨.bl false, H, I, rfl, q⟩
  | dct e hp => cases rx; exact wpAny_is_other rfl (by intro z; cases z) ⟨.bl false, H, I, rfl, q⟩
/-- x in a row of texts -/
def inS (d : D) (zs : List Str) : Bool := zs.any fun z => isS d z
def eqS (d : D) : Value → Bool
  | .str z _ => isS d z
  | _ => false
theorem any_eqS {d : D} : ∀ {zs : List Str} {us : List Value}, Vals (zs.map V.str) us → us.any (eqS d) = inS d zs
  | [], _, .nil => rfl
  | z :: zs, _, .cons r t => by
    obtain ⟨k, rfl⟩ := r
    unfold inS
    rw [List.any_cons, List.any_cons, any_eqS t]
    rfl
theorem mem_eqS {p : Addr} {d : D} {x : V} {v : Value} (I : Inv X pins σ H s) (rx : RelV x v) (hd : Is p H x d) {A : Around} (hu : A.units < cLine) : ∀ {zs : List Str} {us : List Value}, Vals (zs.map V.str) us → ∀ u ∈ us, SeqAt.EqAt A s u v (eqS d u)
  | [], _, .nil => fun _ h => nomatch h
  | z :: zs, _, .cons r t => fun u' hm => by
    rcases List.mem_cons.mp hm with rfl | hm
    · obtain ⟨k, rfl⟩ := r
      cases hd with
      | non => cases rx; exact SeqAt.EqAt.str_none z k
      | bl b => cases rx; exact SeqAt.EqAt.str_bool z k b
      | int i => obtain ⟨t, rfl⟩ := rx; exact SeqAt.EqAt.str_int z k i t
      | str y hy =>
        obtain ⟨t, rfl⟩ := rx
        have e := SeqAt.EqAt.str_str (A := A) (s := s) z k y t
        have e2 : eqS (.str y) (.str z k) = (z == y) := by
          show decide (y = z) = _
          by_cases q : y = z
          · subst q; simp
          · rw [decide_eq_false q]; exact (beq_eq_false_iff_ne.mpr (Ne.symm q)).symm
        rw [e2]
        exact e
      | tup e h hp =>
        cases rx
        obtain ⟨its, r, pl, hz⟩ := I.tuple (SqT.of e)
        exact SeqAt.EqAt.str_tuple z k pl hu
      | lst e hp =>
        cases rx
        obtain ⟨its, r, pl, hz⟩ := I.list (SqL.of e)
        exact SeqAt.EqAt.str_list z k pl.isList hu
      | dct e hp =>
        cases rx
        exact SeqAt.EqAt.str_dictX z k (isDct_of I e) hu
    · exact mem_eqS I rx hd hu t u' hm
theorem op_inS2 (hu : X.A.units + 64 < cLine) : OpR X (compareOp .In) (fun x y H Q => ∃ (p q : Addr) (d : D) (zs : List Str), y = .ref q ∧ (SqL X.K H q (zs.map V.str) ∨ SqT X.K H q (zs.map V.str)) ∧ Is p H x d ∧ Q (.bl (inS d zs)) H) := by
  intro pins s σ H x y v u Q I rx ry h
  obtain ⟨p, qa, d, zs, rfl, hq, hd, q⟩ := h
  cases ry
  have hu' : X.A.in1.units < cLine := by show X.A.units + 1 < cLine; omega
  rcases hq with hq | hq
  · obtain ⟨its, r, pl, hz⟩ := I.list hq
    refine SeqAt.in_listAt (eqS d) pl.isList (fun w hw => mem_eqS I rx hd hu' r w (by simpa using hw)) ⟨.bl _, H, I, rfl, ?_⟩
    rw [show its.toArray.any (eqS d) = its.any (eqS d) by simp, any_eqS r]
    exact q
  · obtain ⟨its, r, pl, hz⟩ := I.tuple hq
    refine SeqAt.in_tupleAt (eqS d) pl (fun w hw => mem_eqS I rx hd hu' r w (by simpa using hw)) ⟨.bl _, H, I, rfl, ?_⟩
    rw [show its.toArray.any (eqS d) = its.any (eqS d) by simp, any_eqS r]
    exact q
end
/-! ### the looks, over data -/
def mWhole (lo hi : Int) : D → Bool
  | .int i => decide (lo ≤ i) && decide (i ≤ hi)
  | _ => false
def mWord : D → Bool
  | .str z => decide (z.length ≤ 8) && (decide (0 < z.length) && azAll z)
  | _ => false
def mName (d : D) : Bool := mWord d && !isS d "key"
def mValue (d : D) : Bool := mWord d || mWhole (-1000000000) 1000000000 d
def mId : D → Bool
  | .tup [a, b, c] => mWhole 0 7 a && (mName b && mWhole 0 1000000 c)
  | _ => false
theorem mWord_str {d : D} (h : mWord d = true) : ∃ z, d = .str z := by
  cases d <;> first | exact ⟨_, rfl⟩ | cases h
theorem mId_len {xs : List D} (h : xs.length ≠ 3) : mId (.tup xs) = false := by
  unfold mId
  split
  · rename_i q
    injection q with q
    rw [q] at h
    exact absurd rfl h
  · rfl
end Pr
namespace Pr
open PySem PySem.Spec PyProof.Rows L2
def rIsEx (K : PySem.W.Frag) (a : Addr) (cls : Value) (d : Option Addr) : List V → Hp → VK → Prop := fun xs H Q => ∃ (D : Addr) (c : V) (cv : Value) (b : Bool), cls = .ref D ∧ d = none ∧ ExcC K D ∧ xs = [.ref a, c] ∧ (∀ u, RelV c u → u = cv) ∧ PySem.W.kitOne K (.ref D) cv = some b ∧ Q (.bl b) H
theorem call_isEx {X : Cx} {a : Addr} {cls : Value} {d : Option Addr} {oe : Obj} {pn : List (Addr × Obj)} (hz : Zc cls d oe) (hf : ∃ vs, oe.data = .fields vs) : CallR (X.suite a ((a, oe) :: pn)) (.builtin "isinstance") (rIsEx X.K a cls d) := by
  intro pins s σ H xs us Q I r h
  obtain ⟨D, c, cv, b, rfl, rfl, hC, rfl, hcv, e, q⟩ := h
  exact call_isE hC hz hf pins s σ H _ us Q I r ⟨c, cv, b, rfl, hcv, e, q⟩
theorem kit_same {K : PySem.W.Frag} {a : Addr} : PySem.W.kitOne K (.ref a) (.ref a) = some true := by
  unfold PySem.W.kitOne
  rw [if_pos (beq_self_eq_true _)]
/-- a look at one thing -/
def spD (m : D → Bool) : Sp := fun vs H Q _ => ∃ (p : Addr) (v : V) (d : D), vs = [v] ∧ Is p H v d ∧ ∀ H', Same H H' → Q (.bl (m d)) H'
def spWhole : Sp := fun vs H Q _ => ∃ (p : Addr) (v : V) (d : D) (lo hi : Int), vs = [v, .int lo, .int hi] ∧ Is p H v d ∧ ∀ H', Same H H' → Q (.bl (mWhole lo hi d)) H'
theorem Is.str_inv {p : Addr} {H : Hp} {v : V} {z : Str} (h : Is p H v (.str z)) : v = .str z ∧ okS z := by
  cases h with
  | str _ hz => exact ⟨rfl, hz⟩
theorem Is.int_inv {p : Addr} {H : Hp} {v : V} {i : Int} (h : Is p H v (.int i)) : v = .int i := by
  cases h with
  | int _ => rfl
end Pr
namespace Pr
open PySem PySem.Spec PyProof.Rows L2
def spD2 (m : D → D → Bool) : Sp := fun vs H Q _ => ∃ (p : Addr) (v u : V) (d e : D), vs = [v, u] ∧ Is p H v d ∧ Is p H u e ∧ ∀ H', Same H H' → Q (.bl (m d e)) H'
theorem iteB {A B : Prop} {c : Bool} (h1 : c = true → A) (h2 : c = false → B) : if c = true then A else B := by
  cases c with
  | true => exact h1 rfl
  | false => exact h2 rfl
theorem iteN {A B : Prop} {c : Bool} (h1 : c = true → B) (h2 : c = false → A) : if (!c) = true then A else B := by
  cases c with
  | true => exact h1 rfl
  | false => exact h2 rfl
theorem cut2 (w t : V) (r : List V) : cutV (w :: t :: r) (some 2) none = r := by
  unfold cutV
  have e : HT.sIx (w :: t :: r).length 0 (some 2) = min 2 (w :: t :: r).length := HT.sIx_nat _ _ 2
  have e2 : min 2 (w :: t :: r).length = 2 := by rw [List.length_cons, List.length_cons]; omega
  rw [HT.sIx_none, e, e2]
  show List.take _ r = r
  rw [List.length_cons, List.length_cons]
  exact List.take_of_length_le (by omega)
def mKind (d : D) : Bool := inS d ["number", "word", "any"]
abbrev mKey : D → Bool := mWhole 0 1000000000
def mFollow (w x : D) : Bool := if isS w "row" then mKey x else if isS w "slot" then mName x else (inS w ["column", "name", "kind", "else"] && mId x)
def mPlaceR (w : D) : List D → Bool
  | [] => isS w "table"
  | [x] => mFollow w x
  | [k, i] => isS w "cell" && (mKey k && mId i)
  | _ => false
def mPlace : D → Bool
  | .tup (w :: t :: r) => mName t && mPlaceR w r
  | _ => false
def mFits (w x : D) : Bool := if inS w ["table", "column", "row"] then isT x else if isS w "name" then mName x else if isS w "slot" then mId x else if isS w "kind" then mKind x else mValue x
def mStand : D → D → Bool
  | .tup (w :: _), x => mFits w x
  | _, _ => false
def spNeed (C : Addr) : Sp := fun vs H Q E => ∃ (p : Addr) (v : V) (d : D), vs = [v] ∧ Is p H v d ∧ (mPlace d = true → ∀ H', Same H H' → Q .non H') ∧ (mPlace d = false → ∀ H', Same H H' → E (.ref C) none H')
def spTable (C : Addr) : Sp := fun vs H Q E => ∃ (p : Addr) (v : V) (d : D), vs = [v] ∧ Is p H v d ∧ (mPlace d = true → ∀ a x t r, v = .ref a → H a = some (.tup (x :: t :: r)) → ∀ H', Same H H' → Q t H') ∧ (mPlace d = false → ∀ H', Same H H' → E (.ref C) none H')
def spStand (C : Addr) : Sp := fun vs H Q E => ∃ (p : Addr) (v u : V) (d e : D), vs = [v, u] ∧ Is p H v d ∧ Is p H u e ∧ (mPlace d = true → ∀ H', Same H H' → Q (.bl (mStand d e)) H') ∧ (mPlace d = false → ∀ H', Same H H' → E (.ref C) none H')
/-- a place is a row of two parts at least -/
theorem mPlace_inv {p : Addr} {H : Hp} {v : V} {d : D} (h : Is p H v d) (hm : mPlace d = true) : ∃ a w t r dw dt dr, v = .ref a ∧ d = .tup (dw :: dt :: dr) ∧ H a = some (.tup (w :: t :: r)) ∧ Is p H w dw ∧ Is p H t dt ∧ IsAll p H r dr ∧ a ≠ p := by
  cases h with
  | @tup a xs ds e h hp =>
    cases h with
    | nil => cases hm
    | @cons w r dw dr gw t =>
      cases t with
      | nil => cases hm
      | @cons t r2 dt dr2 gt t2 => exact ⟨_, _, _, _, _, _, _, rfl, rfl, e, gw, gt, t2, hp⟩
  | _ => cases hm
end Pr
namespace L2
open PySem PySem.Spec PyProof.Rows HT
section
variable {prog : Program} {w : World} {A : Around} {E : Value → Shared → Prop} {s : Shared}
theorem adjust_rev (n : Nat) : Builtin.Slice.sliceAdjust none none (-1) (n : Int) = ((n : Int) - 1, -1) := by
  unfold Builtin.Slice.sliceAdjust
  rfl
theorem places_rev (n : Nat) : Builtin.Slice.slicePlaces ((n : Int) - 1) (-1) (-1) = n := by
  unfold Builtin.Slice.slicePlaces
  have h1 : ¬ ((-1 : Int) > 0) := by omega
  simp only [h1, if_false]
  split
  · simp only [Int.neg_neg, Int.ediv_one]
    omega
  · omega
theorem sliceApplied_rev {sl : Addr} {t : Tok} {n : Nat} {Q : Int × Int × Nat → Shared → Prop} (hs : s.heap.IsSliceOf sl .none .none (.int (-1) t))
    (h : Q ((n : Int) - 1, -1, n) s) : wpAny (model prog w) A (Builtin.Slice.sliceApplied (.ref sl) (pure (n : Int))) Q E s := by
  obtain ⟨os, hos, hcs, hds⟩ := id hs
  unfold Builtin.Slice.sliceApplied Builtin.Slice.sliceFields
  refine wpAny_bind (wpAny_bind (wpAny_field hos hds (x := .none) rfl (wpAny_bind (wpAny_field hos hds (x := .none) rfl (wpAny_bind (wpAny_field hos hds (x := .int (-1) t) rfl (wpAny_pure ?_)))))))
  refine wpAny_bind (slicePart_int ?_)
  show wpAny _ _ (if ((-1 : Int) == 0) = true then _ else _) _ _ s
  rw [if_neg (by decide)]
  refine wpAny_bind (slicePart_none (wpAny_bind (slicePart_none (wpAny_bind (wpAny_pure ?_)))))
  show wpAny _ _ (match Builtin.Slice.sliceAdjust none none (-1) (n : Int) with | (lo, hi) => pure (lo, (-1 : Int), Builtin.Slice.slicePlaces lo hi (-1))) _ _ s
  rw [adjust_rev n]
  show wpAny _ _ (pure ((n : Int) - 1, (-1 : Int), Builtin.Slice.slicePlaces ((n : Int) - 1) (-1) (-1))) _ _ s
  rw [places_rev]
  exact wpAny_pure h
theorem fm_congr {α β : Type} {f g : α → Option β} : ∀ {l : List α}, (∀ x ∈ l, f x = g x) → l.filterMap f = l.filterMap g
  | [], _ => rfl
  | x :: r, h => by rw [List.filterMap_cons, List.filterMap_cons, h x List.mem_cons_self, fm_congr fun y hy => h y (List.mem_cons_of_mem _ hy)]
theorem pick_rev (xs : Array Value) : ((List.range xs.size).filterMap fun (m : Nat) => xs[(((xs.size : Int) - 1) + (m : Int) * (-1)).toNat]?).toArray = xs.toList.reverse.toArray := by
  congr 1
  have e : ((List.range xs.size).filterMap fun (m : Nat) => xs[(((xs.size : Int) - 1) + (m : Int) * (-1)).toNat]?) = ((List.range xs.size).map fun k => xs.size - 1 - k).filterMap (xs[·]?) := by
    rw [List.filterMap_map]
    apply fm_congr
    intro m hm
    have := List.mem_range.mp hm
    show _ = xs[xs.size - 1 - m]?
    congr 1
    omega
  rw [e, PySem.W.krv_range, List.filterMap_reverse, PySem.W.krv_all]
theorem getItem_tuple_rev {t sl : Addr} {items : Array Value} {k : Tok} {Q : Value → Shared → Prop} (ht : IsTup s.heap t items) (hs : s.heap.IsSliceOf sl .none .none (.int (-1) k))
    (h : Q (.ref s.heap.objs.size) { s with heap := s.heap.push { cls := .type "tuple", data := .seq items.toList.reverse.toArray } })
    (hsz : items.size ≤ sizeLine) : wpAny (model prog w) A (getItem (.ref t) (.ref sl)) Q E s := by
  have htake : sizeOk (.seq items.toList.reverse.toArray) := by
    show items.toList.reverse.toArray.size ≤ sizeLine
    rw [List.size_toArray, List.length_reverse, Array.length_toList]
    exact hsz
  obtain ⟨os, hos, hcs, hds⟩ := id hs
  have hTs : s.TypeIs (.ref sl) "slice" := ⟨os, hos, hcs⟩
  unfold getItem
  try with_reducible refine wpAny_holding ?_
  first | refine wpAny_bind (wpAny_pure ?_) | skip
  refine wpAny_bind (wpAny_sequenceKey ht.typeIs (by decide) ?_)
  refine wpAny_bind (wpAny_callSpecial?_slot (name := Str.ofString "__getitem__") ht.typeIs PyProof.Rows.slot_tuple_getitem
    (wpAny_call_entry PyProof.Rows.slot_tuple_getitem ht.typeIs entry_tuple_getitem ?_ (args_tuple_getitem _ _)))
  show wpAny _ _ (Builtin.Tuple.tupleItemsOf (.ref t) >>= _) _ _ s
  refine wpAny_bind (tupleItemsOf_ ht ?_)
  refine wpAny_bind (wpAny_typeOf hTs ?_)
  rw [if_pos (by decide)]
  refine wpAny_bind (sliceApplied_rev hs ?_)
  have hno : ¬ ((((items.size : Int) - 1) == 0 && (-1 : Int) == 1 && items.size == items.size) = true) := by
    intro q
    rw [Bool.and_eq_true, Bool.and_eq_true] at q
    exact absurd (eq_of_beq q.1.2) (by decide)
  show wpAny _ _ (if (((items.size : Int) - 1) == 0 && (-1 : Int) == 1 && items.size == items.size) = true then _ else _) _ _ s
  rw [if_neg hno, pick_rev]
  first
    | exact wpAny_bind (m := Builtin.Tuple.tupleExact _) (wpAny_newObj_type (wpAny_pure ⟨_, rfl, wpAny_pure h⟩) htake)
    | exact wpAny_bind (m := Builtin.Tuple.tupleExact _) (wpAny_newObj_type (wpAny_bind (wpAny_pure (wpAny_pure ⟨_, rfl, wpAny_pure h⟩))) htake)
    | exact wpAny_bind (wpAny_bind (m := Builtin.Tuple.tupleExact _) (wpAny_newObj_type (wpAny_pure (wpAny_pure ⟨_, rfl, wpAny_pure h⟩)) htake))
    | exact wpAny_bind (wpAny_bind (m := Builtin.Tuple.tupleExact _) (wpAny_newObj_type (wpAny_pure ⟨_, rfl, wpAny_pure h⟩) htake))
end
section
variable {X : Cx}
/-- t[::-1] -/
def tRevT (K : PySem.W.Frag) (te : TE) : TE := fun σ H Q => te σ H fun x H1 => ∃ a xs, x = .ref a ∧ SqT K H1 a xs ∧ ∀ p, H1 p = none → Q (.ref p) (upd H1 p (.tup xs.reverse))
theorem pe_revT {e : Expr} {te : TE} {k : Nat} {p1 p2 p3 pos : Pos} (he : PE X e te) : PE X (.Subscript e (.Slice none none (some (.UnaryOp .USub (.Constant (.int 1) k p1) p2)) p3) pos) (tRevT X.K te) := by
  refine ⟨fun pins s σ H Q I h => ?_⟩
  refine Subscript_ (thn (he.run pins s σ H _ I h) fun v s1 ⟨x, H1, I1, r1, q1⟩ => ?_)
  obtain ⟨a, xs, ex, hx, q⟩ := q1
  subst ex
  cases r1
  have hst : PE X (.UnaryOp .USub (.Constant (.int 1) k p1) p2) (tUn (rU fun i => .int (-i)) (tC (.int 1))) := pe_un un_neg pe_int
  refine wpAny_Slice (thn (po_none.run pins s1 σ H1 (fun o H2 => o = none ∧ H2 = H1) I1 ⟨rfl, rfl⟩) fun vl s2 ⟨l, H2, I2, pl, el, e2⟩ => ?_)
  subst el e2
  cases pl
  refine thn (po_none.run pins s2 σ H2 (fun o H3 => o = none ∧ H3 = H2) I2 ⟨rfl, rfl⟩) fun vu s3 ⟨u, H3, I3, pu, eu, e3⟩ => ?_
  subst eu e3
  cases pu
  refine thn (hst.run pins s3 σ H3 (fun o H4 => o = V.int (-1) ∧ H4 = H3) I3 ⟨1, rfl, rfl, rfl⟩) fun vs s4 ⟨o, H4, I4, ps, eo, e4⟩ => ?_
  subst eo e4
  obtain ⟨tk, rfl⟩ := ps
  have I5 : Inv X pins σ H4 { s4 with heap := s4.heap.push { cls := .type "slice", data := .fields #[.none, .none, .int (-1) tk] } } := I4.kept (t' := s4.toks) fun b ob q => Heap.get?_push_of_some _ q
  obtain ⟨its, r, ht, hz⟩ := I5.tuple hx
  have hlen := r.length
  show wpAny (model X.prog X.w) X.A (subscriptTail e (.Slice none none (some (.UnaryOp .USub (.Constant (.int 1) k p1) p2)) p3) (.ref a) (.ref s4.heap.objs.size)) (EP X pins σ Q) X.xe { s4 with heap := s4.heap.push { cls := .type "slice", data := .fields #[.none, .none, .int (-1) tk] } }
  refine tail_any (ops := [.ref a, .ref s4.heap.objs.size]) ht.typeIs (PyProof.Rows.slot_tuple_getitem.lookup) ?_ (by with_unfolding_all rfl)
  refine getItem_tuple_rev ht (Heap.IsSliceOf.new _ .none .none (.int (-1) tk)) ?_ (by rw [List.size_toArray]; omega)
  refine ⟨.ref _, _, I5.laid (t' := s4.toks) (o := .tup xs.reverse) (fun b ob q => Heap.get?_push_of_some _ q) (Nat.le_refl _) ?_, rfl, q _ (I5.hok.fresh (Nat.le_refl _))⟩
  exact ⟨by rw [List.length_reverse]; exact hz, _, r.reverse, IsTup.new _ _⟩
end
end L2
namespace Pr
open PySem PySem.Spec PyProof.Rows L2
/-- draws: the pot goes on by c takes, R of what is told and the heap -/
def spDraw (c : Nat) (R : Addr → Hp → V → Prop) : Sp := fun vs H Q _ => ∃ (p : Addr) (n : Nat), vs = [.ref p] ∧ Pot p n H ∧ n + c < 100000 ∧
  ∀ v H', R p H' v → Pot p (n + c) H' → But p H H' → Q v H'
def isText : Addr → Hp → V → Prop := fun _ _ v => ∃ z : Str, v = .str z ∧ okS z
def isNum : Addr → Hp → V → Prop := fun _ _ v => ∃ i : Int, v = .int i
def AnyAll (p : Addr) (H : Hp) (xs : List V) : Prop := ∀ x ∈ xs, Any p H x
theorem AnyAll.nil {p : Addr} {H : Hp} : AnyAll p H [] := fun _ h => nomatch h
theorem AnyAll.cons {p : Addr} {H : Hp} {x : V} {xs : List V} (h : Any p H x) (t : AnyAll p H xs) : AnyAll p H (x :: xs) := fun y hy => by
  rcases List.mem_cons.mp hy with rfl | hy
  · exact h
  · exact t y hy
theorem AnyAll.append {p : Addr} {H : Hp} {xs ys : List V} (h : AnyAll p H xs) (t : AnyAll p H ys) : AnyAll p H (xs ++ ys) := fun y hy => (List.mem_append.mp hy).elim (h y) (t y)
theorem AnyAll.but {p : Addr} {H H' : Hp} {xs : List V} (h : AnyAll p H xs) (s : But p H H') : AnyAll p H' xs := fun x hx => (h x hx).but s
theorem AnyAll.same {p : Addr} {H H' : Hp} {xs : List V} (h : AnyAll p H xs) (s : Same H H') : AnyAll p H' xs := h.but (But.of s)
theorem Any.int {p : Addr} {H : Hp} (i : Int) : Any p H (.int i) := ⟨_, .int i⟩
theorem Any.non {p : Addr} {H : Hp} : Any p H .non := ⟨_, .non⟩
theorem Any.bl {p : Addr} {H : Hp} (b : Bool) : Any p H (.bl b) := ⟨_, .bl b⟩
theorem Any.str {p : Addr} {H : Hp} {z : Str} (h : okS z) : Any p H (.str z) := ⟨_, .str z h⟩
theorem Any.tup {p : Addr} {H : Hp} {a : Addr} {xs : List V} (e : H a = some (.tup xs)) (h : AnyAll p H xs) (hp : a ≠ p) : Any p H (.ref a) := by
  obtain ⟨ds, hs⟩ := IsAll.of_mem h
  exact ⟨_, .tup e hs hp⟩
theorem Any.lst {p : Addr} {H : Hp} {a : Addr} {xs : List V} (e : H a = some (.lst xs)) (hp : a ≠ p) : Any p H (.ref a) := ⟨_, .lst e hp⟩
theorem Any.dct {p : Addr} {H : Hp} {a : Addr} {xs : List (Key × V)} (e : H a = some (.dK xs)) (hp : a ≠ p) : Any p H (.ref a) := ⟨_, .dct e hp⟩
/-- a new tuple behind what is there -/
theorem accT {p : Addr} {n : Nat} {H : Hp} {acc xs : List V} (A : AnyAll p H acc) (P : Pot p n H) (hx : AnyAll p H xs) {a : Addr} (hn : H a = none) :
    ∃ H1, upd H a (.tup xs) = H1 ∧ Same H H1 ∧ AnyAll p H1 (acc ++ [.ref a]) ∧ Pot p n H1 ∧ H1 a = some (.tup xs) := by
  have s : Same H (upd H a (.tup xs)) := Same.new hn
  exact ⟨_, rfl, s, (A.same s).append (.cons (.tup upd_same (hx.same s) (P.ne hn)) .nil), P.same s, upd_same⟩
theorem accL {p : Addr} {n : Nat} {H : Hp} {acc xs : List V} (A : AnyAll p H acc) (P : Pot p n H) {a : Addr} (hn : H a = none) :
    ∃ H1, upd H a (.lst xs) = H1 ∧ Same H H1 ∧ AnyAll p H1 (acc ++ [.ref a]) ∧ Pot p n H1 ∧ H1 a = some (.lst xs) := by
  have s : Same H (upd H a (.lst xs)) := Same.new hn
  exact ⟨_, rfl, s, (A.same s).append (.cons (.lst upd_same (P.ne hn)) .nil), P.same s, upd_same⟩
theorem accD {p : Addr} {n : Nat} {H : Hp} {acc : List V} {xs : List (Key × V)} (A : AnyAll p H acc) (P : Pot p n H) {a : Addr} (hn : H a = none) :
    ∃ H1, upd H a (.dK xs) = H1 ∧ Same H H1 ∧ AnyAll p H1 (acc ++ [.ref a]) ∧ Pot p n H1 ∧ H1 a = some (.dK xs) := by
  have s : Same H (upd H a (.dK xs)) := Same.new hn
  exact ⟨_, rfl, s, (A.same s).append (.cons (.dct upd_same (P.ne hn)) .nil), P.same s, upd_same⟩
theorem pw {n : Int} (h0 : 0 ≤ n := by decide) (h1 : n ≤ 1000000 := by decide) : CPow 10 n := ⟨h0, h1, by decide⟩
end Pr
namespace Pr
open PySem PySem.Spec PyProof.Rows L2
section
variable {X : Cx}
theorem cutV_whole {xs : List V} {lo hi : Option Int} (h : HT.sIx xs.length 0 lo = 0 ∧ HT.sIx xs.length xs.length hi = xs.length) : cutV xs lo hi = xs := by
  unfold cutV
  rw [h.1, h.2, List.drop_zero, Nat.sub_zero]
  exact List.take_length
def rSlB : V → Option Int → Option Int → Hp → VK → Prop := fun x lo hi H Q => ∃ a xs, x = .ref a ∧ H a = some (.tup xs) ∧ ∀ t H', Same H H' → H' t = some (.tup (cutV xs lo hi)) → Q (.ref t) H'
theorem sl_tupB : SlR X rSlB := by
  intro pins s σ H x v vl vu lo hi sl Q I rx hs pl pu h
  obtain ⟨a, xs, rfl, e, q⟩ := h
  exact sl_tupA pins s σ H _ v vl vu lo hi sl Q I rx hs pl pu ⟨a, xs, rfl, .inl (.inl e), fun hw => q a H (.refl _) (by rw [cutV_whole hw]; exact e), fun _ t ht => q t _ (Same.new ht) upd_same⟩
def rCatB : R2 := fun x y H Q => ∃ a b xs ys, x = .ref a ∧ y = .ref b ∧ H a = some (.tup xs) ∧ H b = some (.tup ys) ∧ xs.length + ys.length ≤ sizeLine ∧ ∀ t H', Same H H' → H' t = some (.tup (xs ++ ys)) → Q (.ref t) H'
theorem op_catB : OpR X (binaryOp .Add) rCatB := by
  intro pins s σ H x y v u Q I rx ry h
  obtain ⟨a, b, xs, ys, rfl, rfl, ea, eb, hl, q⟩ := h
  refine op_catA pins s σ H _ _ v u Q I rx ry ⟨a, b, xs, ys, rfl, rfl, .inl (.inl ea), .inl (.inl eb), hl, fun h => ?_, fun _ h => ?_, fun _ _ t ht => q t _ (Same.new ht) upd_same⟩
  · subst h
    exact q b H (.refl _) eb
  · subst h
    exact q a H (.refl _) (by rw [List.append_nil]; exact ea)
end
theorem tupNe {p a : Addr} {n : Nat} {H : Hp} {xs : List V} (P : Pot p n H) (e : H a = some (.tup xs)) : a ≠ p := by
  obtain ⟨x, y, z, ep, _⟩ := P
  exact ne_of e ep (by intro z; cases z)
theorem AnyAll.cut {p : Addr} {H : Hp} {xs : List V} (h : AnyAll p H xs) (lo hi : Option Int) : AnyAll p H (cutV xs lo hi) := fun x hx => h x (mem_cutV hx)
theorem cutV_len (xs : List V) (lo hi : Option Int) : (cutV xs lo hi).length ≤ xs.length := cutV_length xs lo hi
def oneS (c : Nat) : Str := ⟨#[c]⟩
theorem dpAll_ones {K : PySem.W.Frag} {H : Hp} : ∀ cs : List Nat, DpAll K H (cs.map fun c => V.str (oneS c)) (cs.map fun c => PyData.str (oneS c))
  | [] => .nil
  | c :: r => .cons (.str _) (dpAll_ones r)
theorem canLay_ones : ∀ cs : List Nat, (∀ c ∈ cs, c < 0x110000) → PyData.canLayAll0 (cs.map fun c => PyData.str (oneS c)) = true
  | [], _ => rfl
  | c :: r, h => by
    rw [List.map_cons, PyData.canLayAll0, canLay_ones r fun d hd => h d (List.mem_cons_of_mem _ hd), Bool.and_true]
    show PyData.strOk (oneS c) = true
    exact strOk_iff.mpr fun d hd => by rw [List.mem_singleton.mp hd]; exact h c List.mem_cons_self
theorem depth_ones : ∀ cs : List Nat, PyData.depthAll (cs.map fun c => PyData.str (oneS c)) = 0
  | [] => rfl
  | c :: r => by
    rw [List.map_cons, PyData.depthAll, depth_ones r]
    rfl
theorem shaped_ones {cs : List Nat} (h : ∀ c ∈ cs, c < 0x110000) : SeqAt.shaped (.list (cs.map fun c => PyData.str (oneS c))) = true := by
  unfold SeqAt.shaped
  rw [PyData.canLay0, canLay_ones cs h, Bool.true_and, PyData.depth, depth_ones]
  rfl
theorem eqv_ones (cs : List Nat) : PyData.eqv (.list (cs.map fun c => PyData.str (oneS c))) (.list []) = cs.isEmpty := by
  cases cs with
  | nil => rfl
  | cons c r => rfl
theorem filter_empty (z : Str) : (z.cps.toList.filter fun c => !decide (c ∈ azS.cps.toList)).isEmpty = azAll z := by
  unfold azAll
  generalize z.cps.toList = l
  induction l with
  | nil => rfl
  | cons c r ih =>
    rw [List.filter_cons, List.all_cons, ← mem_az c]
    cases hc : decide (c ∈ azS.cps.toList)
    · rfl
    · rw [Bool.true_and]
      exact ih
theorem notEqv_str {x y : Str} : PyData.eqv (.str x) (.str y) = decide (x = y) := by
  rw [PyData.eqv]
  by_cases h : x = y
  · subst h; simp
  · rw [decide_eq_false h]; simpa using h
end Pr
namespace Ob
open PySem PySem.SeqAt
open PySem.AutoSeq1 (wpAny_loadPart')
open PySem.MeetsSeq PySem.MeetsSeq2 PySem.MeetsSeq3
/-- t < u, where only the first pair that differs need be one that can be compared -/
theorem tuple_ltFirst (l b : Addr) (us ws : Array Value) (n n2 : Nat) (dd dd2 : Option Addr) (sl sl2 : Array (Option Value)) (e r : Nat → Bool) :
    Meets (Builtin.«tuple.__lt__» ⟨[.ref l, .ref b], []⟩)
      (fun A R s => s.heap.get? l = some { cls := .type "tuple", dict := dd, data := .seq us n, slots := sl } ∧ s.heap.get? b = some { cls := .type "tuple", dict := dd2, data := .seq ws n2, slots := sl2 } ∧
        (∀ j (h1 : j < us.size) (h2 : j < ws.size), (∀ i, i < j → e i = true) → EqAt A.in1 s us[j] ws[j] (e j)) ∧
        (∀ j (h1 : j < us.size) (h2 : j < ws.size), (∀ i, i < j → e i = true) → e j = false → RcOp .Lt A.in1 s us[j] ws[j] (r j)) ∧
        R (.ok (.ret (.bool (lexAt e r (decide (us.size < ws.size)) 0 (min us.size ws.size))))) s) :=
  .of_wp fun prog w A R s h => by
    obtain ⟨hp, g, d, tk, os⟩ := s; obtain ⟨hl, hb, he, hr, h⟩ := h
    have f2 := AutoSeq1.sub_tuple_tuple
    have hZ : (us.toList.zip ws.toList).length = min us.size ws.size := by simp
    wp_walk using wpAny_loadPart' hl, wpAny_loadPart' hb, wpAny_forIn_list _ (fun rest b s' => b.1 = none ∧ s' = ⟨hp, g, d, tk, os⟩ ∧ ∃ i, (∀ k, k < i → e k = true) ∧ rest = (us.toList.zip ws.toList).drop i ∧
      R (.ok (.ret (.bool (lexAt e r (decide (us.size < ws.size)) i (min us.size ws.size - i))))) ⟨hp, g, d, tk, os⟩) _
    case turn =>
      rintro ⟨y, x⟩ rest b s' ⟨hb', rfl, i, hall, hz, hR⟩
      have hlt : i < (us.toList.zip ws.toList).length := by
        apply Nat.lt_of_not_le
        intro h'
        rw [List.drop_of_length_le h'] at hz
        cases hz
      have hm : i < min us.size ws.size := hZ ▸ hlt
      have h1 : i < us.size := by omega
      have h2 : i < ws.size := by omega
      rw [List.drop_eq_getElem_cons hlt] at hz
      injection hz with hyx hrest
      have hy : y = us[i] := by have := congrArg Prod.fst hyx; simpa using this
      have hx : x = ws[i] := by have := congrArg Prod.snd hyx; simpa using this
      subst hy hx
      have hs : min us.size ws.size - i = (min us.size ws.size - (i + 1)) + 1 := by omega
      rw [hs, lexAt_succ] at hR
      refine wpAny_bind (he i h1 h2 hall prog w _ _ ?_)
      cases hei : e i with
      | true =>
        rw [hei, if_pos rfl] at hR
        wp_walk
        exact ⟨rfl, rfl, i + 1, fun k hk => by
          rcases Nat.lt_or_eq_of_le (Nat.le_of_lt_succ hk) with h | h
          · exact hall k h
          · rw [h]; exact hei, hrest, hR⟩
      | false =>
        rw [hei, if_neg Bool.false_ne_true] at hR
        have hri := hr i h1 h2 hall hei prog w
        wp_walk using hri
        exact ⟨_, rfl, by simpa using hR⟩
    case fin =>
      rintro ⟨b1, b2⟩ s' ⟨hb', rfl, i, _, hz, hR⟩
      simp only at hb'
      subst hb'
      have hge : min us.size ws.size ≤ i := by
        apply Nat.le_of_not_lt
        intro h'
        rw [List.drop_eq_getElem_cons (hZ ▸ h')] at hz
        cases hz
      rw [Nat.sub_eq_zero_of_le hge, lexAt_zero] at hR
      wp_walk
      exact ⟨_, rfl, by simpa [Builtin.Tuple.tupleCompareSizes] using hR⟩
    case h =>
      exact ⟨rfl, rfl, 0, fun k hk => absurd hk (Nat.not_lt_zero _), rfl, by simpa using h⟩
theorem RcOp.tuples_ltF {A : Around} {s : Shared} {l b : Addr} {us ws : Array Value} {e r : Nat → Bool} (hl : s.heap.IsTuple l us) (hb : s.heap.IsTuple b ws) (hu : A.units < cLine)
    (he : ∀ j (h1 : j < us.size) (h2 : j < ws.size), (∀ i, i < j → e i = true) → EqAt A.in1 s us[j] ws[j] (e j))
    (hr : ∀ j (h1 : j < us.size) (h2 : j < ws.size), (∀ i, i < j → e i = true) → e j = false → RcOp .Lt A.in1 s us[j] ws[j] (r j)) :
    RcOp .Lt A s (.ref l) (.ref b) (lexAt e r (decide (us.size < ws.size)) 0 (min us.size ws.size)) := fun prog w E Q h => by
  obtain ⟨⟨cls, dd, data, sl⟩, ho, hc, n, hd⟩ := id hl
  obtain ⟨⟨cls2, dd2, data2, sl2⟩, ho2, hc2, n2, hd2⟩ := id hb
  simp only at hc hd hc2 hd2
  subst hc hd hc2 hd2
  exact richCompare_meets_room (op := .Lt) ⟨_, ho, rfl⟩ ⟨_, ho2, rfl⟩ F.slot_tuple_lt F.entry_tuple_lt (F.args_tuple_lt_2 _ _) (tuple_ltFirst l b us ws n n2 dd dd2 sl sl2 e r)
    ⟨ho, ho2, he, hr, ⟨(fun x => nomatch x), h⟩⟩ hu
end Ob
/-! Data compared. -/
namespace Bx
open PySem PySem.Spec PyProof.Rows L2
mutual
def eqD : D → D → Bool
  | .non, .non => true
  | .bl a, .bl b => a == b
  | .bl a, .int j => (if a = true then (1 : Int) else 0) == j
  | .int i, .bl b => i == (if b = true then (1 : Int) else 0)
  | .int i, .int j => i == j
  | .str x, .str y => x == y
  | .tup xs, .tup ys => eqL xs ys
  | .lst xs, .lst ys => eqL xs ys
  | _, _ => false
def eqL : List D → List D → Bool
  | [], [] => true
  | x :: xs, y :: ys => eqD x y && eqL xs ys
  | _, _ => false
end
mutual
/-- two that can be compared by == here: no two dicts meet, a dict meets texts alone -/
def eqok : D → D → Bool
  | .tup xs, .tup ys => eqokL xs ys
  | .lst xs, .lst ys => eqokL xs ys
  | .dct ks vs, .str _ => ks.length == vs.length
  | .str _, .dct ks vs => ks.length == vs.length
  | .dct _ _, _ => false
  | _, .dct _ _ => false
  | _, _ => true
def eqokL : List D → List D → Bool
  | x :: xs, y :: ys => eqok x y && eqokL xs ys
  | _, _ => true
end
mutual
def dep : D → Nat
  | .tup ds => deps ds + 1
  | .lst ds => deps ds + 1
  | .dct _ _ => 1
  | _ => 0
def deps : List D → Nat
  | [] => 0
  | d :: r => max (dep d) (deps r)
end
theorem deps_get : ∀ {ds : List D} {j : Nat} {d : D}, ds[j]? = some d → dep d ≤ deps ds
  | [], _, _, h => by simp at h
  | d :: r, 0, _, h => by
    obtain rfl : d = _ := by simpa using h
    rw [deps]; omega
  | d :: r, j + 1, _, h => by
    have := deps_get (ds := r) (j := j) (by simpa using h)
    rw [deps]; omega
theorem eqokL_get : ∀ {xs ys : List D} {j : Nat} {x y : D}, eqokL xs ys = true → xs[j]? = some x → ys[j]? = some y → eqok x y = true
  | [], _, _, _, _, _, h, _ => by simp at h
  | _ :: _, [], _, _, _, _, _, h => by simp at h
  | a :: xs, b :: ys, 0, x, y, ho, h1, h2 => by
    obtain rfl : a = x := by simpa using h1
    obtain rfl : b = y := by simpa using h2
    rw [eqokL, Bool.and_eq_true] at ho
    exact ho.1
  | a :: xs, b :: ys, j + 1, x, y, ho, h1, h2 => by
    rw [eqokL, Bool.and_eq_true] at ho
    exact eqokL_get ho.2 (by simpa using h1) (by simpa using h2)
theorem eqL_range : ∀ xs ys : List D, eqL xs ys = ((List.range (min xs.length ys.length)).all (fun j => eqD (xs.getD j .non) (ys.getD j .non)) && xs.length == ys.length)
  | [], [] => by rw [eqL]; rfl
  | [], _ :: _ => by
    rw [eqL]
    · simp
    all_goals (intros; simp_all)
  | _ :: _, [] => by
    rw [eqL]
    · simp
    all_goals (intros; simp_all)
  | x :: xs, y :: ys => by
    rw [eqL, eqL_range xs ys]
    have e : min (x :: xs).length (y :: ys).length = min xs.length ys.length + 1 := by rw [List.length_cons, List.length_cons]; omega
    rw [e, List.range_succ_eq_map, List.all_cons, List.all_map, Bool.and_assoc]
    congr 1
    congr 1
    rw [List.length_cons, List.length_cons]
    by_cases h : xs.length = ys.length
    · simp [h]
    · have h1 : (xs.length == ys.length) = false := by simp [h]
      have h2 : (xs.length + 1 == ys.length + 1) = false := by simp [h]
      rw [h1, h2]
section
variable {U : Un} {A : Ad} {H : Hp}
mutual
theorem Is.eq_same : ∀ (d : D) {v : V} {e : D}, Is U A H v d → Is U A H v e → eqok d e = true → eqD d e = true
  | .non, v, e, h1, h2, _ => by cases h1; cases h2; rw [eqD]
  | .bl b, v, e, h1, h2, _ => by cases h1; cases h2; rw [eqD]; exact beq_self_eq_true b
  | .int b, v, e, h1, h2, _ => by cases h1; cases h2; rw [eqD]; exact beq_self_eq_true b
  | .str b, v, e, h1, h2, _ => by cases h1; cases h2; rw [eqD]; exact beq_self_eq_true b
  | .tup ds, v, e, h1, h2, ho => by
    cases h1 with
    | tup e1 h1 p1 =>
      cases h2 with
      | tup e2 h2 p2 =>
        rw [e1] at e2; cases e2
        rw [eqD]
        rw [eqok] at ho
        exact IsAll.eq_same ds h1 h2 ho
      | lst e2 h2 p2 => rcases e2 with e2 | ⟨o, e2⟩ <;> rw [e1] at e2 <;> cases e2
      | dct e2 => cases e2 with
        | k kvs e2 => rw [e1] at e2; cases e2
        | n es e2 => rw [e1] at e2; cases e2
      | err e2 => rw [e1] at e2; cases e2
  | .lst ds, v, e, h1, h2, ho => by
    cases h1 with
    | lst e1 h1 p1 =>
      cases h2 with
      | tup e2 h2 p2 => rcases e1 with e1 | ⟨o, e1⟩ <;> rw [e2] at e1 <;> cases e1
      | lst e2 h2 p2 =>
        rw [eqD]
        rw [eqok] at ho
        rcases e1 with e1 | ⟨o, e1⟩ <;> rcases e2 with e2 | ⟨o2, e2⟩ <;> rw [e1] at e2 <;> cases e2
        · exact IsAll.eq_same ds h1 h2 ho
        · exact IsAll.eq_same ds h1 h2 ho
      | dct e2 => cases e2 with
        | k kvs e2 => rcases e1 with e1 | ⟨o, e1⟩ <;> rw [e1] at e2 <;> cases e2
        | n es e2 => rcases e1 with e1 | ⟨o, e1⟩ <;> rw [e1] at e2 <;> cases e2
      | err e2 => rcases e1 with e1 | ⟨o, e1⟩ <;> rw [e1] at e2 <;> cases e2
  | .dct ks vs, v, e, h1, h2, ho => by
    cases h1 with
    | err e1 => cases h2 <;> (rw [eqok] at ho <;> first | cases ho | nofun)
    | dct e1 =>
      cases h2 with
      | dct e2 => rw [eqok] at ho <;> first | cases ho | nofun
      | err e2 => rw [eqok] at ho <;> first | cases ho | nofun
      | tup e2 => rw [eqok] at ho <;> first | cases ho | nofun
      | lst e2 => rw [eqok] at ho <;> first | cases ho | nofun
theorem IsAll.eq_same : ∀ (ds : List D) {vs : List V} {es : List D}, IsAll U A H vs ds → IsAll U A H vs es → eqokL ds es = true → eqL ds es = true
  | [], vs, es, h1, h2, _ => by cases h1; cases h2; rw [eqL]
  | d :: ds, vs, es, h1, h2, ho => by
    cases h1 with
    | cons h1 t1 =>
      cases h2 with
      | cons h2 t2 =>
        rw [eqokL, Bool.and_eq_true] at ho
        rw [eqL, Is.eq_same d h1 h2 ho.1, IsAll.eq_same ds t1 t2 ho.2]
        rfl
end
end
theorem vals_at {U : Un} {A : Ad} {H : Hp} {xs : List V} {us : List Value} {ds : List D} (r : Vals xs us) (h : IsAll U A H xs ds) {j : Nat} (hj : j < us.length) : ∃ x d, RelV x us[j] ∧ Is U A H x d ∧ ds[j]? = some d := by
  have h1 : j < xs.length := by rw [r.length]; exact hj
  obtain ⟨u, hu, ru⟩ := r.get (List.getElem?_eq_getElem h1)
  obtain ⟨d, hd, id⟩ := h.getV (List.getElem?_eq_getElem h1)
  rw [List.getElem?_eq_getElem hj] at hu
  cases hu
  exact ⟨_, d, ru, id, hd⟩
section
variable {X : Cx} {pins : List (Addr × Obj)} {σ : L2.St} {H : Hp} {s : Shared}
theorem isDct {U : Un} (hP : U.P = X.prog) (hw : U.w = X.w) {a : Addr} {kv : List V} {ks : List D} {xs : List V} (I : Inv X pins σ H s) (e : DictAt U H a kv ks xs) : PySem.SeqAt.IsDct s.heap a := by
  cases e with
  | k kvs e =>
    obtain ⟨_, _, vs, _, o, es, ep, h1, h2, h3, _⟩ := (show ObjOk X.prog X.w H s.heap a (.dK kvs) from I.hok a _ e)
    exact ⟨o, es, ep, h1, h2.1, h3⟩
  | n es e =>
    have q : ObjOk X.prog X.w H s.heap a (NDo U.P U.w a es) := I.hok a _ e
    obtain ⟨⟨_, _, xs, r, o, ds, ep, h1, h2, h3, h4, h5⟩, _, _⟩ := q
    exact ⟨o, ds, ep, h1, h2.1, h3⟩
set_option maxHeartbeats 4000000
mutual
theorem eqAtD {U : Un} (hP : U.P = X.prog) (hw : U.w = X.w) (I : Inv X pins σ H s) {A : Ad} {B : Ad} : ∀ (d : D) {e : D} {x y : V} {u v : Value} {Ar : Around}, RelV x u → RelV y v → Is U A H x d → Is U A H y e → eqok d e = true → Ar.units + dep d < cLine → SeqAt.EqAt Ar s u v (eqD d e)
  | .non, e, x, y, u, v, Ar, rx, ry, hx, hy, ho, hu => by
    cases hx; cases rx
    cases hy with
    | non => cases ry; rw [eqD]; exact SeqAt.EqAt.same _
    | bl b => cases ry; rw [eqD] <;> first | exact SeqAt.EqAt.none_bool b | nofun
    | int i => obtain ⟨t, rfl⟩ := ry; rw [eqD] <;> first | exact SeqAt.EqAt.none_int i t | nofun
    | str z hz => obtain ⟨t, rfl⟩ := ry; rw [eqD] <;> first | exact SeqAt.EqAt.none_str z t | nofun
    | tup e h hp => cases ry; obtain ⟨its, r, pl, hz⟩ := I.tuple (SqT.of e); rw [eqD] <;> first | exact SeqAt.EqAt.none_tuple pl (by omega) | nofun
    | lst e h hp => cases ry; obtain ⟨its, r, pl, hz⟩ := I.list (.inl e); rw [eqD] <;> first | exact SeqAt.EqAt.none_list pl.isList (by omega) | nofun
    | dct e => rw [eqok] at ho <;> first | cases ho | nofun
    | err e ed => rw [eqok] at ho <;> first | cases ho | nofun
  | .bl b, e, x, y, u, v, Ar, rx, ry, hx, hy, ho, hu => by
    cases hx; cases rx
    cases hy with
    | non => cases ry; rw [eqD] <;> first | exact SeqAt.EqAt.bool_none b | nofun
    | bl c => cases ry; rw [eqD]; exact SeqAt.EqAt.bool_bool b c
    | int i => obtain ⟨t, rfl⟩ := ry; rw [eqD]; exact SeqAt.EqAt.bool_int b i t
    | str z hz => obtain ⟨t, rfl⟩ := ry; rw [eqD] <;> first | exact SeqAt.EqAt.bool_str b z t | nofun
    | tup e h hp => cases ry; obtain ⟨its, r, pl, hz⟩ := I.tuple (SqT.of e); rw [eqD] <;> first | exact SeqAt.EqAt.bool_tuple b pl (by omega) | nofun
    | lst e h hp => cases ry; obtain ⟨its, r, pl, hz⟩ := I.list (.inl e); rw [eqD] <;> first | exact SeqAt.EqAt.bool_list b pl.isList (by omega) | nofun
    | dct e => rw [eqok] at ho <;> first | cases ho | nofun
    | err e ed => rw [eqok] at ho <;> first | cases ho | nofun
  | .int b, e, x, y, u, v, Ar, rx, ry, hx, hy, ho, hu => by
    cases hx; obtain ⟨t0, rfl⟩ := rx
    cases hy with
    | non => cases ry; rw [eqD] <;> first | exact SeqAt.EqAt.int_none b t0 | nofun
    | bl c => cases ry; rw [eqD]; exact SeqAt.EqAt.int_bool b t0 c
    | int i => obtain ⟨t, rfl⟩ := ry; rw [eqD]; exact SeqAt.EqAt.int_int b t0 i t
    | str z hz => obtain ⟨t, rfl⟩ := ry; rw [eqD] <;> first | exact SeqAt.EqAt.int_str b t0 z t | nofun
    | tup e h hp => cases ry; obtain ⟨its, r, pl, hz⟩ := I.tuple (SqT.of e); rw [eqD] <;> first | exact SeqAt.EqAt.int_tuple b t0 pl (by omega) | nofun
    | lst e h hp => cases ry; obtain ⟨its, r, pl, hz⟩ := I.list (.inl e); rw [eqD] <;> first | exact SeqAt.EqAt.int_list b t0 pl.isList (by omega) | nofun
    | dct e => rw [eqok] at ho <;> first | cases ho | nofun
    | err e ed => rw [eqok] at ho <;> first | cases ho | nofun
  | .str b, e, x, y, u, v, Ar, rx, ry, hx, hy, ho, hu => by
    cases hx; obtain ⟨t0, rfl⟩ := rx
    cases hy with
    | non => cases ry; rw [eqD] <;> first | exact SeqAt.EqAt.str_none b t0 | nofun
    | bl c => cases ry; rw [eqD] <;> first | exact SeqAt.EqAt.str_bool b t0 c | nofun
    | int i => obtain ⟨t, rfl⟩ := ry; rw [eqD] <;> first | exact SeqAt.EqAt.str_int b t0 i t | nofun
    | str z hz => obtain ⟨t, rfl⟩ := ry; rw [eqD]; exact SeqAt.EqAt.str_str b t0 z t
    | tup e h hp => cases ry; obtain ⟨its, r, pl, hz⟩ := I.tuple (SqT.of e); rw [eqD] <;> first | exact SeqAt.EqAt.str_tuple b t0 pl (by omega) | nofun
    | lst e h hp => cases ry; obtain ⟨its, r, pl, hz⟩ := I.list (.inl e); rw [eqD] <;> first | exact SeqAt.EqAt.str_list b t0 pl.isList (by omega) | nofun
    | err e ed => rw [eqok] at ho; simp at ho
    | dct e hk h hp => cases ry; rw [eqD] <;> first | exact SeqAt.EqAt.str_dictX b t0 (isDct hP hw I e) (by omega) | nofun
  | .tup ds, e, x, y, u, v, Ar, rx, ry, hx, hy, ho, hu => by
    cases hx with
    | tup e1 h1 p1 =>
    cases rx
    obtain ⟨its, r, pl, hz⟩ := I.tuple (SqT.of e1)
    rw [dep] at hu
    cases hy with
    | non => cases ry; rw [eqD] <;> first | exact SeqAt.EqAt.tuple_none pl (by omega) | nofun
    | bl c => cases ry; rw [eqD] <;> first | exact SeqAt.EqAt.tuple_bool c pl (by omega) | nofun
    | int i => obtain ⟨t, rfl⟩ := ry; rw [eqD] <;> first | exact SeqAt.EqAt.tuple_int i t pl (by omega) | nofun
    | str z hz => obtain ⟨t, rfl⟩ := ry; rw [eqD] <;> first | exact SeqAt.EqAt.tuple_str z t pl (by omega) | nofun
    | @tup b ys es e2 h2 p2 =>
      cases ry
      obtain ⟨its2, r2, pl2, hz2⟩ := I.tuple (SqT.of e2)
      rename_i a xs
      by_cases hab : a = b
      · subst hab
        rw [Is.eq_same (.tup ds) (.tup e1 h1 p1) (.tup e2 h2 p2) ho]
        exact SeqAt.EqAt.same _
      · rw [eqok] at ho
        rw [eqD, eqL_range]
        have k1 : ds.length = its.toArray.size := by rw [List.size_toArray, ← r.length, h1.length]
        have k2 : es.length = its2.toArray.size := by rw [List.size_toArray, ← r2.length, h2.length]
        rw [k1, k2]
        refine .of_refs hab (SeqAt.RcAt.tuples pl pl2 (by omega) fun j j1 j2 => ?_)
        obtain ⟨x1, d1, rx1, ix1, g1⟩ := vals_at r h1 (j := j) (by simpa using j1)
        obtain ⟨x2, d2, rx2, ix2, g2⟩ := vals_at r2 h2 (j := j) (by simpa using j2)
        rw [List.getD_eq_getElem?_getD, List.getD_eq_getElem?_getD, g1, g2]
        have hdp := deps_get g1
        show SeqAt.EqAt Ar.in1 s _ _ (eqD d1 d2)
        exact eqAtAll hP hw I ds (B := B) g1 (by simpa using rx1) (by simpa using rx2) ix1 ix2 (eqokL_get ho g1 g2) (by show Ar.units + 1 + _ < _; omega)
    | lst e h hp => cases ry; obtain ⟨its2, r2, pl2, hz2⟩ := I.list (.inl e); rw [eqD] <;> first | exact SeqAt.EqAt.tuple_list pl pl2.isList (by omega) | nofun
    | dct e => rw [eqok] at ho <;> first | cases ho | nofun
    | err e ed => rw [eqok] at ho <;> first | cases ho | nofun
  | .lst ds, e, x, y, u, v, Ar, rx, ry, hx, hy, ho, hu => by
    cases hx with
    | lst e1 h1 p1 =>
    cases rx
    obtain ⟨its, r, pl, hz⟩ := I.list (.inl e1)
    rw [dep] at hu
    cases hy with
    | non => cases ry; rw [eqD] <;> first | exact SeqAt.EqAt.list_none pl.isList (by omega) | nofun
    | bl c => cases ry; rw [eqD] <;> first | exact SeqAt.EqAt.list_bool c pl.isList (by omega) | nofun
    | int i => obtain ⟨t, rfl⟩ := ry; rw [eqD] <;> first | exact SeqAt.EqAt.list_int i t pl.isList (by omega) | nofun
    | str z hz => obtain ⟨t, rfl⟩ := ry; rw [eqD] <;> first | exact SeqAt.EqAt.list_str z t pl.isList (by omega) | nofun
    | tup e h hp => cases ry; obtain ⟨its2, r2, pl2, hz2⟩ := I.tuple (SqT.of e); rw [eqD] <;> first | exact SeqAt.EqAt.list_tuple pl.isList pl2 (by omega) | nofun
    | @lst b ys es e2 h2 p2 =>
      cases ry
      obtain ⟨its2, r2, pl2, hz2⟩ := I.list (.inl e2)
      rename_i a xs
      by_cases hab : a = b
      · subst hab
        rw [Is.eq_same (.lst ds) (.lst e1 h1 p1) (.lst e2 h2 p2) ho]
        exact SeqAt.EqAt.same _
      · rw [eqok] at ho
        rw [eqD, eqL_range]
        have k1 : ds.length = its.toArray.size := by rw [List.size_toArray, ← r.length, h1.length]
        have k2 : es.length = its2.toArray.size := by rw [List.size_toArray, ← r2.length, h2.length]
        rw [k1, k2]
        by_cases hsz : its.toArray.size = its2.toArray.size
        · rw [hsz, Nat.min_self, beq_self_eq_true, Bool.and_true, ← hsz]
          refine .of_refs hab (SeqAt.RcAt.lists pl.isList pl2.isList hsz (by omega) fun j j1 j2 => ?_)
          obtain ⟨x1, d1, rx1, ix1, g1⟩ := vals_at r h1 (j := j) (by simpa using j1)
          obtain ⟨x2, d2, rx2, ix2, g2⟩ := vals_at r2 h2 (j := j) (by simpa using j2)
          rw [List.getD_eq_getElem?_getD, List.getD_eq_getElem?_getD, g1, g2]
          have hdp := deps_get g1
          show SeqAt.EqAt Ar.in1 s _ _ (eqD d1 d2)
          exact eqAtAll hP hw I ds (B := B) g1 (by simpa using rx1) (by simpa using rx2) ix1 ix2 (eqokL_get ho g1 g2) (by show Ar.units + 1 + _ < _; omega)
        · have hs : (its.toArray.size == its2.toArray.size) = false := by simpa using hsz
          rw [hs, Bool.and_false]
          exact .of_refs hab (SeqAt.RcAt.lists_lengths pl.isList pl2.isList (by simpa using hsz) (by omega))
    | dct e => rw [eqok] at ho <;> first | cases ho | nofun
    | err e ed => rw [eqok] at ho <;> first | cases ho | nofun
  | .dct ks vs, e, x, y, u, v, Ar, rx, ry, hx, hy, ho, hu => by
    cases hx with
    | err e1 => cases hy <;> (first | (rw [eqok] at ho; (first | cases ho | simp at ho); done) | (rw [eqok] at ho <;> first | cases ho | nofun))
    | dct e1 =>
    cases rx
    cases hy with
    | str z hz =>
      obtain ⟨t, rfl⟩ := ry
      rw [show eqD (.dct ks vs) (.str z) = false by rw [eqD] <;> nofun]
      exact (fun prog w E Q h => by
        unfold eqBool
        refine wpAny_holding ?_
        refine wpAny_ite_split (fun hab => absurd (eq_of_beq hab) nofun) (fun _ => ?_)
        exact wpAny_bind (SeqAt.RcAt.dict_strX z t (isDct hP hw I e1) (by omega) prog w E _ (wpAny_truthy_bool h)))
    | non => rw [eqok] at ho <;> first | cases ho | nofun
    | bl c => rw [eqok] at ho <;> first | cases ho | nofun
    | int i => rw [eqok] at ho <;> first | cases ho | nofun
    | tup e h hp => rw [eqok] at ho <;> first | cases ho | nofun
    | lst e h hp => rw [eqok] at ho <;> first | cases ho | nofun
    | dct e => rw [eqok] at ho <;> first | cases ho | nofun
    | err e ed => rw [eqok] at ho <;> first | cases ho | nofun
theorem eqAtAll {U : Un} (hP : U.P = X.prog) (hw : U.w = X.w) (I : Inv X pins σ H s) {A : Ad} {B : Ad} : ∀ (ds : List D) {j : Nat} {d e : D} {x y : V} {u v : Value} {Ar : Around}, ds[j]? = some d → RelV x u → RelV y v → Is U A H x d → Is U A H y e → eqok d e = true → Ar.units + dep d < cLine → SeqAt.EqAt Ar s u v (eqD d e)
  | [], j, d, e, x, y, u, v, Ar, g, _, _, _, _, _, _ => by simp at g
  | d0 :: ds, 0, d, e, x, y, u, v, Ar, g, rx, ry, hx, hy, ho, hu => by
    obtain rfl : d0 = d := by simpa using g
    exact eqAtD hP hw I (B := B) d0 rx ry hx hy ho hu
  | d0 :: ds, j + 1, d, e, x, y, u, v, Ar, g, rx, ry, hx, hy, ho, hu => eqAtAll hP hw I ds (B := B) (j := j) (by simpa using g) rx ry hx hy ho hu
end
end
end Bx
/-! Expressions as data: names, constants, operations, tests, displays. -/
namespace Bx
open PySem PySem.Spec PyProof.Rows L2
theorem smallL {n : Nat} (h : n ≤ maxL) : n ≤ sizeLine := Nat.le_trans h (by decide)
theorem smallLt {n : Nat} (h : n ≤ maxL) : n < sizeLine := Nat.lt_of_le_of_lt h (by decide)
def mVar (i : Nat) : M D := fun ρ => match ρ[i]? with
  | some (some d) => some (.ok d ρ)
  | _ => none
def mC (d : D) : M D := fun ρ => some (.ok d ρ)
def mFail {α : Type} : M α := fun _ => none
def mBin (f : D → D → Option D) (a b : M D) : M D := M.bind a fun x => M.bind b fun y => M.opt (f x y)
def mUn (f : D → Option D) (a : M D) : M D := M.bind a fun x => M.opt (f x)
def mChain (f g : D → D → Option D) (a b c : M D) : M D := M.bind a fun x => M.bind b fun y => M.bind (M.opt (f x y)) fun z => match z with
  | .bl true => M.bind c fun v => M.opt (g y v)
  | .bl false => M.pure (.bl false)
  | _ => mFail
def mB (m : M D) : M Bool := M.bind m fun d => match d with
  | .bl b => M.pure b
  | _ => mFail
def mAnd (a b : M Bool) : M Bool := M.bind a fun c => if c = true then b else M.pure false
def mOr (a b : M Bool) : M Bool := M.bind a fun c => if c = true then M.pure true else b
def mNot (a : M Bool) : M Bool := M.bind a fun c => M.pure (!c)
def mAndV (a b : M D) : M D := M.bind a fun d => match d with
  | .bl true => b
  | .bl false => M.pure (.bl false)
  | _ => mFail
def mOrV (a b : M D) : M D := M.bind a fun d => match d with
  | .bl true => M.pure (.bl true)
  | .bl false => b
  | _ => mFail
def mNotV (a : M D) : M D := M.bind a fun d => match d with
  | .bl c => M.pure (.bl (!c))
  | _ => mFail
def mIf {α : Type} (c : M Bool) (a b : M α) : M α := M.bind c fun t => if t = true then a else b
def mCons (a : M D) (r : M (List D)) : M (List D) := M.bind a fun d => M.bind r fun ds => M.pure (d :: ds)
def mNil : M (List D) := M.pure []
def mTup (r : M (List D)) : M D := M.bind r fun ds => if ds.length ≤ maxL then M.pure (.tup ds) else mFail
def mLst (r : M (List D)) : M D := M.bind r fun ds => if ds.length ≤ maxL then M.pure (.lst ds) else mFail
def mFn (f : List D → Option D) (r : M (List D)) : M D := M.bind r fun ds => M.opt (f ds)
theorem bind_opt_ok {α β : Type} {x : Option α} {f : α → M β} {ρ : Env} {r : Rs β} (h : M.bind (M.opt x) f ρ = some r) : ∃ a, x = some a ∧ f a ρ = some r := by
  cases x with
  | none => cases h
  | some a => exact ⟨a, rfl, h⟩
theorem opt_ok {α : Type} {x : Option α} {ρ : Env} {r : Rs α} (h : M.opt x ρ = some r) : ∃ a, x = some a ∧ r = .ok a ρ := by
  cases x with
  | none => cases h
  | some a => cases h; exact ⟨a, rfl, rfl⟩
section
variable {X : Cx} {U : Un} {C : Cz U} {a b c : Expr} {ma mb mc : M D} {ta tb tc : TE} {pos : Pos}
abbrev Al (A : Ad) (H : Hp) : Prop := ∀ a, A a → H a ≠ none
/-- operations by data -/
def rD2 (U : Un) (f : D → D → Option D) : R2 := fun x y H Q => ∃ A dx dy d, Al A H ∧ Is U A H x dx ∧ Is U A H y dy ∧ f dx dy = some d ∧ ∀ v H', Same H H' → Is U A H' v d → Q v H'
def rD1 (U : Un) (f : D → Option D) : V → Hp → VK → Prop := fun x H Q => ∃ A dx d, Al A H ∧ Is U A H x dx ∧ f dx = some d ∧ ∀ v H', Same H H' → Is U A H' v d → Q v H'
def rDN (U : Un) (f : List D → Option D) : List V → Hp → VK → Prop := fun xs H Q => ∃ A ds d, Al A H ∧ IsAll U A H xs ds ∧ f ds = some d ∧ ∀ v H', Same H H' → Is U A H' v d → Q v H'
def rDM (U : Un) (f : D → List D → Option D) : V → List V → Hp → VK → Prop := fun x xs H Q => ∃ A dx ds d, Al A H ∧ Is U A H x dx ∧ IsAll U A H xs ds ∧ f dx ds = some d ∧ ∀ v H', Same H H' → Is U A H' v d → Q v H'
theorem de_var {i : Nat} {x : Str} (hN : X.N[i]? = some x := by rfl) (hv : Vis X.env.scope x := by first | exact Or.inl rfl | exact Or.inr (Or.inl rfl) | exact Or.inr (Or.inr rfl)) (n : i ∉ C.own := by exact of_decide_eq_false rfl) (hd : (x == ("__debug__" : Str)) = false := by decide)
    (hcd : (x == ("__classdict__" : Str)) = false := by decide) : DE X C (.Name x pos) (tVar i) (mVar i) := by
  refine ⟨pe_var hN hv hd hcd, fun σ H ρ r Q O e p => ?_⟩
  unfold mVar at e
  split at e
  · rename_i d hd
    cases e
    obtain ⟨v, h1, h2⟩ := O.var hd n
    exact ⟨v, h1, p v H O Ext.refl h2⟩
  · cases e
theorem de_c {v : V} {d : D} {e : Expr} (h : PE X e (tC v)) (hi : ∀ A H, Is U A H v d) : DE X C e (tC v) (mC d) := by
  refine ⟨h, fun σ H ρ r Q O e p => ?_⟩
  cases e
  exact p v H O Ext.refl (hi _ _)
theorem de_int {i j} : DE X C (.Constant (.int i) j pos) (tC (.int i)) (mC (.int i)) := de_c pe_int fun _ _ => .int i
theorem de_bl {i j} : DE X C (.Constant (.bool i) j pos) (tC (.bl i)) (mC (.bl i)) := de_c pe_bl fun _ _ => .bl i
theorem de_non {j} : DE X C (.Constant .none j pos) (tC .non) (mC .non) := de_c pe_non fun _ _ => .non
theorem de_str {z : Str} {j} (h : okS z := by decide +kernel) : DE X C (.Constant (.str z) j pos) (tC (.str z)) (mC (.str z)) := de_c pe_str fun _ _ => .str z h
theorem de_globI {x : Str} {i : Int} {u : Value} (hg : Gl X x) (hm : X.mg x = some u) (r : RelV (.int i) u) (hd : (x == ("__debug__" : Str)) = false := by decide) : DE X C (.Name x pos) (tC (.int i)) (mC (.int i)) := de_c (pe_glob hg hm r hd) fun _ _ => .int i
theorem de_op {op : Operator} {f : D → D → Option D} (ho : OpR X (binaryOp op) (rD2 U f)) (ha : DE X C a ta ma) (hb : DE X C b tb mb) : DE X C (.BinOp a op b pos) (tOp (rD2 U f) ta tb) (mBin f ma mb) := by
  obtain ⟨pa, ra⟩ := ha
  obtain ⟨pb, rb⟩ := hb
  refine ⟨pe_op ho pa pb, fun σ H ρ r Q O e p => ?_⟩
  refine ra.then O e p.ex fun d ρ1 v H1 O1 x1 i1 e1 => ?_
  refine rb.then O1 e1 (p.later x1).ex fun d2 ρ2 v2 H2 O2 x2 i2 e2 => ?_
  obtain ⟨z, hz, rfl⟩ := opt_ok e2
  exact ⟨Av C σ, d, d2, z, O2.al, i1.ext x2, i2, hz, fun w H3 s3 i3 => p w H3 (O2.same s3) ((x1.trans x2).trans (Ext.same s3)) i3⟩
theorem de_un {op : UnaryOp} {f : D → Option D} (ho : UnR X (unaryOp op) (rD1 U f)) (ha : DE X C a ta ma) : DE X C (.UnaryOp op a pos) (tUn (rD1 U f) ta) (mUn f ma) := by
  obtain ⟨pa, ra⟩ := ha
  refine ⟨pe_un ho pa, fun σ H ρ r Q O e p => ?_⟩
  refine ra.then O e p.ex fun d ρ1 v H1 O1 x1 i1 e1 => ?_
  obtain ⟨z, hz, rfl⟩ := opt_ok e1
  exact ⟨Av C σ, d, z, O1.al, i1, hz, fun w H3 s3 i3 => p w H3 (O1.same s3) (x1.trans (Ext.same s3)) i3⟩
theorem de_cmp {op : CmpOp} {f : D → D → Option D} (ho : OpR X (compareOp op) (rD2 U f)) (ha : DE X C a ta ma) (hb : DE X C b tb mb) (hm : behindInMarks op b = false) : DE X C (.Compare a [op] [b] pos) (tOp (rD2 U f) ta tb) (mBin f ma mb) := by
  obtain ⟨pa, ra⟩ := ha
  obtain ⟨pb, rb⟩ := hb
  refine ⟨pe_cmpR ho pa pb hm, fun σ H ρ r Q O e p => ?_⟩
  refine ra.then O e p.ex fun d ρ1 v H1 O1 x1 i1 e1 => ?_
  refine rb.then O1 e1 (p.later x1).ex fun d2 ρ2 v2 H2 O2 x2 i2 e2 => ?_
  obtain ⟨z, hz, rfl⟩ := opt_ok e2
  exact ⟨Av C σ, d, d2, z, O2.al, i1.ext x2, i2, hz, fun w H3 s3 i3 => p w H3 (O2.same s3) ((x1.trans x2).trans (Ext.same s3)) i3⟩
theorem mB_ok {m : M D} {ρ : Env} {r : Rs Bool} (e : mB m ρ = some r) : (∃ b ρ', m ρ = some (.ok (.bl b) ρ') ∧ r = .ok b ρ') ∨ ∃ c x ρ', m ρ = some (.ex c x ρ') ∧ r = .ex c x ρ' := by
  unfold mB at e
  cases hm : m ρ with
  | none => rw [bind_none hm] at e; cases e
  | some q =>
    cases q with
    | ok d ρ' =>
      rw [bind_ok hm] at e
      cases d <;> first | (cases e; exact .inl ⟨_, _, rfl, rfl⟩) | cases e
    | ex c x ρ' =>
      rw [bind_ex hm] at e
      cases e
      exact .inr ⟨c, x, ρ', rfl, rfl⟩
/-- a reading as a test -/
theorem DEr.test {t : TE} {m : M D} (h : DEr C t m) : DTr C (tTest t) (mB m) := by
  intro σ H ρ r Q O e p
  rcases mB_ok e with ⟨b, ρ', hm, rfl⟩ | ⟨c, x, ρ', hm, rfl⟩
  · refine h σ H ρ _ _ O hm fun v H' O' x i => ?_
    rw [i.bl_inv]
    exact ⟨b, rfl, p H' O' x⟩
  · exact h σ H ρ _ _ O hm p
theorem DEr.testB {t : TE} {m : M D} (h : DEr C t m) : DTr C (tB t) (mB m) := by
  intro σ H ρ r Q O e p
  rcases mB_ok e with ⟨b, ρ', hm, rfl⟩ | ⟨c, x, ρ', hm, rfl⟩
  · refine h σ H ρ _ _ O hm fun v H' O' x i => ?_
    rw [i.bl_inv]
    exact ⟨b, rfl, p H' O' x⟩
  · exact h σ H ρ _ _ O hm p
theorem dt_cmp {op : CmpOp} {f : D → D → Option D} (ho : OpR X (compareOp op) (rD2 U f)) (ha : DE X C a ta ma) (hb : DE X C b tb mb) (hm : behindInMarks op b = false) : DT X C (.Compare a [op] [b] pos) (tTest (tOp (rD2 U f) ta tb)) (mB (mBin f ma mb)) := by
  obtain ⟨pa, ra⟩ := ha
  obtain ⟨pb, rb⟩ := hb
  refine ⟨pt_cmpR ho pa pb hm, DEr.test fun σ H ρ r Q O e p => ?_⟩
  refine ra.then O e p.ex fun d ρ1 v H1 O1 x1 i1 e1 => ?_
  refine rb.then O1 e1 (p.later x1).ex fun d2 ρ2 v2 H2 O2 x2 i2 e2 => ?_
  obtain ⟨z, hz, rfl⟩ := opt_ok e2
  exact ⟨Av C σ, d, d2, z, O2.al, i1.ext x2, i2, hz, fun w H3 s3 i3 => p w H3 (O2.same s3) ((x1.trans x2).trans (Ext.same s3)) i3⟩
theorem der_chain {r r' : R2} {f g : D → D → Option D} {ta tb tc : TE} (hr : r = rD2 U f) (hr' : r' = rD2 U g) (ra : DEr C ta ma) (rb : DEr C tb mb) (rc : DEr C tc mc) : DEr C (tChain r r' ta tb tc) (mChain f g ma mb mc) := by
  subst hr hr'
  intro σ H ρ r Q O e p
  refine ra.then O e p.ex fun d ρ1 v H1 O1 x1 i1 e1 => ?_
  refine rb.then O1 e1 (p.later x1).ex fun d2 ρ2 v2 H2 O2 x2 i2 e2 => ?_
  obtain ⟨z, hz, e3⟩ := bind_opt_ok e2
  refine ⟨Av C σ, d, d2, z, O2.al, i1.ext x2, i2, hz, fun w H3 s3 i3 => ?_⟩
  have O3 := O2.same s3
  have x3 := (x1.trans x2).trans (Ext.same s3)
  cases z with
  | bl k =>
    refine ⟨k, i3.bl_inv, ?_⟩
    cases k with
    | false =>
      rw [if_neg (by decide)]
      cases e3
      exact p _ H3 O3 x3 (.bl false)
    | true =>
      rw [if_pos rfl]
      refine rc.then O3 e3 (p.later x3).ex fun d4 ρ4 v4 H4 O4 x4 i4 e4 => ?_
      obtain ⟨z2, hz2, rfl⟩ := opt_ok e4
      exact ⟨Av C σ, d2, d4, z2, O4.al, (i2.same s3).ext x4, i4, hz2, fun w H5 s5 i5 => p w H5 (O4.same s5) ((x3.trans x4).trans (Ext.same s5)) i5⟩
  | _ => cases e3
theorem de_chain {op op' : CmpOp} {f g : D → D → Option D} (ho : OpR X (compareOp op) (rD2 U f)) (ho' : OpR X (compareOp op') (rD2 U g)) (ha : DE X C a ta ma) (hb : DE X C b tb mb) (hc : DE X C c tc mc)
    (hm : lastMarks [op, op'] [b, c] = false := by with_unfolding_all rfl) : DE X C (.Compare a [op, op'] [b, c] pos) (tChain (rD2 U f) (rD2 U g) ta tb tc) (mChain f g ma mb mc) := by
  obtain ⟨pa, ra⟩ := ha
  obtain ⟨pb, rb⟩ := hb
  obtain ⟨pc, rc⟩ := hc
  exact ⟨pe_chain ho ho' pa pb pc hm, der_chain rfl rfl ra rb rc⟩
theorem dt_chain {op op' : CmpOp} {f g : D → D → Option D} (ho : OpR X (compareOp op) (rD2 U f)) (ho' : OpR X (compareOp op') (rD2 U g)) (ha : DE X C a ta ma) (hb : DE X C b tb mb) (hc : DE X C c tc mc)
    (hm : lastMarks [op, op'] [b, c] = false := by with_unfolding_all rfl) : DT X C (.Compare a [op, op'] [b, c] pos) (tTest (tChain (rD2 U f) (rD2 U g) ta tb tc)) (mB (mChain f g ma mb mc)) := by
  obtain ⟨pa, ra⟩ := ha
  obtain ⟨pb, rb⟩ := hb
  obtain ⟨pc, rc⟩ := hc
  exact ⟨pt_chain ho ho' pa pb pc hm, (der_chain rfl rfl ra rb rc).test⟩
theorem dt_val {e : Expr} {t : TE} {m : M D} (h : DE X C e t m) (he : ∀ whole, isTrue e X.env whole = (do let v ← whole; standAt e.pos; holding [v] (truthy v)) := by intro _; rfl) : DT X C e (tB t) (mB m) := by
  obtain ⟨p, r⟩ := h
  exact ⟨pt_val p he, r.testB⟩
theorem dtr_and {ta tb : TT} {ma mb : M Bool} (ra : DTr C ta ma) (rb : DTr C tb mb) : DTr C (tAnd ta tb) (mAnd ma mb) := by
  intro σ H ρ r Q O e p
  refine ra.then O e p.ex fun d ρ1 H1 O1 x1 e1 => ?_
  cases d with
  | true => exact rb σ H1 ρ1 r _ O1 e1 (p.later x1)
  | false => cases e1; exact p H1 O1 x1
theorem dtr_or {ta tb : TT} {ma mb : M Bool} (ra : DTr C ta ma) (rb : DTr C tb mb) : DTr C (tOr ta tb) (mOr ma mb) := by
  intro σ H ρ r Q O e p
  refine ra.then O e p.ex fun d ρ1 H1 O1 x1 e1 => ?_
  cases d with
  | false => exact rb σ H1 ρ1 r _ O1 e1 (p.later x1)
  | true => cases e1; exact p H1 O1 x1
variable {A B : M Bool} {tA tB1 : TT} {rest : List Expr}
theorem dw_and1 (ha : DT X C a tA A) : DW X C (.BoolOp .And [a] pos) tA A := let ⟨p, r⟩ := ha; ⟨pw_and1 p, r⟩
theorem dw_or1 (ha : DT X C a tA A) : DW X C (.BoolOp .Or [a] pos) tA A := let ⟨p, r⟩ := ha; ⟨pw_or1 p, r⟩
theorem dw_and (ha : DT X C a tA A) (hb : DW X C (.BoolOp .And (b :: rest) pos) tB1 B) : DW X C (.BoolOp .And (a :: b :: rest) pos) (tAnd tA tB1) (mAnd A B) := let ⟨p, r⟩ := ha; let ⟨p2, r2⟩ := hb; ⟨pw_and p p2, dtr_and r r2⟩
theorem dw_or (ha : DT X C a tA A) (hb : DW X C (.BoolOp .Or (b :: rest) pos) tB1 B) : DW X C (.BoolOp .Or (a :: b :: rest) pos) (tOr tA tB1) (mOr A B) := let ⟨p, r⟩ := ha; let ⟨p2, r2⟩ := hb; ⟨pw_or p p2, dtr_or r r2⟩
theorem dt_w {e : Expr} (h : DW X C e tA A) : DT X C e tA A := let ⟨p, r⟩ := h; ⟨p.pt, r⟩
theorem dt_not (ha : DT X C a tA A) : DT X C (.UnaryOp .Not a pos) (tNot tA) (mNot A) := by
  obtain ⟨p, r⟩ := ha
  refine ⟨pt_not p, fun σ H ρ r1 Q O e q => ?_⟩
  refine r.then O e q.ex fun d ρ1 H1 O1 x1 e1 => ?_
  cases e1
  exact q H1 O1 x1
theorem de_one {op} (h : DE X C a ta ma) : DE X C (.BoolOp op [a] pos) ta ma := let ⟨p, r⟩ := h; ⟨pe_one p, r⟩
theorem de_and (ha : DE X C a ta ma) (hb : DE X C (.BoolOp .And (b :: rest) pos) tb mb) : DE X C (.BoolOp .And (a :: b :: rest) pos) (tAndV ta tb) (mAndV ma mb) := by
  obtain ⟨pa, ra⟩ := ha
  obtain ⟨pb, rb⟩ := hb
  refine ⟨pe_and pa pb, fun σ H ρ r Q O e p => ?_⟩
  refine ra.then O e p.ex fun d ρ1 v H1 O1 x1 i1 e1 => ?_
  cases d with
  | bl k =>
    refine ⟨k, i1.bl_inv, ?_⟩
    cases k with
    | true => rw [if_pos rfl]; exact rb σ H1 ρ1 r _ O1 e1 (p.later x1)
    | false => rw [if_neg (by decide)]; cases e1; exact p _ H1 O1 x1 (.bl false)
  | _ => cases e1
theorem de_or (ha : DE X C a ta ma) (hb : DE X C (.BoolOp .Or (b :: rest) pos) tb mb) : DE X C (.BoolOp .Or (a :: b :: rest) pos) (tOrV ta tb) (mOrV ma mb) := by
  obtain ⟨pa, ra⟩ := ha
  obtain ⟨pb, rb⟩ := hb
  refine ⟨pe_or pa pb, fun σ H ρ r Q O e p => ?_⟩
  refine ra.then O e p.ex fun d ρ1 v H1 O1 x1 i1 e1 => ?_
  cases d with
  | bl k =>
    refine ⟨k, i1.bl_inv, ?_⟩
    cases k with
    | false => rw [if_neg (by decide)]; exact rb σ H1 ρ1 r _ O1 e1 (p.later x1)
    | true => rw [if_pos rfl]; cases e1; exact p _ H1 O1 x1 (.bl true)
  | _ => cases e1
theorem de_not (ha : DE X C a ta ma) : DE X C (.UnaryOp .Not a pos) (tNotV ta) (mNotV ma) := by
  obtain ⟨pa, ra⟩ := ha
  refine ⟨pe_not pa, fun σ H ρ r Q O e p => ?_⟩
  refine ra.then O e p.ex fun d ρ1 v H1 O1 x1 i1 e1 => ?_
  cases d with
  | bl k => cases e1; exact ⟨k, i1.bl_inv, p _ H1 O1 x1 (.bl _)⟩
  | _ => cases e1
theorem de_if {c : Expr} (hc : DT X C c tA A) (ha : DE X C a ta ma) (hb : DE X C b tb mb) : DE X C (.IfExp c a b pos) (tIf tA ta tb) (mIf A ma mb) := by
  obtain ⟨pa, ra⟩ := ha
  obtain ⟨pb, rb⟩ := hb
  obtain ⟨pc, rc⟩ := hc
  refine ⟨pe_ifExp pc pa pb, fun σ H ρ r Q O e p => ?_⟩
  refine rc.then O e p.ex fun d ρ1 H1 O1 x1 e1 => ?_
  cases d with
  | true => rw [if_pos rfl]; exact ra σ H1 ρ1 r _ O1 e1 (p.later x1)
  | false => rw [if_neg (by decide)]; exact rb σ H1 ρ1 r _ O1 e1 (p.later x1)
/-! argument lists, displays -/
variable {e : Expr} {es : List Expr} {me : M D} {mr : M (List D)} {te : TE} {tr : TA}
theorem da_nil : DA X C [] tNil mNil := ⟨pa_nil, fun σ H ρ r Q O e p => by cases e; exact p [] H O Ext.refl .nil⟩
theorem da_cons (ha : DE X C e te me) (hr : DA X C es tr mr) (hs : starEach (e :: es) X.env = (false, eval e X.env) :: starEach es X.env := by rfl) : DA X C (e :: es) (tCons te tr) (mCons me mr) := by
  obtain ⟨pa, ra⟩ := ha
  obtain ⟨pb, rb⟩ := hr
  refine ⟨pa_cons pa pb hs, fun σ H ρ r Q O e p => ?_⟩
  refine ra.then O e p.ex fun d ρ1 v H1 O1 x1 i1 e1 => ?_
  refine rb.then O1 e1 (p.later x1).ex fun ds ρ2 vs H2 O2 x2 i2 e2 => ?_
  cases e2
  exact p _ H2 O2 (x1.trans x2) (.cons (i1.ext x2) i2)
theorem ite_ok {α : Type} {p : Prop} [Decidable p] {a : α} {ρ : Env} {r : Rs α} (h : (if p then M.pure a else mFail : M α) ρ = some r) : p ∧ r = .ok a ρ := by
  by_cases q : p
  · rw [if_pos q] at h; cases h; exact ⟨q, rfl⟩
  · rw [if_neg q] at h; cases h
theorem de_tup {x1} (h : DA X C es tr mr) : DE X C (.Tuple es x1 pos) (tTup tr) (mTup mr) := by
  obtain ⟨pt, rt⟩ := h
  refine ⟨pe_tup pt, fun σ H ρ r Q O e p => ?_⟩
  refine rt.then O e p.ex fun ds ρ1 vs H1 O1 x1 i1 e1 => ?_
  obtain ⟨hl, rfl⟩ := ite_ok e1
  refine ⟨by rw [i1.length]; exact smallL hl, fun q hq => ?_⟩
  exact p _ _ (O1.same (Same.new hq)) (x1.trans (Ext.same (Same.new hq))) (Is.newT O1.al hq i1)
theorem df_lst (h : DA X C es tr mr) : DF X C (.List es pos) (tLst tr) (mLst mr) := by
  obtain ⟨pt, rt⟩ := h
  refine ⟨pe_lst pt, fun σ H ρ r Q O e p => ?_⟩
  refine rt.then O e p.ex fun ds ρ1 vs H1 O1 x1 i1 e1 => ?_
  obtain ⟨hl, rfl⟩ := ite_ok e1
  refine ⟨by rw [i1.length]; exact smallL hl, fun q hq => ?_⟩
  have s : Same H1 (upd H1 q (.lst vs)) := Same.new hq
  exact p q (.lst vs) _ (O1.alloc x1 q hq) (O1.plus hq s upd_same) (x1.trans (O1.extPlus hq s)) ⟨q, rfl, .inl ⟨vs, ds, upd_same, i1.ext (O1.extPlus hq s), rfl⟩⟩
/-- what is new is data -/
theorem DF.de {e : Expr} {t : TE} {m : M D} (h : DF X C e t m) : DE X C e t m := by
  obtain ⟨pt, rt⟩ := h
  refine ⟨pt, fun σ H ρ r Q O e p => rt σ H ρ r Q O e ?_⟩
  cases r with
  | ex c x ρ' => exact p
  | ok d ρ' =>
    intro a o H' hn O' x i
    refine p _ H' (O'.minus (fun z => O.notAv hn (.inl z)) fun b o2 e => (O.hold b o2 e).2) (fun b o hb nb => ⟨(x b o hb nb).1, nb⟩) ?_
    obtain ⟨a', ea, i⟩ := i
    cases ea
    rcases i with ⟨xs, ds, e1, i, rfl⟩ | ⟨kv, ks, xs, vs, e1, hk, i, rfl⟩
    · exact .lst (.inl e1) (i.less av_plus) (O.notAv hn)
    · exact .dct e1 (hk.less av_plus) (i.less av_plus) (O.notAv hn)
theorem de_lst (h : DA X C es tr mr) : DE X C (.List es pos) (tLst tr) (mLst mr) := (df_lst h).de
/-- a call of a builtin, by data -/
theorem de_callB {id : String} {x : Str} {f : List D → Option D} {p1 : Pos} (hc : CallR X (.builtin id) (rDN U f)) (hg : Gl X x) (hm : X.mg x = none) (hv : bootBuiltins x = some (.builtin id)) (h : DA X C (e :: es) tr mr) (hn : x ≠ "__name__" := by decide)
    (hdb : (x == ("__debug__" : Str)) = false := by decide) (he : starEach (e :: es) X.env = (false, eval e X.env) :: starEach es X.env := by rfl) (hpl : (backTo pos (starEach es X.env)).any (·.1) = false := by rfl) :
    DE X C (.Call (.Name x p1) (e :: es) [] pos) (tCB (rDN U f) tr) (mFn f mr) := by
  obtain ⟨pt, rt⟩ := h
  refine ⟨pe_callB hc hg hm hv pt hn hdb he hpl, fun σ H ρ r Q O e p => ?_⟩
  refine rt.then O e p.ex fun ds ρ1 vs H1 O1 x1 i1 e1 => ?_
  obtain ⟨z, hz, rfl⟩ := opt_ok e1
  exact ⟨Av C σ, ds, z, O1.al, i1, hz, fun w H3 s3 i3 => p w H3 (O1.same s3) (x1.trans (Ext.same s3)) i3⟩
theorem de_callTy {T : String} {x : Str} {f : List D → Option D} {p1 : Pos} (hc : CallR X (.type T) (rDN U f)) (hg : Gl X x) (hm : X.mg x = none) (hv : bootBuiltins x = some (.type T)) (h : DA X C (e :: es) tr mr) (hn : x ≠ "__name__" := by decide)
    (hdb : (x == ("__debug__" : Str)) = false := by decide) (he : starEach (e :: es) X.env = (false, eval e X.env) :: starEach es X.env := by rfl) (hpl : (backTo pos (starEach es X.env)).any (·.1) = false := by rfl) :
    DE X C (.Call (.Name x p1) (e :: es) [] pos) (tCB (rDN U f) tr) (mFn f mr) := by
  obtain ⟨pt, rt⟩ := h
  refine ⟨pe_callTy hc hg hm hv pt hn hdb he hpl, fun σ H ρ r Q O e p => ?_⟩
  refine rt.then O e p.ex fun ds ρ1 vs H1 O1 x1 i1 e1 => ?_
  obtain ⟨z, hz, rfl⟩ := opt_ok e1
  exact ⟨Av C σ, ds, z, O1.al, i1, hz, fun w H3 s3 i3 => p w H3 (O1.same s3) (x1.trans (Ext.same s3)) i3⟩
/-- a subscript, by data -/
theorem de_ix {f : D → D → Option D} (ho : IxR X (rD2 U f)) (ha : DE X C a ta ma) (hb : DE X C b tb mb) (hs : PlainIx b) : DE X C (.Subscript a b pos) (tOp (rD2 U f) ta tb) (mBin f ma mb) := by
  obtain ⟨pa, ra⟩ := ha
  obtain ⟨pb, rb⟩ := hb
  refine ⟨pe_ix ho pa pb hs, fun σ H ρ r Q O e p => ?_⟩
  refine ra.then O e p.ex fun d ρ1 v H1 O1 x1 i1 e1 => ?_
  refine rb.then O1 e1 (p.later x1).ex fun d2 ρ2 v2 H2 O2 x2 i2 e2 => ?_
  obtain ⟨z, hz, rfl⟩ := opt_ok e2
  exact ⟨Av C σ, d, d2, z, O2.al, i1.ext x2, i2, hz, fun w H3 s3 i3 => p w H3 (O2.same s3) ((x1.trans x2).trans (Ext.same s3)) i3⟩
/-- a slice, by data -/
def PostO {U : Un} (C : Cz U) (σ : L2.St) (H : Hp) : Rs (Option Int) → (Option Int → Hp → Prop) → Prop
  | .ok d ρ', Q => ∀ H', Ok C σ H' ρ' → Ext (Av C σ) H (Av C σ) H' → Q d H'
  | .ex c x ρ', _ => ∀ cv dv H', Ok C σ H' ρ' → Ext (Av C σ) H (Av C σ) H' → Exc U (Av C σ) H' c x cv dv → C.E σ cv dv H'
def DO (X : Cx) {U : Un} (C : Cz U) (e : Option Expr) (t : TO) (m : M (Option Int)) : Prop := PO X e t ∧ ∀ σ H ρ r Q, Ok C σ H ρ → m ρ = some r → PostO C σ H r Q → t σ H Q
def mSome (m : M D) : M (Option Int) := M.bind m fun d => match d with
  | .int i => M.pure (some i)
  | _ => mFail
def mNone : M (Option Int) := M.pure none
theorem do_none : DO X C none tNoPart mNone := ⟨po_none, fun σ H ρ r Q O e p => by cases e; exact p H O Ext.refl⟩
theorem do_some (h : DE X C a ta ma) : DO X C (some a) (tPart ta) (mSome ma) := by
  obtain ⟨pt, rt⟩ := h
  refine ⟨po_some pt, fun σ H ρ r Q O e p => ?_⟩
  refine rt.then O e (fun c x ρ' er => by subst er; exact p) fun d ρ1 v H1 O1 x1 i1 e1 => ?_
  cases d with
  | int i => cases e1; exact ⟨i, i1.int_inv, p H1 O1 x1⟩
  | _ => cases e1
def rDS (U : Un) (f : D → Option Int → Option Int → Option D) : V → Option Int → Option Int → Hp → VK → Prop := fun x lo hi H Q => ∃ A dx d, Al A H ∧ Is U A H x dx ∧ f dx lo hi = some d ∧ ∀ v H', Same H H' → Is U A H' v d → Q v H'
def mSl (f : D → Option Int → Option Int → Option D) (ma : M D) (lo hi : M (Option Int)) : M D := M.bind ma fun d => M.bind lo fun l => M.bind hi fun h => M.opt (f d l h)
theorem DOr.then {t : TO} {m : M (Option Int)} {α : Type} {k : Option Int → M α} {σ : L2.St} {H : Hp} {ρ : Env} {r : Rs α} {R : Option Int → Hp → Prop} (h : ∀ σ H ρ r Q, Ok C σ H ρ → m ρ = some r → PostO C σ H r Q → t σ H Q) (O : Ok C σ H ρ) (e : M.bind m k ρ = some r)
    (hx : ∀ c x ρ', r = .ex c x ρ' → ∀ cv dv H', Ok C σ H' ρ' → Ext (Av C σ) H (Av C σ) H' → Exc U (Av C σ) H' c x cv dv → C.E σ cv dv H')
    (hk : ∀ d ρ' H', Ok C σ H' ρ' → Ext (Av C σ) H (Av C σ) H' → k d ρ' = some r → R d H') : t σ H R := by
  cases hm : m ρ with
  | none => rw [bind_none hm] at e; cases e
  | some q =>
    cases q with
    | ok d ρ' =>
      rw [bind_ok hm] at e
      exact h σ H ρ _ R O hm fun H' O' x => hk d ρ' H' O' x e
    | ex c x ρ' =>
      rw [bind_ex hm] at e
      cases e
      exact h σ H ρ _ R O hm (hx c x ρ' rfl)
theorem de_sl {f : D → Option Int → Option Int → Option D} {lo hi : Option Expr} {ml mh : M (Option Int)} {p2 : Pos} (hr : SlR X (rDS U f)) (ha : DE X C a ta ma) {tl th : TO} (hl : DO X C lo tl ml) (hh : DO X C hi th mh) : DE X C (.Subscript a (.Slice lo hi none p2) pos) (tSl (rDS U f) ta tl th) (mSl f ma ml mh) := by
  obtain ⟨pa, ra⟩ := ha
  obtain ⟨pl, rl⟩ := hl
  obtain ⟨ph, rh⟩ := hh
  refine ⟨pe_slice hr pa pl ph, fun σ H ρ r Q O e p => ?_⟩
  refine ra.then O e p.ex fun d ρ1 v H1 O1 x1 i1 e1 => ?_
  refine DOr.then rl O1 e1 (p.later x1).ex fun l ρ2 H2 O2 x2 e2 => ?_
  refine DOr.then rh O2 e2 (p.later (x1.trans x2)).ex fun h ρ3 H3 O3 x3 e3 => ?_
  obtain ⟨z, hz, rfl⟩ := opt_ok e3
  exact ⟨Av C σ, d, z, O3.al, i1.ext (x2.trans x3), hz, fun w H4 s4 i4 => p w H4 (O3.same s4) (((x1.trans x2).trans x3).trans (Ext.same s4)) i4⟩
end
end Bx
/-! Targets, walks, loops, comprehensions, statements as data. -/
namespace Bx
open PySem PySem.Spec PyProof.Rows L2
abbrev Bd := D → Env → Option Env
def bName (i : Nat) : Bd := fun d ρ => some (ρ.set i (some d))
def bAll : List Bd → List D → Env → Option Env
  | [], [], ρ => some ρ
  | b :: bs, d :: ds, ρ => match b d ρ with
    | some ρ' => bAll bs ds ρ'
    | none => none
  | _, _, _ => none
def bTup (bs : List Bd) : Bd := fun d ρ => match d with
  | .tup ds => bAll bs ds ρ
  | _ => none
/-- slots but these are as they were -/
structure Off (vs : List Nat) (σ σ' : L2.St) : Prop where
  len : σ'.length = σ.length
  at_ : ∀ j : Nat, j ∉ vs → σ'[j]? = σ[j]?
theorem Off.refl {vs : List Nat} {σ : L2.St} : Off vs σ σ := ⟨rfl, fun _ _ => rfl⟩
theorem Off.trans {vs : List Nat} {σ σ1 σ2 : L2.St} (a : Off vs σ σ1) (b : Off vs σ1 σ2) : Off vs σ σ2 := ⟨b.len.trans a.len, fun j n => (b.at_ j n).trans (a.at_ j n)⟩
theorem Off.set {vs : List Nat} {σ : L2.St} {i : Nat} {v : Option V} (h : i ∈ vs) : Off vs σ (σ.set i v) := ⟨List.length_set, fun j n => List.getElem?_set_ne (fun z => n (by rw [← z]; exact h))⟩
theorem wipe_at {σ : L2.St} : ∀ (vs : List Nat) (j : Nat), j ∉ vs → (wipe σ vs)[j]? = σ[j]?
  | [], j, _ => by rw [wipe]
  | v :: vs, j, n => by
    rw [wipe, List.getElem?_set_ne (fun z => n (by rw [← z]; exact List.mem_cons_self))]
    exact wipe_at vs j fun z => n (List.mem_cons_of_mem _ z)
theorem wipe_in {σ : L2.St} : ∀ (vs : List Nat) (j : Nat), j ∈ vs → j < σ.length → (wipe σ vs)[j]? = some none
  | v :: vs, j, h, hl => by
    rw [wipe]
    by_cases e : v = j
    · subst e
      rw [List.getElem?_set_self (by rw [wipe_length]; exact hl)]
    · rw [List.getElem?_set_ne e]
      exact wipe_in vs j ((List.mem_cons.mp h).resolve_left (fun z => e z.symm)) hl
theorem wipe_off {σ σ' : L2.St} {vs : List Nat} (h : Off vs σ σ') : wipe σ' vs = wipe σ vs := by
  refine List.ext_getElem? fun j => ?_
  by_cases hj : j ∈ vs
  · by_cases hl : j < σ.length
    · rw [wipe_in vs j hj hl, wipe_in vs j hj (by rw [h.len]; exact hl)]
    · rw [List.getElem?_eq_none (by rw [wipe_length, h.len]; omega), List.getElem?_eq_none (by rw [wipe_length]; omega)]
  · rw [wipe_at vs j hj, wipe_at vs j hj, h.at_ j hj]
theorem off_wipe {σ : L2.St} {vs : List Nat} : Off vs σ (wipe σ vs) := ⟨wipe_length _ _, fun j n => wipe_at vs j n⟩
def DGr {U : Un} (C : Cz U) (vs : List Nat) (g : TG) (m : Bd) : Prop := ∀ v d σ H ρ ρ' (Q : L2.St → Hp → Prop), Ok C σ H ρ → Is U (Av C σ) H v d → m d ρ = some ρ' → (∀ σ', Ok C σ' H ρ' → Off vs σ σ' → Av C σ' = Av C σ → Q σ' H) → g v σ H Q
/-- a target: it stores in the slots vs alone -/
def DG (X : Cx) {U : Un} (C : Cz U) (vs : List Nat) (e : Expr) (g : TG) (m : Bd) : Prop := PG X e g ∧ DGr C vs g m
def DGsr {U : Un} (C : Cz U) (vs : List Nat) (g : TGs) (ms : List Bd) : Prop := ∀ xs ds σ H ρ ρ' (Q : L2.St → Hp → Prop), Ok C σ H ρ → IsAll U (Av C σ) H xs ds → bAll ms ds ρ = some ρ' → (∀ σ', Ok C σ' H ρ' → Off vs σ σ' → Av C σ' = Av C σ → Q σ' H) → g xs σ H Q
def DGs (X : Cx) {U : Un} (C : Cz U) (vs : List Nat) (es : List Expr) (g : TGs) (ms : List Bd) : Prop := PGs X es g ∧ DGsr C vs g ms
section
variable {X : Cx} {U : Un} {C : Cz U} {pos : Pos} {vs : List Nat}
theorem dg_name {i : Nat} {x : Str} (hN : X.N.Nodup) (hi : X.N[i]? = some x) (hx : Loc X.env.scope x) (n : i ∉ C.own) (hv : i ∈ vs) (hf : X.fn x = true ∨ X.env.scope.names.lookup x = some .local := by first | exact .inl rfl | exact .inr rfl | assumption) :
    DG X C vs (.Name x pos) (gName i) (bName i) := by
  refine ⟨pg_name hN hi hx hf, fun v d σ H ρ ρ' Q O hd e q => ?_⟩
  cases e
  exact q _ (O.set n hd) (Off.set hv) (av_set n)
theorem dgs_nil : DGs X C vs [] gNil [] := by
  refine ⟨pgs_nil, fun xs ds σ H ρ ρ' Q O hd e q => ?_⟩
  cases hd with
  | nil => cases e; exact ⟨rfl, q σ O Off.refl rfl⟩
  | cons _ _ => cases e
theorem dgs_cons {e : Expr} {es : List Expr} {g : TG} {gs : TGs} {m : Bd} {ms : List Bd} (h : DG X C vs e g m) (t : DGs X C vs es gs ms) (hs : (assignEach (e :: es) X.env).map (·.2) = assign e X.env :: (assignEach es X.env).map (·.2) := by rfl) : DGs X C vs (e :: es) (gCons g gs) (m :: ms) := by
  refine ⟨pgs_cons h.1 t.1 hs, fun xs ds σ H ρ ρ' Q O hd e q => ?_⟩
  cases hd with
  | nil => cases e
  | @cons v xs d ds hd td =>
    refine ⟨v, xs, rfl, ?_⟩
    rw [bAll] at e
    cases hm : m d ρ with
    | none => rw [hm] at e; cases e
    | some ρ1 =>
      rw [hm] at e
      refine h.2 v d σ H ρ ρ1 _ O hd hm fun σ1 O1 f1 a1 => ?_
      exact t.2 xs ds σ1 H ρ1 ρ' _ O1 (by rw [a1]; exact td) e fun σ2 O2 f2 a2 => q σ2 O2 (f1.trans f2) (a2.trans a1)
theorem bAll_len : ∀ {ms : List Bd} {ds : List D} {ρ ρ' : Env}, bAll ms ds ρ = some ρ' → ds.length = ms.length
  | [], [], _, _, _ => rfl
  | [], _ :: _, _, _, e => by rw [bAll] at e <;> first | cases e | nofun
  | _ :: _, [], _, _, e => by rw [bAll] at e <;> first | cases e | nofun
  | b :: bs, d :: ds, ρ, ρ', e => by
    rw [bAll] at e
    cases hm : b d ρ with
    | none => rw [hm] at e; cases e
    | some ρ1 => rw [hm] at e; rw [List.length_cons, List.length_cons, bAll_len e]
theorem dg_tup {es : List Expr} {k : Nat} {g : TGs} {ms : List Bd} {n : Nat} (hc : X.calm = true) (h : DGs X C vs es g ms) (hn : ms.length = n := by rfl) (hl : (assignEach es X.env).length = n := by rfl)
    (hst : (assignEach es X.env).findIdx? (·.1) = none := by rfl) : DG X C vs (.Tuple es k pos) (gTup X.K n g) (bTup ms) := by
  subst hn
  refine ⟨pg_tup hc h.1 hl hst, fun v d σ H ρ ρ' Q O hd e q => ?_⟩
  cases d with
  | tup ds =>
    obtain ⟨a, xs, rfl, ea, hx, na⟩ := hd.tup_inv
    exact ⟨a, xs, rfl, SqT.of ea, hx.length.trans (bAll_len e), h.2 xs ds σ H ρ ρ' Q O hx e q⟩
  | _ => cases e
end
/-! ### what is walked -/
def WalkD (U : Un) (A : Ad) (H : Hp) (J : It) (ds : List D) : Prop := ∃ (G : Hp → Prop) (Y : Nat → Hp → V → Hp → Prop), Walk J ds.length G Y ∧ ∀ A' H', Ext A H A' H' → Al A' H' → G H' ∧
  ∀ i v H'', i < ds.length → Y i H' v H'' → Same H' H'' ∧ ∃ d, ds[i]? = some d ∧ Is U A' H'' v d
def PostI {U : Un} (C : Cz U) (σ : L2.St) (H : Hp) : Rs (List D) → (It → Hp → Prop) → Prop
  | .ok ds ρ', R => ∀ J H', Ok C σ H' ρ' → Ext (Av C σ) H (Av C σ) H' → WalkD U (Av C σ) H' J ds → R J H'
  | .ex c x ρ', _ => ∀ cv dv H', Ok C σ H' ρ' → Ext (Av C σ) H (Av C σ) H' → Exc U (Av C σ) H' c x cv dv → C.E σ cv dv H'
def DIr {U : Un} (C : Cz U) (w : TI) (m : M (List D)) : Prop := ∀ σ H ρ r R, Ok C σ H ρ → m ρ = some r → PostI C σ H r R → w σ H R
def DI (X : Cx) {U : Un} (C : Cz U) (tg it : Expr) (w : TI) (m : M (List D)) : Prop := PI X tg it w ∧ DIr C w m
def mSeq (m : M D) : M (List D) := M.bind m fun d => match d with
  | .lst ds => M.pure ds
  | .tup ds => M.pure ds
  | _ => mFail
def oneS (c : Nat) : Str := ⟨#[c]⟩
def mSigns (m : M D) : M (List D) := M.bind m fun d => match d with
  | .str z => M.pure (z.cps.toList.map fun c => .str (oneS c))
  | _ => mFail
def rangeD (i j : Int) : List D := (List.range (j - i).toNat).map fun k => .int (i + (k : Nat))
def small62 (i : Int) : Bool := decide (-(2 ^ 62) ≤ i) && decide (i < 2 ^ 62)
def mRange (m : M (List D)) : M (List D) := M.bind m fun ds => match ds with
  | [.int j] => if small62 j = true then M.pure (rangeD 0 j) else mFail
  | [.int i, .int j] => if (small62 i && small62 j) = true then M.pure (rangeD i j) else mFail
  | _ => mFail
def zipD (xs ys : List D) : List D := (xs.zip ys).map fun p => .tup [p.1, p.2]
def mZip (m : M (List D)) : M (List D) := M.bind m fun ds => match ds with
  | [.lst xs, .lst ys] => M.pure (zipD xs ys)
  | [.tup xs, .tup ys] => M.pure (zipD xs ys)
  | _ => mFail
def mEnum (m : M (List D)) : M (List D) := M.bind m fun ds => match ds with
  | [.lst xs] => M.pure (xs.zipIdx.map fun p => .tup [.int (p.2 : Nat), p.1])
  | _ => mFail
section
variable {U : Un} {A : Ad} {H : Hp}
theorem walkD_list {K : PySem.W.Frag} {a : Addr} {xs : List V} {ds : List D} (e : Rd H a (.lst xs)) (n : ¬ A a) (h : IsAll U A H xs ds) : WalkD U A H (Itl K a) ds := by
  refine ⟨_, _, h.length ▸ walk_list (xs := xs), fun A' H' x al => ⟨.inl (Rd.ext e n x).1, fun i v H'' hi y => ?_⟩⟩
  obtain ⟨rfl, hv⟩ := y
  obtain ⟨d, hd, i1⟩ := (h.ext x).getV hv
  exact ⟨Same.refl', d, hd, i1⟩
theorem walkD_tup {K : PySem.W.Frag} {a : Addr} {xs : List V} {ds : List D} (e : H a = some (.tup xs)) (n : ¬ A a) (h : IsAll U A H xs ds) : WalkD U A H (Itt K a) ds := by
  refine ⟨_, _, h.length ▸ walk_tup (xs := xs), fun A' H' x al => ⟨SqT.of (x a _ e n).1, fun i v H'' hi y => ?_⟩⟩
  obtain ⟨rfl, hv⟩ := y
  obtain ⟨d, hd, i1⟩ := (h.ext x).getV hv
  exact ⟨Same.refl', d, hd, i1⟩
theorem walkD_str {z : Str} (hz : okS z) : WalkD U A H (Its z) (z.cps.toList.map fun c => .str (oneS c)) := by
  refine ⟨_, _, by rw [List.length_map]; exact walk_str, fun A' H' x al => ⟨trivial, fun i v H'' hi y => ?_⟩⟩
  obtain ⟨rfl, c, hc, rfl⟩ := y
  have hc' : z.cps.toList[i]? = some c := by simpa using hc
  refine ⟨Same.refl', .str (oneS c), by rw [List.getElem?_map, hc']; rfl, .str _ ⟨by show 1 ≤ maxS; decide, ?_⟩⟩
  have hm : c ∈ z.cps.toList := List.mem_of_getElem? hc'
  have := Pr.strOk_iff.mp hz.2 c hm
  refine Pr.strOk_iff.mpr fun d hd => ?_
  rw [List.mem_singleton.mp hd]
  exact this
theorem walkD_range {lo : Int} {n : Nat} : WalkD U A H (Itr lo n) ((List.range n).map fun k => .int (lo + (k : Nat))) := by
  refine ⟨_, _, by rw [List.length_map, List.length_range]; exact walk_range, fun A' H' x al => ⟨trivial, fun i v H'' hi y => ?_⟩⟩
  obtain ⟨rfl, rfl⟩ := y
  rw [List.length_map, List.length_range] at hi
  exact ⟨Same.refl', .int (lo + (i : Nat)), by rw [List.getElem?_map, List.getElem?_range hi]; rfl, .int _⟩
theorem newPair {T : Addr} {x y : V} {d e : D} (al : Al A H) (hT : H T = none) (h1 : Is U A H x d) (h2 : Is U A H y e) : Same H (upd H T (.tup [x, y])) ∧ Is U A (upd H T (.tup [x, y])) (.ref T) (.tup [d, e]) :=
  ⟨Same.new hT, Is.newT al hT (.cons h1 (.cons h2 .nil))⟩
theorem zipD_get {xs ys : List D} {i : Nat} {d e : D} (h1 : xs[i]? = some d) (h2 : ys[i]? = some e) : (zipD xs ys)[i]? = some (.tup [d, e]) := by
  unfold zipD
  rw [List.getElem?_map, List.getElem?_zip_eq_some (z := (d, e)) |>.mpr ⟨h1, h2⟩]
  rfl
theorem walkD_zip {K : PySem.W.Frag} {a b : Addr} {xs ys : List V} {ds es : List D} (e1 : Rd H a (.lst xs)) (n1 : ¬ A a) (h1 : IsAll U A H xs ds) (e2 : Rd H b (.lst ys)) (n2 : ¬ A b) (h2 : IsAll U A H ys es) : WalkD U A H (Itz K a b) (zipD ds es) := by
  refine ⟨_, _, walk_zip (xs := xs) (ys := ys) (by unfold zipD; rw [List.length_map, List.length_zip, h1.length, h2.length]), fun A' H' x al => ⟨⟨.inl (Rd.ext e1 n1 x).1, .inl (Rd.ext e2 n2 x).1⟩, fun i v H'' hi y => ?_⟩⟩
  obtain ⟨T, x1, y1, rfl, hT, rfl, hx, hy⟩ := y
  obtain ⟨d, hd, i1⟩ := (h1.ext x).getV hx
  obtain ⟨e, he, i2⟩ := (h2.ext x).getV hy
  obtain ⟨s, i3⟩ := newPair al hT i1 i2
  exact ⟨s, _, zipD_get hd he, i3⟩
theorem walk_zipT {K : PySem.W.Frag} {a b : Addr} {xs ys : List V} {n : Nat} (hn : n = min xs.length ys.length) : Walk (RZ.ItzT K a b) n (fun H => SqT K H a xs ∧ SqT K H b ys) (YPair (fun i => xs[i]?) (fun i => ys[i]?)) := by
  subst hn
  refine ⟨fun i _ hi q => ?_, fun _ q => ⟨xs, ys, q.1, q.2, by omega⟩, fun i H v H' _ q y => ?_⟩
  · have h1 : i < xs.length := by omega
    have h2 : i < ys.length := by omega
    exact ⟨xs, ys, xs[i], ys[i], q.1, q.2, by simp [h1], by simp [h2]⟩
  · obtain ⟨T, x, z, h1, h2, h3, h4, h5⟩ := y
    exact ⟨T, x, z, h1, h2, h3, h4 xs q.1, h5 ys q.2⟩
theorem walkD_zipT {K : PySem.W.Frag} {a b : Addr} {xs ys : List V} {ds es : List D} (e1 : H a = some (.tup xs)) (n1 : ¬ A a) (h1 : IsAll U A H xs ds) (e2 : H b = some (.tup ys)) (n2 : ¬ A b) (h2 : IsAll U A H ys es) : WalkD U A H (RZ.ItzT K a b) (zipD ds es) := by
  refine ⟨_, _, walk_zipT (xs := xs) (ys := ys) (by unfold zipD; rw [List.length_map, List.length_zip, h1.length, h2.length]), fun A' H' x al => ⟨⟨SqT.of (x _ _ e1 n1).1, SqT.of (x _ _ e2 n2).1⟩, fun i v H'' hi y => ?_⟩⟩
  obtain ⟨T, x1, y1, rfl, hT, rfl, hx, hy⟩ := y
  obtain ⟨d, hd, i1⟩ := (h1.ext x).getV hx
  obtain ⟨e, he, i2⟩ := (h2.ext x).getV hy
  obtain ⟨s, i3⟩ := newPair al hT i1 i2
  exact ⟨s, _, zipD_get hd he, i3⟩
theorem walkD_enum {K : PySem.W.Frag} {a : Addr} {xs : List V} {ds : List D} (e1 : Rd H a (.lst xs)) (n1 : ¬ A a) (h1 : IsAll U A H xs ds) : WalkD U A H (Ite K a) (ds.zipIdx.map fun p => .tup [.int (p.2 : Nat), p.1]) := by
  have hl : (ds.zipIdx.map fun p => D.tup [.int (p.2 : Nat), p.1]).length = xs.length := by rw [List.length_map, List.length_zipIdx, h1.length]
  refine ⟨_, _, hl ▸ walk_enum (xs := xs), fun A' H' x al => ⟨.inl (Rd.ext e1 n1 x).1, fun i v H'' hi y => ?_⟩⟩
  obtain ⟨T, x1, y1, rfl, hT, rfl, hx, hy⟩ := y
  cases hx
  obtain ⟨e, he, i2⟩ := (h1.ext x).getV hy
  obtain ⟨s, i3⟩ := newPair al hT (.int (i : Nat)) i2
  refine ⟨s, _, ?_, i3⟩
  rw [List.getElem?_map, List.getElem?_zipIdx, he]
  simp
end
section
variable {X : Cx} {U : Un} {C : Cz U} {pos : Pos} {tg e : Expr} {es : List Expr} {te : TE} {tr : TA} {me : M D} {mr : M (List D)}
/-- a list or a tuple -/
def iSeq (K : PySem.W.Frag) (tl : TE) : TI := fun σ H R => tl σ H fun x H1 => ∃ a, x = .ref a ∧ (((∃ xs, SqL K H1 a xs) ∧ R (Itl K a) H1) ∨ ((∃ xs, SqT K H1 a xs) ∧ R (Itt K a) H1))
theorem pi_seq {l : Expr} {tl : TE} (hl : PE X l tl) : PI X tg l (iSeq X.K tl) := by
  refine ⟨fun pins s σ H R I h => ?_⟩
  refine thn (hl.run pins s σ H _ I h) fun v s1 ⟨x, H1, I1, r1, q1⟩ => ?_
  obtain ⟨a, e, q⟩ := q1
  subst e
  cases r1
  rcases q with ⟨⟨xs, hq⟩, q⟩ | ⟨⟨xs, hq⟩, q⟩
  · obtain ⟨its, rv, p, hz⟩ := I1.list hq
    refine wpAny_pyIter_list p.isList ?_
    refine ⟨s1.heap.objs.size, [s1.heap.objs.size], _, _, H1, rfl, I1.kept (t' := s1.toks) fun b o e => Heap.get?_push_of_some _ e, turn_list a _, ⟨_, Heap.get?_push_size _ rfl, rfl, rfl⟩, fun b hb => ?_, q⟩
    have e : b = s1.heap.objs.size := by simpa using hb
    subst e
    exact I1.fpOk (Nat.le_refl _) (I1.hok.fresh (Nat.le_refl _))
  · obtain ⟨its, rv, p, hz⟩ := I1.tuple hq
    refine wpAny_pyIter_tuple (show s1.heap.IsTuple a its.toArray from p) ?_
    refine ⟨s1.heap.objs.size, [s1.heap.objs.size], _, _, H1, rfl, I1.kept (t' := s1.toks) fun b o e => Heap.get?_push_of_some _ e, turn_tuple a _, ⟨_, Heap.get?_push_size _ rfl, rfl, rfl⟩, fun b hb => ?_, q⟩
    have e : b = s1.heap.objs.size := by simpa using hb
    subst e
    exact I1.fpOk (Nat.le_refl _) (I1.hok.fresh (Nat.le_refl _))
theorem PostI.ex {σ : L2.St} {H : Hp} {r : Rs (List D)} {R : It → Hp → Prop} (p : PostI C σ H r R) : ∀ c x ρ', r = .ex c x ρ' → ∀ cv dv H', Ok C σ H' ρ' → Ext (Av C σ) H (Av C σ) H' → Exc U (Av C σ) H' c x cv dv → C.E σ cv dv H' := by
  rintro c x ρ' rfl
  exact p
theorem di_seq (h : DE X C e te me) : DI X C tg e (iSeq X.K te) (mSeq me) := by
  refine ⟨pi_seq h.1, fun σ H ρ r R O e p => ?_⟩
  refine h.2.then O e p.ex fun d ρ1 v H1 O1 x1 i1 e1 => ?_
  cases d with
  | lst ds =>
    cases e1
    obtain ⟨a, xs, rfl, ea, hx, na⟩ := i1.lst_inv
    exact ⟨a, rfl, .inl ⟨⟨xs, .inl ea⟩, p _ H1 O1 x1 (walkD_list ea na hx)⟩⟩
  | tup ds =>
    cases e1
    obtain ⟨a, xs, rfl, ea, hx, na⟩ := i1.tup_inv
    exact ⟨a, rfl, .inr ⟨⟨xs, SqT.of ea⟩, p _ H1 O1 x1 (walkD_tup ea na hx)⟩⟩
  | _ => cases e1
theorem di_str (h : DE X C e te me) : DI X C tg e (iStr te) (mSigns me) := by
  refine ⟨pi_str h.1, fun σ H ρ r R O e p => ?_⟩
  refine h.2.then O e p.ex fun d ρ1 v H1 O1 x1 i1 e1 => ?_
  cases d with
  | str z =>
    cases e1
    obtain ⟨rfl, hz⟩ := i1.str_inv
    exact ⟨z, rfl, p _ H1 O1 x1 (walkD_str hz)⟩
  | _ => cases e1
theorem isAll_one {U : Un} {A : Ad} {H : Hp} {vs : List V} {d : D} (h : IsAll U A H vs [d]) : ∃ v, vs = [v] ∧ Is U A H v d := by
  cases h with
  | cons h t => cases t with
    | nil => exact ⟨_, rfl, h⟩
theorem isAll_two {U : Un} {A : Ad} {H : Hp} {vs : List V} {d e : D} (h : IsAll U A H vs [d, e]) : ∃ v w, vs = [v, w] ∧ Is U A H v d ∧ Is U A H w e := by
  cases h with
  | cons h t =>
    obtain ⟨w, rfl, h2⟩ := isAll_one t
    exact ⟨_, _, rfl, h, h2⟩
theorem small62_iff {i : Int} (h : small62 i = true) : -(2 ^ 62) ≤ i ∧ i < 2 ^ 62 := by
  unfold small62 at h
  rw [Bool.and_eq_true] at h
  exact ⟨of_decide_eq_true h.1, of_decide_eq_true h.2⟩
theorem mRange_one {d : D} {ρ : Env} {r : Rs (List D)} (h : (match [d] with
  | [.int j] => if small62 j = true then M.pure (rangeD 0 j) else mFail
  | [.int i, .int j] => if (small62 i && small62 j) = true then M.pure (rangeD i j) else mFail
  | _ => mFail : M (List D)) ρ = some r) : ∃ j, d = .int j ∧ small62 j = true ∧ r = .ok (rangeD 0 j) ρ := by
  cases d with
  | int j =>
    obtain ⟨h1, h2⟩ := ite_ok (p := small62 j = true) h
    exact ⟨j, rfl, h1, h2⟩
  | _ => cases h
theorem mRange_two {d e : D} {ρ : Env} {r : Rs (List D)} (h : (match [d, e] with
  | [.int j] => if small62 j = true then M.pure (rangeD 0 j) else mFail
  | [.int i, .int j] => if (small62 i && small62 j) = true then M.pure (rangeD i j) else mFail
  | _ => mFail : M (List D)) ρ = some r) : ∃ i j, d = .int i ∧ e = .int j ∧ (small62 i && small62 j) = true ∧ r = .ok (rangeD i j) ρ := by
  cases d with
  | int i => cases e with
    | int j =>
      obtain ⟨h1, h2⟩ := ite_ok (p := (small62 i && small62 j) = true) h
      exact ⟨i, j, rfl, rfl, h1, h2⟩
    | _ => cases h
  | _ => cases h
/-- an argument list's answer has as many as there are -/
def Many (n : Nat) (m : M (List D)) : Prop := ∀ ρ ds ρ', m ρ = some (.ok ds ρ') → ds.length = n
theorem many_nil : Many 0 mNil := fun ρ ds ρ' h => by cases h; rfl
theorem many_cons {n : Nat} {me : M D} {mr : M (List D)} (h : Many n mr) : Many (n + 1) (mCons me mr) := fun ρ ds ρ' e => by
  unfold mCons at e
  cases h1 : me ρ with
  | none => rw [bind_none h1] at e; cases e
  | some q => cases q with
    | ex c x ρ2 => rw [bind_ex h1] at e; cases e
    | ok d ρ2 =>
      rw [bind_ok h1] at e
      cases h2 : mr ρ2 with
      | none => rw [bind_none h2] at e; cases e
      | some q => cases q with
        | ex c x ρ2 => rw [bind_ex h2] at e; cases e
        | ok ds2 ρ3 =>
          rw [bind_ok h2] at e
          cases e
          rw [List.length_cons, h _ _ _ h2]
theorem di_range1 {p : Pos} (hg : Gl X "range") (hm : X.mg "range" = none) (h : DE X C e te me) (hs : starEach [e] X.env = [(false, eval e X.env)] := by rfl) : DI X C tg (.Call (.Name "range" p) [e] [] pos) (iRng1 (tCons te tNil)) (mRange (mCons me mNil)) := by
  refine ⟨pi_range1 hg hm (da_cons h da_nil hs).1 hs, fun σ H ρ r R O e p => ?_⟩
  unfold mRange mCons mNil at e
  refine h.2.then O (k := fun d => mRange (M.pure [d])) (by
    rw [← e]; unfold mRange M.bind
    cases me ρ with
    | none => rfl
    | some q => cases q <;> rfl) p.ex fun d ρ1 v H1 O1 x1 i1 e1 => ?_
  obtain ⟨j, rfl, hj, rfl⟩ := mRange_one e1
  obtain ⟨h1, h2⟩ := small62_iff hj
  refine ⟨j, by rw [i1.int_inv], h1, h2, ?_⟩
  have q := p (Itr 0 j.toNat) H1 O1 x1 (by
    have := walkD_range (U := U) (A := Av C σ) (H := H1) (lo := 0) (n := j.toNat)
    unfold rangeD
    rw [Int.sub_zero]
    exact this)
  exact q
theorem di_range2 {e2 : Expr} {te2 : TE} {me2 : M D} {p : Pos} (hg : Gl X "range") (hm : X.mg "range" = none) (h : DE X C e te me) (h2 : DE X C e2 te2 me2) (hs : starEach [e, e2] X.env = [(false, eval e X.env), (false, eval e2 X.env)] := by rfl) (hs2 : starEach [e2] X.env = [(false, eval e2 X.env)] := by rfl) : DI X C tg (.Call (.Name "range" p) [e, e2] [] pos) (iRng2 (tCons te (tCons te2 tNil))) (mRange (mCons me (mCons me2 mNil))) := by
  refine ⟨pi_range2 hg hm (da_cons h (da_cons h2 da_nil hs2) (by rw [hs, hs2])).1 hs hs2, fun σ H ρ r R O e p => ?_⟩
  refine h.2.then O (k := fun d => M.bind me2 fun d2 => mRange (M.pure [d, d2])) (by
    rw [← e]; unfold mRange mCons mNil M.bind
    cases me ρ with
    | none => rfl
    | some q => cases q with
      | ex c x ρ => rfl
      | ok d ρ1 => cases h3 : me2 ρ1 with
        | none => simp only [h3]
        | some q => cases q <;> simp only [h3]) p.ex fun d ρ1 v H1 O1 x1 i1 e1 => ?_
  refine h2.2.then O1 e1 (fun c x ρ' er cv dv H' O' y i => p.ex c x ρ' er cv dv H' O' (x1.trans y) i) fun d2 ρ2 v2 H2 O2 x2 i2 e2 => ?_
  obtain ⟨i, j, rfl, rfl, hj, rfl⟩ := mRange_two e2
  rw [Bool.and_eq_true] at hj
  obtain ⟨h1, h2⟩ := small62_iff hj.1
  obtain ⟨h3, h4⟩ := small62_iff hj.2
  refine ⟨i, j, by rw [i1.int_inv, i2.int_inv], ⟨h1, h2, h3, h4⟩, ?_⟩
  exact p (Itr i (j - i).toNat) H2 O2 (x1.trans x2) walkD_range
theorem PostI.later {σ : L2.St} {H H1 : Hp} {r : Rs (List D)} {R : It → Hp → Prop} (p : PostI C σ H r R) (x : Ext (Av C σ) H (Av C σ) H1) : PostI C σ H1 r R := by
  cases r with
  | ok d ρ' => exact fun J H' O y w => p J H' O (x.trans y) w
  | ex c e ρ' => exact fun v d H' O y i => p v d H' O (x.trans y) i
theorem di_zip {elts : List Expr} {kk : Nat} {e2 : Expr} {te2 : TE} {me2 : M D} {p tpos : Pos} (hg : Gl X "zip") (hm : X.mg "zip" = none) (h : DE X C e te me) (h2 : DE X C e2 te2 me2) (hs : starEach [e, e2] X.env = (false, eval e X.env) :: starEach [e2] X.env := by rfl) (hs2 : starEach [e2] X.env = (false, eval e2 X.env) :: starEach [] X.env := by rfl) (hpl : (backTo pos (starEach [e2] X.env)).any (·.1) = false := by rfl) :
    DI X C (.Tuple elts kk tpos) (.Call (.Name "zip" p) [e, e2] [] pos) (RZ.iZipA X.K (tCons te (tCons te2 tNil))) (mZip (mCons me (mCons me2 mNil))) := by
  refine ⟨RZ.pi_zipA hg hm (da_cons h (da_cons h2 da_nil hs2) hs).1 hs hpl, fun σ H ρ r R O e p => ?_⟩
  refine h.2.then O (k := fun d => M.bind me2 fun d2 => mZip (M.pure [d, d2])) (by
    rw [← e]; unfold mZip mCons mNil M.bind
    cases me ρ with
    | none => rfl
    | some q => cases q with
      | ex c x ρ => rfl
      | ok d ρ1 => cases h3 : me2 ρ1 with
        | none => simp only [h3]
        | some q => cases q <;> simp only [h3]) p.ex fun d ρ1 v H1 O1 x1 i1 e1 => ?_
  refine h2.2.then O1 e1 (p.later x1).ex fun d2 ρ2 v2 H2 O2 x2 i2 e2 => ?_
  have i1 := i1.ext x2
  cases d with
  | lst xs => cases d2 with
    | lst ys =>
      cases e2
      obtain ⟨a, vs, rfl, ea, ha, na⟩ := i1.lst_inv
      obtain ⟨b, ws, rfl, eb, hb, nb⟩ := i2.lst_inv
      exact ⟨a, b, vs, ws, rfl, .inl ⟨.inl ea, .inl eb, p _ H2 O2 (x1.trans x2) (walkD_zip ea na ha eb nb hb)⟩⟩
    | _ => cases e2
  | tup xs => cases d2 with
    | tup ys =>
      cases e2
      obtain ⟨a, vs, rfl, ea, ha, na⟩ := i1.tup_inv
      obtain ⟨b, ws, rfl, eb, hb, nb⟩ := i2.tup_inv
      exact ⟨a, b, vs, ws, rfl, .inr ⟨SqT.of ea, SqT.of eb, p _ H2 O2 (x1.trans x2) (walkD_zipT ea na ha eb nb hb)⟩⟩
    | _ => cases e2
  | _ => cases d2 <;> cases e2
theorem di_enum {elts : List Expr} {kk : Nat} {p tpos : Pos} (hg : Gl X "enumerate") (hm : X.mg "enumerate" = none) (h : DE X C e te me) (hs : starEach [e] X.env = [(false, eval e X.env)] := by rfl) :
    DI X C (.Tuple elts kk tpos) (.Call (.Name "enumerate" p) [e] [] pos) (iEnum X.K (tCons te tNil)) (mEnum (mCons me mNil)) := by
  refine ⟨pi_enum hg hm (da_cons h da_nil hs).1 hs, fun σ H ρ r R O e p => ?_⟩
  refine h.2.then O (k := fun d => mEnum (M.pure [d])) (by
    rw [← e]; unfold mEnum mCons mNil M.bind
    cases me ρ with
    | none => rfl
    | some q => cases q <;> rfl) p.ex fun d ρ1 v H1 O1 x1 i1 e1 => ?_
  cases d with
  | lst xs =>
    cases e1
    obtain ⟨a, vs, rfl, ea, ha, na⟩ := i1.lst_inv
    exact ⟨a, vs, rfl, .inl ea, p _ H1 O1 x1 (walkD_enum ea na ha)⟩
  | _ => cases e1
end
end Bx
/-! Comprehensions, statements, loops as data. -/
namespace Bx
open PySem PySem.Spec PyProof.Rows L2
/-! ### comprehensions -/
def wipeE (ρ : Env) : List Nat → Env
  | [] => ρ
  | v :: vs => (wipeE ρ vs).set v none
/-- the slots vs as they stand in the other -/
def putBack (ρ0 : Env) : List Nat → Env → Env
  | [], ρ => ρ
  | v :: vs, ρ => (putBack ρ0 vs ρ).set v (ρ0.getD v none)
/-- one turn after the other: the items made so far -/
def compL (vs : List Nat) (b : Bd) (c : M Bool) (e : M D) : List D → List D → Env → Option (List D × Env)
  | [], acc, ρ => some (acc, ρ)
  | d :: ds, acc, ρ => match b d (wipeE ρ vs) with
    | none => none
    | some ρ1 => match c ρ1 with
      | some (.ok true ρ2) => match e ρ2 with
        | some (.ok y ρ3) => if acc.length < maxL then compL vs b c e ds (acc ++ [y]) (putBack ρ vs ρ3) else none
        | _ => none
      | some (.ok false ρ2) => compL vs b c e ds acc (putBack ρ vs ρ2)
      | _ => none
def mComp (vs : List Nat) (b : Bd) (c : M Bool) (e : M D) (mi : M (List D)) : M D := M.bind mi fun ds ρ => match compL vs b c e ds [] ρ with
  | some (acc, ρ') => some (.ok (.lst acc) ρ')
  | none => none
def mYes : M Bool := M.pure true
section
variable {U : Un} {C : Cz U} {σ : L2.St} {H : Hp} {ρ : Env}
theorem Ok.wipe (O : Ok C σ H ρ) : ∀ {vs : List Nat}, (∀ v ∈ vs, v ∉ C.own) → Ok C (L2.wipe σ vs) H (wipeE ρ vs) ∧ Av C (L2.wipe σ vs) = Av C σ
  | [], _ => ⟨O, rfl⟩
  | v :: vs, h => by
    obtain ⟨O1, e⟩ := Ok.wipe O (vs := vs) fun x hx => h x (List.mem_cons_of_mem _ hx)
    rw [L2.wipe, wipeE]
    exact ⟨O1.unset (h v List.mem_cons_self), (av_set (h v List.mem_cons_self)).trans e⟩
/-- what is held at D is changed -/
theorem Ok.upHold {D1 : Addr} {o o' : HO} (O : Ok (C.plus D1 o) σ H ρ) (hn0 : C.H0 D1 = none) : Ok (C.plus D1 o') σ (upd H D1 o') ρ where
  len := O.len
  sl := fun i d e => by
    obtain ⟨v, h1, h2, h3⟩ := O.sl i d e
    have x : Ext (Av (C.plus D1 o) σ) H (Av (C.plus D1 o') σ) (upd H D1 o') := fun a u ea na => ⟨by rw [upd_ne (fun z => na (.inl (.inr z)))]; exact ea, na⟩
    refine ⟨v, h1, fun n => (h2 n).ext x, fun n => (h3 n).ext x fun a u ev ea => ?_⟩
    subst ev
    rw [upd_ne (fun z => (O.new i a n h1).1 (.inr z))]
    exact ea
  dist := O.dist
  al := fun a z => by
    by_cases e : a = D1
    · subst e; rw [upd_same]; nofun
    · rw [upd_ne e]; exact O.al a z
  keep := fun a u e n => by
    have := O.keep a u e n
    by_cases z : a = D1
    · subst z
      have e : C.H0 a = some u := e
      rw [hn0] at e
      cases e
    · rw [upd_ne z]; exact this
  new := O.new
  io := O.io
  hold := fun a u e => by
    have e : (if a = D1 then some o' else C.hold a) = some u := e
    by_cases z : a = D1
    · rw [if_pos z] at e
      cases e
      exact ⟨by rw [z]; exact upd_same, .inr z⟩
    · rw [if_neg z] at e
      have := O.hold a u (by show (if a = D1 then some o else C.hold a) = _; rw [if_neg z]; exact e)
      exact ⟨by rw [upd_ne z]; exact this.1, this.2⟩
/-- behind a comprehension's turn: the slots vs stand as ahead -/
theorem Ok.back {σ2 : L2.St} {H2 : Hp} {ρ2 : Env} (O : Ok C σ H ρ) (O2 : Ok C σ2 H2 ρ2) (x : Ext (Av C σ) H (Av C σ) H2) : ∀ {vs : List Nat}, (∀ v ∈ vs, v ∉ C.own) → (ha : Av C σ2 = Av C σ) → Off vs σ σ2 → Ok C σ H2 (putBack ρ vs ρ2) := fun {vs} hv ha f => by
  have key : ∀ (ws : List Nat) (j : Nat), (putBack ρ ws ρ2)[j]? = if j ∈ ws ∧ j < ρ2.length then some (ρ.getD j none) else ρ2[j]? := by
    intro ws
    induction ws with
    | nil => intro j; rw [putBack, if_neg (by simp)]
    | cons w ws ih =>
      intro j
      have hlen : ∀ ws : List Nat, (putBack ρ ws ρ2).length = ρ2.length := by
        intro ws
        induction ws with
        | nil => rw [putBack]
        | cons w ws ih => rw [putBack, List.length_set, ih]
      rw [putBack, List.getElem?_set, hlen, ih]
      by_cases e : w = j
      · subst e
        rw [if_pos rfl]
        by_cases hl : w < ρ2.length
        · rw [if_pos hl, if_pos ⟨List.mem_cons_self, hl⟩]
        · rw [if_neg hl, if_neg (fun z => hl z.2), List.getElem?_eq_none (by omega)]
      · rw [if_neg e]
        by_cases hj : j ∈ ws ∧ j < ρ2.length
        · rw [if_pos hj, if_pos ⟨List.mem_cons_of_mem _ hj.1, hj.2⟩]
        · rw [if_neg hj, if_neg (fun z => hj ⟨(List.mem_cons.mp z.1).resolve_left (fun q => e q.symm), z.2⟩)]
  have hl2 : ρ2.length = ρ.length := by rw [← O2.len, f.len, O.len]
  have own_at : ∀ i, i ∈ C.own → σ2[i]? = σ[i]? := fun i hi => f.at_ i fun z => hv i z hi
  refine ⟨?_, fun j d hj => ?_, fun i j a hi hj e1 e2 => O2.dist i j a hi hj (by rw [own_at i hi]; exact e1) (by rw [own_at j hj]; exact e2), fun a z => O2.al a (by rw [ha]; exact z), O2.keep, fun i a hi e => O2.new i a hi (by rw [own_at i hi]; exact e), fun j a hj => ?_, O2.hold⟩
  · have : ∀ ws : List Nat, (putBack ρ ws ρ2).length = ρ2.length := by
      intro ws
      induction ws with
      | nil => rw [putBack]
      | cons w ws ih => rw [putBack, List.length_set, ih]
    rw [this, ← O2.len, f.len]
  · rw [key] at hj
    by_cases hm : j ∈ vs ∧ j < ρ2.length
    · rw [if_pos hm] at hj
      have hj' : ρ[j]? = some (some d) := by
        rw [hl2] at hm
        rw [List.getD_eq_getElem?_getD] at hj
        have := List.getElem?_eq_getElem hm.2
        rw [this] at hj ⊢
        simpa using hj
      obtain ⟨v, h1, h2, h3⟩ := O.sl j d hj'
      exact ⟨v, h1, fun n => (h2 n).ext x, fun n => absurd n (hv j hm.1)⟩
    · rw [if_neg hm] at hj
      by_cases hv2 : j ∈ vs
      · have hl3 : ¬ j < ρ2.length := fun z => hm ⟨hv2, z⟩
        rw [List.getElem?_eq_none (by omega)] at hj; cases hj
      · obtain ⟨v, h1, h2, h3⟩ := O2.sl j d hj
        rw [f.at_ j hv2] at h1
        rw [ha] at h2 h3
        exact ⟨v, h1, h2, h3⟩
  · obtain ⟨h1, h2, h3⟩ := O2.io j a hj
    exact ⟨h1, by rw [← own_at j h1]; exact h2, h3⟩
end
section
variable {X : Cx} {U : Un} {C : Cz U} {pos : Pos} {elt tg iter : Expr} {ifs : List Expr} {scope : Scope} {own : List (Str × Nat)} {wi : TI} {g : TG} {tt : TT} {te : TE} {mi : M (List D)} {b : Bd} {mc : M Bool} {me : M D}
/-- the heart: the turns of a comprehension, its list new at D -/
theorem comp_run {U : Un} (C : Cz U) (vs : List Nat) (b : Bd) (mc : M Bool) (me : M D) {g : TG} {tt : TT} {te : TE} {σ : L2.St} {H1 : Hp} {D1 : Addr} {ρ1 : Env} {ds : List D} {J : It} {Qd : Hp → Prop} (hv : ∀ v ∈ vs, v ∉ C.own)
    (hg : ∀ o, DGr (C.plus D1 o) vs g b) (ht : ∀ o, DTr (C.plus D1 o) tt mc) (he : ∀ o, DEr (C.plus D1 o) te me)
    (O1 : Ok C σ H1 ρ1) (hD : H1 D1 = none) (w : WalkD U (Av C σ) H1 J ds) {accF : List D} {ρ' : Env} (run : compL vs b mc me ds [] ρ1 = some (accF, ρ'))
    (fin : ∀ o H', Ok (C.plus D1 o) σ H' ρ' → Ext (Av C σ) H1 (Av (C.plus D1 o) σ) H' → Own U (Av (C.plus D1 o) σ) H' (.ref D1) (.lst accF) → Qd H') :
    ∃ W : Nat → Nat → Hp → Prop, (∃ m, W 0 m (upd H1 D1 (.lst []))) ∧ ∀ i m H, W i m H →
      (J.stop i H ∧ Qd H) ∨ (J.go i H ∧ ∃ Nx : Hp → Prop, (∀ H', Nx H' → ∃ m', m' < m ∧ W (i + 1) m' H') ∧ ∀ x H', J.yld i H x H' → g x (L2.wipe σ vs) H' fun σ2 H2 => L2.wipe σ2 vs = L2.wipe σ vs ∧ tt σ2 H2 fun b H3 =>
        if b = true then te σ2 H3 fun y H4 => ∃ acc, H4 D1 = some (.lst acc) ∧ acc.length < sizeLine ∧ Nx (upd H4 D1 (.lst (acc ++ [y]))) else Nx H3) := by
  obtain ⟨G, Y, wk, wst⟩ := w
  let A2 : Ad := Av (C.plus D1 (.lst [])) σ
  refine lc_it wk (fun i H => ∃ ρi acc accV, Ok (C.plus D1 (.lst accV)) σ H ρi ∧ Ext (Av C σ) H1 A2 H ∧ IsAll U A2 H accV acc ∧ acc.length ≤ maxL ∧ compL vs b mc me (ds.drop i) acc ρi = some (accF, ρ')) ?_ ?_ ?_ ?_
  · exact ⟨ρ1, [], [], O1.plus hD (Same.new hD) upd_same, O1.extPlus hD (Same.new hD), .nil, Nat.zero_le _, run⟩
  · rintro i H hi ⟨ρi, acc, accV, O, x, ia, hl, r⟩
    exact (wst A2 H x O.al).1
  · rintro i x H H' hi ⟨ρi, acc, accV, O, xx, ia, hl, r⟩ y
    obtain ⟨sH, d, hd, ix⟩ := (wst A2 H xx O.al).2 i x H' hi y
    have O' := O.same sH
    rw [List.drop_eq_getElem_cons hi] at r
    have hdi : ds[i] = d := by
      rw [List.getElem?_eq_getElem hi] at hd
      exact Option.some.inj hd
    rw [hdi, compL] at r
    obtain ⟨Ow, aw⟩ := O'.wipe (vs := vs) hv
    cases hb : b d (wipeE ρi vs) with
    | none => rw [hb] at r; cases r
    | some ρa =>
    rw [hb] at r
    refine hg _ x d _ H' _ ρa _ Ow (by rw [aw]; exact ix) hb fun σ2 O2 f2 a2 => ?_
    have f3 : Off vs σ σ2 := off_wipe.trans f2
    have a3 : Av (C.plus D1 (.lst accV)) σ2 = A2 := a2.trans aw
    refine ⟨wipe_off f3, ?_⟩
    cases hc : mc ρa with
    | none => simp only [hc] at r; cases r
    | some q =>
    cases q with
    | ex c z ρ2 => simp only [hc] at r; cases r
    | ok bb ρ2 =>
    refine ht _ σ2 H' ρa _ _ O2 hc fun H3 O3 x3 => ?_
    rw [a3] at x3
    have k3 : H3 D1 = some (.lst accV) := (O3.hold D1 (.lst accV) (by show (if D1 = D1 then _ else _) = _; rw [if_pos rfl])).1
    cases bb with
    | false =>
      simp only [hc] at r
      rw [if_neg (by decide)]
      have xx3 : Ext (Av C σ) H1 A2 H3 := (xx.trans (Ext.same sH)).trans x3
      exact ⟨_, acc, accV, O'.back O3 x3 hv a3 f3, xx3, (ia.same sH).ext x3, hl, r⟩
    | true =>
      simp only [hc] at r
      rw [if_pos rfl]
      cases hee : me ρ2 with
      | none => simp only [hee] at r; cases r
      | some q =>
      cases q with
      | ex c z ρ3 => simp only [hee] at r; cases r
      | ok yv ρ3 =>
      simp only [hee] at r
      by_cases hlt : acc.length < maxL
      · rw [if_pos hlt] at r
        refine he _ σ2 H3 ρ2 _ _ O3 hee fun v H4 O4 x4 i4 => ?_
        rw [a3] at x4 i4
        have k4 : H4 D1 = some (.lst accV) := (O4.hold D1 (.lst accV) (by show (if D1 = D1 then _ else _) = _; rw [if_pos rfl])).1
        have e4 := ((ia.same sH).ext x3).ext x4
        refine ⟨accV, k4, by rw [e4.length]; exact smallLt hl, ?_⟩
        have Ob : Ok (C.plus D1 (.lst accV)) σ H4 (putBack ρi vs ρ3) := O'.back O4 (x3.trans x4) hv a3 f3
        have xx4 : Ext (Av C σ) H1 A2 H4 := ((xx.trans (Ext.same sH)).trans x3).trans x4
        have xu : Ext A2 H4 A2 (upd H4 D1 (.lst (accV ++ [v]))) := fun a o ea na => ⟨by
          rw [upd_ne (fun z => na (.inl (.inr z)))]; exact ea, na⟩
        refine ⟨_, acc ++ [yv], accV ++ [v], Ob.upHold (O1.H0 hD), xx4.trans xu, (e4.append (.cons i4 .nil)).ext xu, by rw [List.length_append]; exact hlt, r⟩
      · rw [if_neg hlt] at r; cases r
  · rintro H ⟨ρi, acc, accV, O, x, ia, hl, r⟩
    rw [List.drop_length, compL] at r
    cases r
    have k : H D1 = some (.lst accV) := (O.hold D1 (.lst accV) (by show (if D1 = D1 then _ else _) = _; rw [if_pos rfl])).1
    exact fin _ H O x ⟨D1, rfl, .inl ⟨accV, accF, k, ia, rfl⟩⟩
theorem DIr.then {w : TI} {m : M (List D)} {α : Type} {k : List D → M α} {σ : L2.St} {H : Hp} {ρ : Env} {r : Rs α} {R : It → Hp → Prop} (h : DIr C w m) (O : Ok C σ H ρ) (e : M.bind m k ρ = some r)
    (hx : ∀ c x ρ', r = .ex c x ρ' → ∀ cv dv H', Ok C σ H' ρ' → Ext (Av C σ) H (Av C σ) H' → Exc U (Av C σ) H' c x cv dv → C.E σ cv dv H')
    (hk : ∀ ds ρ' J H', Ok C σ H' ρ' → Ext (Av C σ) H (Av C σ) H' → WalkD U (Av C σ) H' J ds → k ds ρ' = some r → R J H') : w σ H R := by
  cases hm : m ρ with
  | none => rw [bind_none hm] at e; cases e
  | some q =>
    cases q with
    | ok d ρ' =>
      rw [bind_ok hm] at e
      exact h σ H ρ _ R O hm fun J H' O' x i => hk d ρ' J H' O' x i e
    | ex c x ρ' =>
      rw [bind_ex hm] at e
      cases e
      exact h σ H ρ _ R O hm (hx c x ρ' rfl)
def DTs (X : Cx) {U : Un} (C : Cz U) (ifs : List Expr) (t : TT) (m : M Bool) : Prop := PTs X ifs t ∧ DTr C t m
theorem dts_nil : DTs X C [] tYes mYes := ⟨pts_nil, fun σ H ρ r Q O e p => by cases e; exact p H O Ext.refl⟩
theorem dts_one {c : Expr} {t : TT} {m : M Bool} (h : DT X C c t m) : DTs X C [c] t m := ⟨pts_one h.1, h.2⟩
variable {vs : List Nat}
theorem dfr_comp (hvs : vs = own.map (·.2)) (hv : ∀ v ∈ vs, v ∉ C.own) (hi : DIr C wi mi) (hg : ∀ D o, DGr (C.plus D o) vs g b) (ht : ∀ D o, DTr (C.plus D o) tt mc) (he : ∀ D o, DEr (C.plus D o) te me) : DFr C (tLc wi g tt te vs) (mComp vs b mc me mi) := by
  intro σ H ρ r Q O e p
  refine DIr.then hi O e p.ex fun ds ρ1 J H1 O1 x1 w1 e1 => ?_
  intro D1 hD
  cases hr : compL vs b mc me ds [] ρ1 with
  | none => simp only [hr] at e1; cases e1
  | some q =>
    obtain ⟨acc, ρ'⟩ := q
    simp only [hr] at e1
    cases e1
    refine comp_run C vs b mc me hv (hg D1) (ht D1) (he D1) O1 hD w1 hr fun o H' O' x i => ?_
    exact p D1 o H' (O1.alloc x1 D1 hD) O' (x1.trans x) i
/-- [elt for tg in iter if ..] -/
theorem df_comp (hc : X.calm = true) (hN : X.N.Nodup) (hi : DI X C tg iter wi mi) (ok : BlkOk X.N X.env.scope scope own) (hvs : vs = own.map (·.2)) (hv : ∀ v ∈ vs, v ∉ C.own)
    (hg : ∀ (D : Addr) (o : HO) (s : Shared) (H : Hp) (C0 : Addr) (cl : List (Str × Addr)) (fp : List Addr), DG (X.blk s H scope (compEnvC scope cl C0 X.env) fp) (C.plus D o) vs tg g b)
    (ht : ∀ (D : Addr) (o : HO) (s : Shared) (H : Hp) (C0 : Addr) (cl : List (Str × Addr)) (fp : List Addr), DTs (X.blk s H scope (compEnvC scope cl C0 X.env) fp) (C.plus D o) ifs tt mc)
    (he : ∀ (D : Addr) (o : HO) (s : Shared) (H : Hp) (C0 : Addr) (cl : List (Str × Addr)) (fp : List Addr), DE (X.blk s H scope (compEnvC scope cl C0 X.env) fp) (C.plus D o) elt te me) (hs : ∀ x, foldedSetIterable iter X.env x = pure x := by intro _; rfl) :
    DF X C (.ListComp elt [⟨tg, iter, ifs, 0⟩] scope pos) (tLc wi g tt te vs) (mComp vs b mc me mi) := by
  refine ⟨?_, dfr_comp hvs hv hi.2 (fun D o => (hg D o X.s_0 X.H_0 0 [] []).2) (fun D o => (ht D o X.s_0 X.H_0 0 [] []).2) fun D o => (he D o X.s_0 X.H_0 0 [] []).2⟩
  subst hvs
  exact pe_lc hc hN hi.1 ok (fun s H C0 cl fp => (hg 0 (.lst []) s H C0 cl fp).1) (fun s H C0 cl fp => (ht 0 (.lst []) s H C0 cl fp).1) (fun s H C0 cl fp => (he 0 (.lst []) s H C0 cl fp).1) hs
end
/-! ### statements -/
inductive Fl where
  | nx | rt (d : D) | bk | ct
def Rt {U : Un} (C : Cz U) : Ad := fun a => C.S0 a ∨ ∃ j, (j, a) ∈ C.io
def PostS {U : Un} (C : Cz U) (σ : L2.St) (H : Hp) : Rs Fl → Ends → Prop
  | .ok .nx ρ', Dn => ∀ σ' H', Ok C σ' H' ρ' → Ext (Av C σ) H (Av C σ') H' → Dn.nx σ' H'
  | .ok (.rt d) ρ', Dn => ∀ v σ' H', Ok C σ' H' ρ' → Is U (Rt C) H' v d → Dn.rt v H'
  | .ok .bk ρ', Dn => ∀ σ' H', Ok C σ' H' ρ' → Ext (Av C σ) H (Av C σ') H' → Dn.bk σ' H'
  | .ok .ct ρ', Dn => ∀ σ' H', Ok C σ' H' ρ' → Ext (Av C σ) H (Av C σ') H' → Dn.ct σ' H'
  | .ex c x ρ', _ => ∀ cv dv σ' H', Ok C σ' H' ρ' → Exc U (Av C σ') H' c x cv dv → C.E σ' cv dv H'
def DSr {U : Un} (C : Cz U) (t : TS) (m : M Fl) : Prop := ∀ σ H ρ r Dn, Ok C σ H ρ → m ρ = some r → PostS C σ H r Dn → t Dn σ H
def DS (X : Cx) {U : Un} (C : Cz U) (st : Stmt) (t : TS) (m : M Fl) : Prop := PS X st t ∧ DSr C t m
def DSs (X : Cx) {U : Un} (C : Cz U) (st : List Stmt) (t : TS) (m : M Fl) : Prop := PSs X st t ∧ DSr C t m
theorem PostS.ex {U : Un} {C : Cz U} {σ : L2.St} {H : Hp} {r : Rs Fl} {Dn : Ends} (p : PostS C σ H r Dn) : ∀ c x ρ', r = .ex c x ρ' → ∀ cv dv H', Ok C σ H' ρ' → Ext (Av C σ) H (Av C σ) H' → Exc U (Av C σ) H' c x cv dv → C.E σ cv dv H' := by
  rintro c x ρ' rfl cv dv H' O _ i
  exact p cv dv σ H' O i
theorem PostS.later {U : Un} {C : Cz U} {σ σ1 : L2.St} {H H1 : Hp} {r : Rs Fl} {Dn : Ends} (p : PostS C σ H r Dn) (x : Ext (Av C σ) H (Av C σ1) H1) : PostS C σ1 H1 r Dn := by
  cases r with
  | ok d ρ' => cases d with
    | nx => exact fun σ' H' O y => p σ' H' O (x.trans y)
    | rt d => exact p
    | bk => exact fun σ' H' O y => p σ' H' O (x.trans y)
    | ct => exact fun σ' H' O y => p σ' H' O (x.trans y)
  | ex c e ρ' => exact p
def sPass : M Fl := M.pure .nx
def sSeq (a b : M Fl) : M Fl := M.bind a fun f => match f with
  | .nx => b
  | f => M.pure f
def sSet (i : Nat) (m : M D) : M Fl := M.bind m fun d ρ => some (.ok .nx (ρ.set i (some d)))
def sBind (b : Bd) (m : M D) : M Fl := M.bind m fun d ρ => match b d ρ with
  | some ρ' => some (.ok .nx ρ')
  | none => none
def sDo (m : M D) : M Fl := M.bind m fun _ => M.pure .nx
def sRet (m : M D) : M Fl := M.bind m fun d => M.pure (.rt d)
def sRetOwn (i : Nat) : M Fl := fun ρ => match ρ[i]? with
  | some (some d) => some (.ok (.rt d) ρ)
  | _ => none
theorem rt_av {U : Un} {C : Cz U} {σ : L2.St} {H : Hp} {ρ : Env} (O : Ok C σ H ρ) : ∀ a, Rt C a → Av C σ a := fun a z => by
  rcases z with z | ⟨j, hj⟩
  · exact .inl z
  · obtain ⟨h1, h2, _⟩ := O.io j a hj
    exact .inr ⟨j, h1, h2⟩
section
variable {X : Cx} {U : Un} {C : Cz U} {pos : Pos} {e : Expr} {te : TE} {me : M D} {st : Stmt} {sts : List Stmt} {t u : TS} {ms mt : M Fl}
theorem dss_nil : DSs X C [] tNext sPass := ⟨pss_nil, fun σ H ρ r Dn O e p => by cases e; exact p σ H O Ext.refl⟩
theorem dss_one (h : DS X C st t ms) : DSs X C [st] t ms := ⟨pss_one h.1, h.2⟩
theorem dsr_seq (h : DSr C t ms) (h2 : DSr C u mt) : DSr C (tSeq t u) (sSeq ms mt) := by
  intro σ H ρ r Dn O e p
  unfold sSeq at e
  cases hm : ms ρ with
  | none => rw [bind_none hm] at e; cases e
  | some q =>
    cases q with
    | ex c x ρ' =>
      rw [bind_ex hm] at e
      cases e
      exact h σ H ρ _ _ O hm p
    | ok f ρ1 =>
      rw [bind_ok hm] at e
      cases f with
      | nx => exact h σ H ρ _ _ O hm fun σ1 H1 O1 x1 => h2 σ1 H1 ρ1 r Dn O1 e (p.later x1)
      | rt d => cases e; exact h σ H ρ _ _ O hm p
      | bk => cases e; exact h σ H ρ _ _ O hm p
      | ct => cases e; exact h σ H ρ _ _ O hm p
theorem dss_cons (h : DS X C st t ms) (h2 : DSs X C sts u mt) : DSs X C (st :: sts) (tSeq t u) (sSeq ms mt) := ⟨pss_cons h.1 h2.1, dsr_seq h.2 h2.2⟩
theorem ds_pass : DS X C (.Pass pos) tNext sPass := ⟨ps_pass, fun σ H ρ r Dn O e p => by cases e; exact p σ H O Ext.refl⟩
theorem ds_break : DS X C (.Break pos) tBreak (M.pure .bk) := ⟨ps_break, fun σ H ρ r Dn O e p => by cases e; exact p σ H O Ext.refl⟩
theorem ds_cont : DS X C (.Continue pos) tCont (M.pure .ct) := ⟨ps_continue, fun σ H ρ r Dn O e p => by cases e; exact p σ H O Ext.refl⟩
theorem ds_expr (h : DE X C e te me) (hs : swapsWith e none pos.line X.env = pure false := by rfl) : DS X C (.Expr e pos) (tDrop te) (sDo me) := by
  refine ⟨ps_expr h.1 hs, fun σ H ρ r Dn O e p => ?_⟩
  refine h.2.then O e p.ex fun d ρ1 v H1 O1 x1 i1 e1 => ?_
  cases e1
  exact p σ H1 O1 x1
theorem ds_ret (h : DE X C e te me) : DS X C (.Return (some e) pos) (tRet te) (sRet me) := by
  refine ⟨ps_ret h.1, fun σ H ρ r Dn O e p => ?_⟩
  refine h.2.then O e p.ex fun d ρ1 v H1 O1 x1 i1 e1 => ?_
  cases e1
  exact p v σ H1 O1 (i1.less (rt_av O1))
theorem ds_retN : DS X C (.Return none pos) tRetN (sRet (mC .non)) := by
  refine ⟨ps_retN, fun σ H ρ r Dn O e p => ?_⟩
  cases e
  exact p .non σ H O .non
/-- return of an owned list: it is the caller's then -/
theorem ds_retOwn {i : Nat} {x : Str} {p0 : Pos} (hN : X.N[i]? = some x := by rfl) (hv : Vis X.env.scope x := by first | exact Or.inl rfl | exact Or.inr (Or.inl rfl) | exact Or.inr (Or.inr rfl)) (n : i ∈ C.own := by exact of_decide_eq_true rfl) (hio : ∀ a, (i, a) ∉ C.io) (hd : (x == ("__debug__" : Str)) = false := by decide)
    (hcd : (x == ("__classdict__" : Str)) = false := by decide) : DS X C (.Return (some (.Name x p0)) pos) (tRet (tVar i)) (sRetOwn i) := by
  refine ⟨ps_ret (pe_var hN hv hd hcd), fun σ H ρ r Dn O e p => ?_⟩
  unfold sRetOwn at e
  split at e
  · rename_i d hd
    cases e
    obtain ⟨v, h1, a, rfl, h2⟩ := O.owned hd n
    refine ⟨.ref a, h1, p (.ref a) σ H O ?_⟩
    have na : ¬ Rt C a := by
      rintro (z | ⟨j, hj⟩)
      · exact (O.new i a n h1).1 z
      · obtain ⟨k1, k2, _⟩ := O.io j a hj
        have := O.dist i j a n k1 h1 k2
        subst this
        exact hio a hj
    rcases h2 with ⟨xs, ds, e1, i1, rfl⟩ | ⟨kv, ks, xs, vs, e1, hk, i1, rfl⟩
    · exact .lst (.inl e1) (i1.less (rt_av O)) na
    · exact .dct e1 (hk.less (rt_av O)) (i1.less (rt_av O)) na
  · cases e
theorem ds_if {c : Expr} {a b : List Stmt} {tc : TT} {mc : M Bool} (hc : DT X C c tc mc) (ha : DSs X C a t ms) (hb : DSs X C b u mt) : DS X C (.If c a b pos) (tIfS tc t u) (mIf mc ms mt) := by
  refine ⟨ps_if hc.1 ha.1 hb.1, fun σ H ρ r Dn O e p => ?_⟩
  refine hc.2.then O e p.ex fun k ρ1 H1 O1 x1 e1 => ?_
  cases k with
  | true => rw [if_pos rfl]; exact ha.2 σ H1 ρ1 r Dn O1 e1 (p.later x1)
  | false => rw [if_neg (by decide)]; exact hb.2 σ H1 ρ1 r Dn O1 e1 (p.later x1)
/-- x = e, data -/
theorem ds_set {i : Nat} {x : Str} {pos' : Pos} (hN : X.N.Nodup) (hi : X.N[i]? = some x) (hx : Loc X.env.scope x) (h : DE X C e te me) (n : i ∉ C.own := by exact of_decide_eq_false rfl) (hs : swapsWith e (some (.Name x pos')) pos.line X.env = pure false := by rfl)
    (hf : X.fn x = true ∨ X.env.scope.names.lookup x = some .local := by first | exact .inl rfl | exact .inr rfl | assumption) : DS X C (.Assign [.Name x pos'] e pos) (tAsg te (gName i)) (sSet i me) := by
  refine ⟨ps_set hN hi hx h.1 hs hf, fun σ H ρ r Dn O e p => ?_⟩
  refine h.2.then O e p.ex fun d ρ1 v H1 O1 x1 i1 e1 => ?_
  cases e1
  exact p _ H1 (O1.set n i1) (by rw [av_set n]; exact x1)
theorem dsr_setF {i : Nat} {tf : TE} {mf : M D} (h : DFr C tf mf) (n : i ∈ C.own) (hio : ∀ a, (i, a) ∉ C.io) : DSr C (tAsg tf (gName i)) (sSet i mf) := by
  intro σ H ρ r Dn O e p
  unfold sSet at e
  cases hm : mf ρ with
  | none => rw [bind_none hm] at e; cases e
  | some q =>
    cases q with
    | ex c x ρ' =>
      rw [bind_ex hm] at e
      cases e
      exact h σ H ρ _ _ O hm (p.ex c x ρ' rfl)
    | ok d ρ1 =>
      rw [bind_ok hm] at e
      cases e
      refine h σ H ρ _ _ O hm fun a o H' hn O' x' i' => ?_
      have nS : ¬ C.S0 a := fun z => O.notAv hn (.inl z)
      refine p _ H' (Ok.setOwn (fun b o2 e => (O.hold b o2 e).2) O' n hio (O.H0 hn) nS i') fun b ob eb nb => ?_
      obtain ⟨h1, h2⟩ := x' b ob eb nb
      refine ⟨h1, ?_⟩
      rintro (z | ⟨j, hj, ej⟩)
      · exact h2 (.inl (.inl z))
      · by_cases hij : i = j
        · subst hij
          rw [List.getElem?_set] at ej
          simp only [↓reduceIte] at ej
          split at ej
          · cases ej; rw [hn] at eb; cases eb
          · cases ej
        · rw [List.getElem?_set_ne hij] at ej
          exact h2 (.inr ⟨j, hj, ej⟩)
/-- x = a new list, owned -/
theorem ds_setF {i : Nat} {x : Str} {pos' : Pos} {tf : TE} {mf : M D} (hN : X.N.Nodup) (hi : X.N[i]? = some x) (hx : Loc X.env.scope x) (h : DF X C e tf mf) (hio : ∀ a, (i, a) ∉ C.io) (n : i ∈ C.own := by exact of_decide_eq_true rfl) (hs : swapsWith e (some (.Name x pos')) pos.line X.env = pure false := by rfl)
    (hf : X.fn x = true ∨ X.env.scope.names.lookup x = some .local := by first | exact .inl rfl | exact .inr rfl | assumption) : DS X C (.Assign [.Name x pos'] e pos) (tAsg tf (gName i)) (sSet i mf) :=
  ⟨ps_set hN hi hx h.1 hs hf, dsr_setF h.2 n hio⟩
/-- a target of any form -/
theorem ds_asg {tg : Expr} {g : TG} {b : Bd} {vs : List Nat} (h : DE X C e te me) (hg : DG X C vs tg g b) (hs : swapsWithSole [tg] e pos.line X.env = pure false := by rfl) (hw : swappedStores [tg] e X.env = pure none := by rfl) (h1 : (assignEach [tg] X.env).map (·.2) = [assign tg X.env] := by rfl) : DS X C (.Assign [tg] e pos) (tAsg te g) (sBind b me) := by
  refine ⟨ps_asg h.1 hg.1 hs hw h1, fun σ H ρ r Dn O e p => ?_⟩
  refine h.2.then O e p.ex fun d ρ1 v H1 O1 x1 i1 e1 => ?_
  cases hb : b d ρ1 with
  | none => simp only [hb] at e1; cases e1
  | some ρ2 =>
    simp only [hb] at e1
    cases e1
    exact hg.2 v d σ H1 ρ1 ρ2 _ O1 i1 hb fun σ' O' _ a' => p σ' H1 O' (by rw [a']; exact x1)
theorem mVar_ok {i : Nat} {ρ : Env} {q : Rs D} (h : mVar i ρ = some q) : ∃ d, ρ[i]? = some (some d) ∧ q = .ok d ρ := by
  unfold mVar at h
  split at h
  · rename_i d hd; cases h; exact ⟨d, hd, rfl⟩
  · cases h
/-- x op= e -/
def sAug (i : Nat) (f : D → D → Option D) (m : M D) : M Fl := M.bind (mVar i) fun x => M.bind m fun y => M.bind (M.opt (f x y)) fun z ρ => some (.ok .nx (ρ.set i (some z)))
theorem ds_aug {i : Nat} {x : Str} {op : Operator} {f : D → D → Option D} {pos' : Pos} (hN : X.N.Nodup) (hi : X.N[i]? = some x) (hx : Loc X.env.scope x) (ho : PIp X op (rD2 U f)) (h : DE X C e te me) (n : i ∉ C.own := by exact of_decide_eq_false rfl)
    (hf : X.fn x = true ∨ X.env.scope.names.lookup x = some .local := by first | exact .inl rfl | exact .inr rfl | assumption) : DS X C (.AugAssign (.Name x pos') op e pos) (tAug i te (rD2 U f)) (sAug i f me) := by
  refine ⟨ps_aug hN hi hx h.1 ho hf, fun σ H ρ r Dn O e p => ?_⟩
  unfold sAug at e
  cases hv : mVar i ρ with
  | none => rw [bind_none hv] at e; cases e
  | some q =>
    obtain ⟨d, hd, rfl⟩ := mVar_ok hv
    rw [bind_ok hv] at e
    obtain ⟨v, h1, h2⟩ := O.var hd n
    refine ⟨v, h1, ?_⟩
    refine h.2.then O e p.ex fun y ρ1 w H1 O1 x1 i1 e1 => ?_
    obtain ⟨z, hz, e2⟩ := bind_opt_ok e1
    cases e2
    exact ⟨Av C σ, d, y, z, O1.al, h2.ext x1, i1, hz, fun w2 H2 s2 i2 => p _ H2 ((O1.same s2).set n i2) (by rw [av_set n]; exact x1.trans (Ext.same s2))⟩
/-! loops -/
def forL (b : Bd) (body : M Fl) : List D → M Fl
  | [] => M.pure .nx
  | d :: ds => fun ρ => match b d ρ with
    | none => none
    | some ρ1 => match body ρ1 with
      | some (.ok .nx ρ2) => forL b body ds ρ2
      | some (.ok .ct ρ2) => forL b body ds ρ2
      | some (.ok .bk ρ2) => some (.ok .nx ρ2)
      | some (.ok (.rt x) ρ2) => some (.ok (.rt x) ρ2)
      | some (.ex c x ρ2) => some (.ex c x ρ2)
      | none => none
def sFor (b : Bd) (mi : M (List D)) (body : M Fl) : M Fl := M.bind mi fun ds => forL b body ds
theorem for_run {J : It} {ds : List D} {g : TG} {b : Bd} {vs : List Nat} {tb : TS} {mb : M Fl} (hg : DGr C vs g b) (hb : DSr C tb mb) {σ : L2.St} {H : Hp} {ρ : Env} (O : Ok C σ H ρ) (w : WalkD U (Av C σ) H J ds) {r : Rs Fl} {Dn : Ends} (run : forL b mb ds ρ = some r) (p : PostS C σ H r Dn) :
    ∃ W : Nat → Nat → L2.St → Hp → Prop, (∃ m, W 0 m σ H) ∧ ∀ i m σ H, W i m σ H →
      (J.stop i H ∧ Dn.nx σ H) ∨ (J.go i H ∧ ∃ N : L2.St → Hp → Prop, (∀ σ' H', N σ' H' → ∃ m', m' < m ∧ W (i + 1) m' σ' H') ∧ ∀ x H', J.yld i H x H' → g x σ H' fun σ2 H2 => tb { Dn with nx := N, ct := N, bk := Dn.nx } σ2 H2) := by
  obtain ⟨G, Y, wk, wst⟩ := w
  refine for_it wk (fun i σ1 H1 => ∃ ρ1, Ok C σ1 H1 ρ1 ∧ Ext (Av C σ) H (Av C σ1) H1 ∧ forL b mb (ds.drop i) ρ1 = some r) ⟨ρ, O, Ext.refl, run⟩ ?_ ?_ ?_
  · rintro i σ1 H1 hi ⟨ρ1, O1, x1, _⟩
    exact (wst _ H1 x1 O1.al).1
  · rintro i x σ1 H1 H' hi ⟨ρ1, O1, x1, e⟩ y
    obtain ⟨sH, d, hd, ix⟩ := (wst _ H1 x1 O1.al).2 i x H' hi y
    have O' := O1.same sH
    have x' : Ext (Av C σ) H (Av C σ1) H' := x1.trans (Ext.same sH)
    rw [List.drop_eq_getElem_cons hi] at e
    have hdi : ds[i] = d := by
      rw [List.getElem?_eq_getElem hi] at hd
      exact Option.some.inj hd
    rw [hdi, forL] at e
    cases hbd : b d ρ1 with
    | none => simp only [hbd] at e; cases e
    | some ρ2 =>
    simp only [hbd] at e
    refine hg x d σ1 H' ρ1 ρ2 _ O' ix hbd fun σ2 O2 _ a2 => ?_
    have x2 : Ext (Av C σ) H (Av C σ2) H' := by rw [a2]; exact x'
    cases hmb : mb ρ2 with
    | none => simp only [hmb] at e; cases e
    | some q =>
    refine hb σ2 H' ρ2 q _ O2 hmb ?_
    cases q with
    | ex c z ρ3 =>
      simp only [hmb] at e
      cases e
      exact fun cv dv σ' H2 O3 i3 => p cv dv σ' H2 O3 i3
    | ok f ρ3 =>
      cases f with
      | nx => simp only [hmb] at e; exact fun σ' H2 O3 x3 => ⟨ρ3, O3, x2.trans x3, e⟩
      | ct => simp only [hmb] at e; exact fun σ' H2 O3 x3 => ⟨ρ3, O3, x2.trans x3, e⟩
      | bk => simp only [hmb] at e; cases e; exact fun σ' H2 O3 x3 => p σ' H2 O3 (x2.trans x3)
      | rt z => simp only [hmb] at e; cases e; exact fun v σ' H2 O3 i3 => p v σ' H2 O3 i3
  · rintro σ1 H1 ⟨ρ1, O1, x1, e⟩
    rw [List.drop_length, forL] at e
    cases e
    exact p σ1 H1 O1 x1
theorem ds_for {iter tg : Expr} {body : List Stmt} {wi : TI} {g : TG} {tb : TS} {b : Bd} {vs : List Nat} {mi : M (List D)} {mb : M Fl} (hp : PassesOwn (model X.prog X.w) X.A X.env X.xe) (hc : X.calm = true) (hi : DI X C tg iter wi mi) (hg : DG X C vs tg g b) (hb : DSs X C body tb mb) (hs : ∀ x, foldedSetIterable iter X.env x = pure x := by intro _; rfl) :
    DS X C (.For tg iter body [] pos) (tFor wi g tb) (sFor b mi mb) := by
  refine ⟨ps_for hp hc hi.1 hg.1 hb.1 hs, fun σ H ρ r Dn O e p => ?_⟩
  refine DIr.then hi.2 O e p.ex fun ds ρ1 J H1 O1 x1 w1 e1 => ?_
  exact for_run hg.2 hb.2 O1 w1 e1 (p.later x1)
def whileN (c : M Bool) (body : M Fl) : Nat → M Fl
  | 0 => fun _ => none
  | n + 1 => M.bind c fun k => if k = true then fun ρ => match body ρ with
      | some (.ok .nx ρ2) => whileN c body n ρ2
      | some (.ok .ct ρ2) => whileN c body n ρ2
      | some (.ok .bk ρ2) => some (.ok .nx ρ2)
      | some (.ok (.rt x) ρ2) => some (.ok (.rt x) ρ2)
      | some (.ex c x ρ2) => some (.ex c x ρ2)
      | none => none
    else M.pure .nx
theorem ds_while {c : Expr} {body : List Stmt} {tc : TT} {tb : TS} {mc : M Bool} {mb : M Fl} {n : Nat} (hp : PassesOwn (model X.prog X.w) X.A X.env X.xe) (hc : DT X C c tc mc) (hb : DSs X C body tb mb) : DS X C (.While c body [] pos) (tWhile tc tb) (whileN mc mb n) := by
  refine ⟨ps_while hp hc.1 hb.1, fun σ H ρ r Dn O e p => ?_⟩
  refine ⟨fun m σ1 H1 => ∃ ρ1, Ok C σ1 H1 ρ1 ∧ Ext (Av C σ) H (Av C σ1) H1 ∧ whileN mc mb m ρ1 = some r, ⟨n, ρ, O, Ext.refl, e⟩, ?_⟩
  rintro m σ1 H1 ⟨ρ1, O1, x1, e1⟩
  cases m with
  | zero => cases e1
  | succ m =>
  rw [whileN] at e1
  refine hc.2.then O1 e1 (p.later x1).ex fun k ρ2 H2 O2 x2 e2 => ?_
  cases k with
  | false =>
    rw [if_neg (by decide)] at e2 ⊢
    cases e2
    exact p σ1 H2 O2 (x1.trans x2)
  | true =>
    rw [if_pos rfl] at e2 ⊢
    refine ⟨fun σ' H' => ∃ ρ', Ok C σ' H' ρ' ∧ Ext (Av C σ) H (Av C σ') H' ∧ whileN mc mb m ρ' = some r, fun σ' H' q => ⟨m, Nat.lt_succ_self m, q⟩, ?_⟩
    cases hmb : mb ρ2 with
    | none => simp only [hmb] at e2; cases e2
    | some q =>
    have x12 := x1.trans x2
    refine hb.2 σ1 H2 ρ2 q _ O2 hmb ?_
    cases q with
    | ex c z ρ3 =>
      simp only [hmb] at e2
      cases e2
      exact fun cv dv σ' H2 O3 i3 => p cv dv σ' H2 O3 i3
    | ok f ρ3 =>
      cases f with
      | nx => simp only [hmb] at e2; exact fun σ' H3 O3 x3 => ⟨ρ3, O3, x12.trans x3, e2⟩
      | ct => simp only [hmb] at e2; exact fun σ' H3 O3 x3 => ⟨ρ3, O3, x12.trans x3, e2⟩
      | bk => simp only [hmb] at e2; cases e2; exact fun σ' H3 O3 x3 => p σ' H3 O3 (x12.trans x3)
      | rt z => simp only [hmb] at e2; cases e2; exact fun v σ' H3 O3 i3 => p v σ' H3 O3 i3
end
end Bx
/-! Owned lists changed; defs called; defs. -/
namespace Bx
open PySem PySem.Spec PyProof.Rows L2
section
variable {U : Un} {C : Cz U} {σ : L2.St} {H H' : Hp} {ρ : Env} {i : Nat} {a : Addr} {d : D}
/-- behind a change of an owned object, whoever made it -/
theorem Ok.changed (O : Ok C σ H ρ) (hi : i ∈ C.own) (ea : σ[i]? = some (some (.ref a))) (k : ∀ b o, H b = some o → b ≠ a → H' b = some o) (al : Al (Av C σ) H') (w : Own U (Av C σ) H' (.ref a) d) : Ok C σ H' (ρ.set i (some d)) ∧ Ext (Av C σ) H (Av C σ) H' := by
  have av : Av C σ a := .inr ⟨i, hi, ea⟩
  have x : Ext (Av C σ) H (Av C σ) H' := fun b o e n => ⟨k b o e (fun z => n (by rw [z]; exact av)), n⟩
  refine ⟨⟨by rw [List.length_set]; exact O.len, fun j e hj => ?_, O.dist, al, fun b o e n => ?_, O.new, O.io, fun b o e => ?_⟩, x⟩
  · by_cases hij : i = j
    · subst hij
      have hl : i < ρ.length := by
        have := (List.getElem?_eq_some_iff.mp hj).1
        rwa [List.length_set] at this
      rw [List.getElem?_set_self hl] at hj
      cases hj
      exact ⟨.ref a, ea, fun z => absurd hi z, fun _ => w⟩
    · rw [List.getElem?_set_ne hij] at hj
      obtain ⟨v, h1, h2, h3⟩ := O.sl j e hj
      refine ⟨v, h1, fun n => (h2 n).ext x, fun n => (h3 n).ext x fun b o ev eb => k b o eb fun z => ?_⟩
      subst ev z
      exact hij (O.dist i j b hi n ea h1)
  · refine k b o (O.keep b o e n) fun z => ?_
    subst z
    rcases (O.new i b hi ea).2 with q | q
    · exact n i q
    · rw [q] at e; cases e
  · obtain ⟨h1, h2⟩ := O.hold b o e
    exact ⟨k b o h1 fun z => by subst z; exact (O.new i b hi ea).1 h2, h2⟩
theorem Ok.put {xs : List V} {ds : List D} (O : Ok C σ H ρ) (hi : i ∈ C.own) (ea : σ[i]? = some (some (.ref a))) (h : IsAll U (Av C σ) H xs ds) : Ok C σ (upd H a (.lst xs)) (ρ.set i (some (.lst ds))) ∧ Ext (Av C σ) H (Av C σ) (upd H a (.lst xs)) := by
  have av : Av C σ a := .inr ⟨i, hi, ea⟩
  have k : ∀ b o, H b = some o → b ≠ a → upd H a (.lst xs) b = some o := fun b o e n => by rw [upd_ne n]; exact e
  have x : Ext (Av C σ) H (Av C σ) (upd H a (.lst xs)) := fun b o e n => ⟨k b o e (fun z => n (by rw [z]; exact av)), n⟩
  refine O.changed hi ea k (fun b z => ?_) ⟨a, rfl, .inl ⟨xs, ds, upd_same, h.ext x, rfl⟩⟩
  by_cases e : b = a
  · subst e; rw [upd_same]; nofun
  · rw [upd_ne e]; exact O.al b z
theorem Ok.ownL {ds : List D} (O : Ok C σ H ρ) (hi : i ∈ C.own) (e : ρ[i]? = some (some (.lst ds))) : ∃ a xs, σ[i]? = some (some (.ref a)) ∧ H a = some (.lst xs) ∧ IsAll U (Av C σ) H xs ds := by
  obtain ⟨v, h1, a, rfl, h2⟩ := O.owned e hi
  rcases h2 with ⟨xs, ds2, e1, h, q⟩ | ⟨kv, ks, xs, vs, e1, hk, h, q⟩
  · cases q; exact ⟨a, xs, h1, e1, h⟩
  · cases q
end
section
variable {X : Cx} {U : Un} {C : Cz U} {pos : Pos} {e : Expr} {es : List Expr} {te : TE} {tr : TA} {me : M D} {mr : M (List D)}
abbrev VisOf (X : Cx) (x : Str) : Prop := Vis X.env.scope x
def ownAt (i : Nat) {α : Type} (k : List D → M α) : M α := fun ρ => match ρ[i]? with
  | some (some (.lst ds)) => k ds ρ
  | _ => none
theorem ownAt_ok {i : Nat} {α : Type} {k : List D → M α} {ρ : Env} {r : Rs α} (h : ownAt i k ρ = some r) : ∃ ds, ρ[i]? = some (some (.lst ds)) ∧ k ds ρ = some r := by
  unfold ownAt at h
  split at h
  · rename_i ds hd; exact ⟨ds, hd, h⟩
  · cases h
/-- x.append(e) -/
def mApp (i : Nat) (m : M D) : M D := M.bind m fun d => ownAt i fun ds ρ => if ds.length < maxL then some (.ok .non (ρ.set i (some (.lst (ds ++ [d]))))) else none
theorem der_var {i : Nat} {σ : L2.St} {H : Hp} {Q : VK} {a : Addr} (e : σ[i]? = some (some (.ref a))) (q : Q (.ref a) H) : tVar i σ H Q := ⟨.ref a, e, q⟩
/-- a method of an owned list, one argument -/
theorem de_app {i : Nat} {x : Str} {p0 apos : Pos} (h : DE X C e te me) (hN : X.N[i]? = some x := by rfl) (hv : Vis X.env.scope x := by first | exact Or.inl rfl | exact Or.inr (Or.inl rfl) | exact Or.inr (Or.inr rfl)) (n : i ∈ C.own := by exact of_decide_eq_true rfl) (hd : (x == ("__debug__" : Str)) = false := by decide)
    (hcd : (x == ("__classdict__" : Str)) = false := by decide) (hs : starEach (e :: []) X.env = (false, eval e X.env) :: starEach [] X.env := by rfl)
    (hbase : attributeBase (.Name x p0) "append" X.env (eval (.Name x p0) X.env) = eval (.Name x p0) X.env := by rfl)
    (hfew : ((backTo pos (starEach (e :: []) X.env)).all (fun x => !x.1) && (backToKw pos (keywordEach [] X.env)).all (fun x => x.1.isSome)
      && decide ((e :: []).length + ([] : List Keyword).length + (if ([] : List Keyword).isEmpty then 0 else 1) < 30)) = true := by rfl)
    (hline : (apos.endLine == pos.line) = true := by rfl) (hplain : (backTo pos (starEach [] X.env)).any (·.1) = false := by rfl) :
    DE X C (.Call (.Attribute (.Name x p0) "append" apos) (e :: []) [] pos) (tBM X.K "list" rAppend (tVar i) (tCons te tNil)) (ownAt i fun _ => mApp i me) := by
  refine ⟨pe_bm PySem.F.plainAttrs_list PySem.F.slot_list_append PySem.F.type_list_append mt_append (pe_var hN hv hd hcd) (da_cons h da_nil hs).1 hbase hfew hline hs hplain, fun σ H ρ r Q O e p => ?_⟩
  obtain ⟨ds0, h0, e⟩ := ownAt_ok e
  obtain ⟨a, xs0, ea, eh0, _⟩ := O.ownL n h0
  refine ⟨.ref a, ea, .inl ⟨rfl, xs0, .inl (.inl eh0)⟩, ?_⟩
  refine h.2.then O e p.ex fun d ρ1 v H1 O1 x1 i1 e1 => ?_
  obtain ⟨ds, h1, e2⟩ := ownAt_ok e1
  obtain ⟨a', xs, ea', eh, ix⟩ := O1.ownL n h1
  rw [ea] at ea'
  cases ea'
  by_cases hl : ds.length < maxL
  · rw [if_pos hl] at e2
    cases e2
    obtain ⟨O2, x2⟩ := O1.put n ea (ix.append (.cons i1 .nil))
    exact ⟨a, xs, v, rfl, rfl, eh, by rw [ix.length]; exact smallLt (Nat.le_of_lt hl), p .non _ O2 (x1.trans x2) .non⟩
  · rw [if_neg hl] at e2; cases e2
/-- x[k] = e of an owned list -/
def ixNat (n : Nat) (k : Int) : Option Nat := ixN n k
def sSetIx (i : Nat) (me mk : M D) : M Fl := M.bind me fun d => ownAt i fun _ => M.bind mk fun k => ownAt i fun ds ρ => match k with
  | .int j => match ixN ds.length j with
    | some t => some (.ok .nx (ρ.set i (some (.lst (ds.set t d)))))
    | none => none
  | _ => none
theorem ds_setIx {i : Nat} {x : Str} {p0 p1 : Pos} {k : Expr} {tk : TE} {mk : M D} (h : DE X C e te me) (hk : DE X C k tk mk) (hN : X.N[i]? = some x := by rfl) (hv : Vis X.env.scope x := by first | exact Or.inl rfl | exact Or.inr (Or.inl rfl) | exact Or.inr (Or.inr rfl)) (n : i ∈ C.own := by exact of_decide_eq_true rfl)
    (hs : swapsWithSole [.Subscript (.Name x p0) k p1] e pos.line X.env = pure false := by rfl) (hw : swappedStores [.Subscript (.Name x p0) k p1] e X.env = pure none := by rfl) (h1 : (assignEach [.Subscript (.Name x p0) k p1] X.env).map (·.2) = [assign (.Subscript (.Name x p0) k p1) X.env] := by rfl)
    (hpg : PG X (.Subscript (.Name x p0) k p1) (gSub (tVar i) tk rSetL)) :
    DS X C (.Assign [.Subscript (.Name x p0) k p1] e pos) (tAsg te (gSub (tVar i) tk rSetL)) (sSetIx i me mk) := by
  refine ⟨ps_asg h.1 hpg hs hw h1, fun σ H ρ r Dn O e p => ?_⟩
  refine h.2.then O e p.ex fun d ρ1 v H1 O1 x1 i1 e1 => ?_
  obtain ⟨ds0, h0, e1⟩ := ownAt_ok e1
  obtain ⟨a, xs0, ea, eh0, _⟩ := O1.ownL n h0
  refine ⟨.ref a, ea, ?_⟩
  refine hk.2.then O1 e1 (p.later x1).ex fun kd ρ2 kv H2 O2 x2 i2 e2 => ?_
  obtain ⟨ds, h2, e3⟩ := ownAt_ok e2
  obtain ⟨a', xs, ea', eh, ix⟩ := O2.ownL n h2
  rw [ea] at ea'
  cases ea'
  cases kd with
  | int j =>
    simp only at e3
    cases ht : ixN ds.length j with
    | none => simp only [ht] at e3; cases e3
    | some t =>
      simp only [ht] at e3
      cases e3
      obtain ⟨O3, x3⟩ := O2.put n ea (ix.set t (i1.ext x2))
      exact ⟨a, xs, j, t, rfl, i2.int_inv, eh, by rw [ix.length]; exact ht, p σ _ O3 ((x1.trans x2).trans x3)⟩
  | _ => cases e3
/-! ### calls of defs -/
inductive FR where
  | ok (d o : D)
  | ex (c : Str) (x o : D)
def ArgsOk (U : Un) (A : Ad) (H : Hp) (io : Option Nat) (vs : List V) (ds : List D) : Prop := vs.length = ds.length ∧ ∀ (j : Nat) (v : V) (d : D), vs[j]? = some v → ds[j]? = some d → (io ≠ some j → Is U A H v d) ∧ (io = some j → Own U A H v d ∧ ∀ a, v = .ref a → A a)
def KeepIo (io : Option Nat) (vs : List V) (H H' : Hp) : Prop := ∀ a o, H a = some o → (∀ j, io = some j → vs[j]? ≠ some (.ref a)) → H' a = some o
def IoOk (U : Un) (A : Ad) (H : Hp) (io : Option Nat) (vs : List V) (o : D) : Prop := ∀ j, io = some j → ∃ v, vs[j]? = some v ∧ Own U A H v o
def PostFn (U : Un) (A : Ad) (io : Option Nat) (vs : List V) (H : Hp) (Q : VK) (E : XK) : FR → Prop
  | .ok d o => ∀ v H', KeepIo io vs H H' → IoOk U A H' io vs o → Al A H' → Is U A H' v d → Q v H'
  | .ex c x o => ∀ cv dv H', KeepIo io vs H H' → IoOk U A H' io vs o → Al A H' → Exc U A H' c x cv dv → E cv dv H'
/-- what a def promises: F tells its answer of its arguments -/
def spF (U : Un) (io : Option Nat) (n : Nat) (F : List D → Option FR) : Sp := fun vs H Q E => ∃ A ds r, vs.length = n ∧ Al A H ∧ ArgsOk U A H io vs ds ∧ F ds = some r ∧ PostFn U A io vs H Q E r
def mCall (F : List D → Option FR) (mr : M (List D)) : M D := M.bind mr fun ds ρ => match F ds with
  | some (.ok d _) => some (.ok d ρ)
  | _ => none
def mCallX (F : List D → Option FR) (mr : M (List D)) : M D := M.bind mr fun ds ρ => match F ds with
  | some (.ok d _) => some (.ok d ρ)
  | some (.ex c x _) => some (.ex c x ρ)
  | none => none
def mCallO (F : List D → Option FR) (i : Nat) (mr : M (List D)) : M D := fun ρ0 => match ρ0[i]? with
  | some (some _) => M.bind mr (fun ds ρ => match ρ[i]? with
    | some (some p) => match F (p :: ds) with
      | some (.ok d o) => some (.ok d (ρ.set i (some o)))
      | _ => none
    | _ => none) ρ0
  | _ => none
theorem argsOk_all {U : Un} {A : Ad} {H : Hp} {vs : List V} {ds : List D} (h : IsAll U A H vs ds) : ArgsOk U A H none vs ds := ⟨h.length, fun j v d e1 e2 => ⟨fun _ => by
  obtain ⟨d2, h1, h2⟩ := h.getV e1
  rw [e2] at h1
  cases h1
  exact h2, nofun⟩⟩
theorem ok_same_call {σ : L2.St} {H H' : Hp} {vs : List V} (k : KeepIo none vs H H') : Same H H' := fun a o e => k a o e nofun
variable {k n : Nat} {f : Addr} {fd : FuncData} {ps : List Str} {F : List D → Option FR} {x : Str} {p : Pos}
theorem de_call (ok : FnOk X.prog X.w X.K X.mg X.base CX0 k f fd ps (spF U none n F)) (hr : Room k X.A) (hg : Gl X x) (hm : X.mg x = some (.ref f)) (hk : PySem.W.keepIn X.K (.ref f) = true) (hb : Binds X.K fd ps []) (h : DA X C (e :: es) tr mr) (hn : Many n mr)
    (hdb : (x == ("__debug__" : Str)) = false := by decide) (he : starEach (e :: es) X.env = (false, eval e X.env) :: starEach es X.env := by rfl) (hpl : (backTo pos (starEach es X.env)).any (·.1) = false := by rfl) :
    DE X C (.Call (.Name x p) (e :: es) [] pos) (tCall (spF U none n F) [] E0 tr) (mCall F mr) := by
  refine ⟨pe_call ok hr hg hm hk hb .nil pass0 h.1 hdb he hpl, fun σ H ρ r Q O e q => ?_⟩
  cases hm1 : mr ρ with
  | none => unfold mCall at e; rw [bind_none hm1] at e; cases e
  | some q1 =>
  have hlen : ∀ ds ρ1, q1 = .ok ds ρ1 → ds.length = n := fun ds ρ1 z => by subst z; exact hn _ _ _ hm1
  refine h.2 σ H ρ q1 _ O hm1 ?_
  cases q1 with
  | ex c x ρ' => unfold mCall at e; rw [bind_ex hm1] at e; cases e; exact q
  | ok ds ρ1 =>
  unfold mCall at e
  rw [bind_ok hm1] at e
  intro vs H1 O1 x1 i1
  show spF U none n F (vs ++ []) H1 Q E0
  rw [List.append_nil]
  cases hf : F ds with
  | none => simp only [hf] at e; cases e
  | some fr =>
    cases fr with
    | ex c x o => simp only [hf] at e; cases e
    | ok d o =>
      simp only [hf] at e
      cases e
      refine ⟨Av C σ, ds, _, by rw [i1.length]; exact hlen ds ρ1 rfl, O1.al, argsOk_all i1, hf, fun v H' kp io al i2 => ?_⟩
      have s : Same H1 H' := fun a o e => kp a o e nofun
      exact q v H' (O1.same s) (x1.trans (Ext.same s)) i2
/-- a call of a def that may raise -/
theorem de_callX {E : L2.St → XK} (hE : C.E = E) (ok : FnOk X.prog X.w X.K X.mg X.base (L2.CX X.prog X.w) k f fd ps (spF U none n F)) (hr : Room k X.A) (hg : Gl X x) (hm : X.mg x = some (.ref f)) (hk : PySem.W.keepIn X.K (.ref f) = true) (hb : Binds X.K fd ps []) (hx : ∀ σ, PassesAt (L2.CX X.prog X.w) X σ (E σ)) (h : DA X C (e :: es) tr mr) (hn : Many n mr)
    (hdb : (x == ("__debug__" : Str)) = false := by decide) (he : starEach (e :: es) X.env = (false, eval e X.env) :: starEach es X.env := by rfl) (hpl : (backTo pos (starEach es X.env)).any (·.1) = false := by rfl) :
    DE X C (.Call (.Name x p) (e :: es) [] pos) (tCallS (spF U none n F) E tr) (mCallX F mr) := by
  subst hE
  refine ⟨pe_callS ok hr hg hm hk hb hx h.1 hdb he hpl, fun σ H ρ r Q O e q => ?_⟩
  cases hm1 : mr ρ with
  | none => unfold mCallX at e; rw [bind_none hm1] at e; cases e
  | some q1 =>
  have hlen : ∀ ds ρ1, q1 = .ok ds ρ1 → ds.length = n := fun ds ρ1 z => by subst z; exact hn _ _ _ hm1
  refine h.2 σ H ρ q1 _ O hm1 ?_
  cases q1 with
  | ex c x ρ' => unfold mCallX at e; rw [bind_ex hm1] at e; cases e; exact q
  | ok ds ρ1 =>
  unfold mCallX at e
  rw [bind_ok hm1] at e
  intro vs H1 O1 x1 i1
  cases hf : F ds with
  | none => simp only [hf] at e; cases e
  | some fr =>
    refine ⟨Av C σ, ds, fr, by rw [i1.length]; exact hlen ds ρ1 rfl, O1.al, argsOk_all i1, hf, ?_⟩
    cases fr with
    | ex c x o =>
      simp only [hf] at e
      cases e
      intro cv dv H' kp io al i2
      have s : Same H1 H' := fun a o e => kp a o e nofun
      exact q cv dv H' (O1.same s) (x1.trans (Ext.same s)) i2
    | ok d o =>
      simp only [hf] at e
      cases e
      intro v H' kp io al i2
      have s : Same H1 H' := fun a o e => kp a o e nofun
      exact q v H' (O1.same s) (x1.trans (Ext.same s)) i2
theorem own_of {U : Un} {A : Ad} {H : Hp} {v : V} {d : D} (h : Own U A H v d) : ∃ a, v = .ref a := let ⟨a, e, _⟩ := h; ⟨a, e⟩
/-- f(x, ..), x an owned list that f may change -/
theorem de_callO {i : Nat} {y : Str} {p0 : Pos} (ok : FnOk X.prog X.w X.K X.mg X.base CX0 k f fd ps (spF U (some 0) (n + 1) F)) (hr : Room k X.A) (hg : Gl X x) (hm : X.mg x = some (.ref f)) (hk : PySem.W.keepIn X.K (.ref f) = true) (hb : Binds X.K fd ps []) (h : DA X C es tr mr) (hn : Many n mr)
    (hN : X.N[i]? = some y := by rfl) (hv : Vis X.env.scope y := by first | exact Or.inl rfl | exact Or.inr (Or.inl rfl) | exact Or.inr (Or.inr rfl)) (ni : i ∈ C.own := by exact of_decide_eq_true rfl) (hd1 : (y == ("__debug__" : Str)) = false := by decide)
    (hcd : (y == ("__classdict__" : Str)) = false := by decide) (hs0 : starEach (.Name y p0 :: es) X.env = (false, eval (.Name y p0) X.env) :: starEach es X.env := by rfl)
    (hdb : (x == ("__debug__" : Str)) = false := by decide) (hpl : (backTo pos (starEach es X.env)).any (·.1) = false := by rfl) :
    DE X C (.Call (.Name x p) (.Name y p0 :: es) [] pos) (tCall (spF U (some 0) (n + 1) F) [] E0 (tCons (tVar i) tr)) (mCallO F i mr) := by
  refine ⟨pe_call ok hr hg hm hk hb .nil pass0 (pa_cons (pe_var hN hv hd1 hcd) h.1 hs0) hdb hs0 hpl, fun σ H ρ r Q O e q => ?_⟩
  unfold mCallO at e
  split at e
  · rename_i d0 h0
    obtain ⟨v0, hσ, a, rfl, _⟩ := O.owned h0 ni
    refine ⟨.ref a, hσ, ?_⟩
    cases hm1 : mr ρ with
    | none => rw [bind_none hm1] at e; cases e
    | some q1 =>
    have hlen : ∀ ds ρ1, q1 = .ok ds ρ1 → ds.length = n := fun ds ρ1 z => by subst z; exact hn _ _ _ hm1
    refine h.2 σ H ρ q1 _ O hm1 ?_
    cases q1 with
    | ex c x ρ' => rw [bind_ex hm1] at e; cases e; exact q
    | ok ds ρ1 =>
    rw [bind_ok hm1] at e
    intro vs H1 O1 x1 i1
    show spF U (some 0) (n + 1) F ((.ref a :: vs) ++ []) H1 Q E0
    rw [List.append_nil]
    split at e
    · rename_i p1 h1
      obtain ⟨v1, hσ1, a1, rfl, w1⟩ := O1.owned h1 ni
      rw [hσ] at hσ1
      cases hσ1
      cases hf : F (p1 :: ds) with
      | none => rw [hf] at e; cases e
      | some fr =>
        cases fr with
        | ex c x o => rw [hf] at e; cases e
        | ok d o =>
          rw [hf] at e
          cases e
          refine ⟨Av C σ, p1 :: ds, _, by rw [List.length_cons, i1.length, hlen ds ρ1 rfl], O1.al, ⟨by rw [List.length_cons, List.length_cons, i1.length], fun j v d e1 e2 => ?_⟩, hf, fun v H' kp io al i2 => ?_⟩
          · cases j with
            | zero =>
              have e1 : some (V.ref a) = some v := e1
              have e2 : some p1 = some d := e2
              cases e1
              cases e2
              exact ⟨fun z => absurd rfl z, fun _ => ⟨⟨a, rfl, w1⟩, fun b eb => by cases eb; exact .inr ⟨i, ni, hσ⟩⟩⟩
            | succ j =>
              have e1 : vs[j]? = some v := by simpa using e1
              have e2 : ds[j]? = some d := by simpa using e2
              obtain ⟨d2, h1, h2⟩ := i1.getV e1
              rw [e2] at h1
              cases h1
              exact ⟨fun _ => h2, nofun⟩
          · obtain ⟨v3, e3, w3⟩ := io 0 rfl
            have e3 : some (V.ref a) = some v3 := e3
            cases e3
            obtain ⟨O2, x2⟩ := O1.changed ni hσ (H' := H') (d := o) (fun b ob eb nb => kp b ob eb fun j ej => by
              cases ej
              show some (V.ref a) ≠ _
              intro z
              cases z
              exact nb rfl) al w3
            exact q v H' O2 (x1.trans x2) i2
    · cases e
  · cases e
end
/-! ### defs -/
def startE (n : Nat) (ds : List D) : Env := ds.map some ++ List.replicate (n - ds.length) none
def ioOut (io : Option Nat) (ρ : Env) : Option D := match io with
  | none => some .non
  | some j => match ρ[j]? with
    | some (some d) => some d
    | _ => none
def fnOf (n : Nat) (io : Option Nat) (m : M Fl) : List D → Option FR := fun ds => match m (startE n ds) with
  | some (.ok (.rt d) ρ) => (ioOut io ρ).map fun o => .ok d o
  | some (.ok .nx ρ) => (ioOut io ρ).map fun o => .ok .non o
  | some (.ex c x ρ) => (ioOut io ρ).map fun o => .ex c x o
  | _ => none
/-- what a def's body is told -/
def czOf (U : Un) (own : List Nat) (io : Option Nat) (pa : Addr) (A : Ad) (H : Hp) (E : XK) : Cz U where
  S0 := fun a => A a ∧ (io ≠ none → a ≠ pa)
  own := own
  io := match io with
    | none => []
    | some j => [(j, pa)]
  H0 := H
  hold := fun _ => none
  E := fun _ => E
section
variable {U : Un} {own : List Nat} {io : Option Nat} {A : Ad} {H : Hp} {E : XK} {N : List Str} {vs : List V} {ds : List D}
theorem start_at {N : List Str} {vs : List V} {i : Nat} {v : V} (h : (L2.start N vs)[i]? = some (some v)) : vs[i]? = some v := by
  unfold L2.start at h
  by_cases hi : i < vs.length
  · rw [List.getElem?_append_left (by rw [List.length_map]; exact hi), List.getElem?_map] at h
    cases hv : vs[i]? with
    | none => rw [hv] at h; cases h
    | some w => rw [hv] at h; cases h; rfl
  · rw [List.getElem?_append_right (by rw [List.length_map]; omega)] at h
    have := List.mem_of_getElem? h
    rw [List.mem_replicate] at this
    exact absurd this.2 nofun
theorem startE_at {n : Nat} {ds : List D} {i : Nat} {v : D} (h : (startE n ds)[i]? = some (some v)) : ds[i]? = some v := by
  unfold startE at h
  by_cases hi : i < ds.length
  · rw [List.getElem?_append_left (by rw [List.length_map]; exact hi), List.getElem?_map] at h
    cases hv : ds[i]? with
    | none => rw [hv] at h; cases h
    | some w => rw [hv] at h; cases h; rfl
  · rw [List.getElem?_append_right (by rw [List.length_map]; omega)] at h
    have := List.mem_of_getElem? h
    rw [List.mem_replicate] at this
    exact absurd this.2 nofun
theorem at_start {N : List Str} {vs : List V} {i : Nat} {v : V} (h : vs[i]? = some v) : (L2.start N vs)[i]? = some (some v) := by
  unfold L2.start
  have hi : i < vs.length := (List.getElem?_eq_some_iff.mp h).1
  rw [List.getElem?_append_left (by rw [List.length_map]; exact hi), List.getElem?_map, h]
  rfl
/-- the start of a body -/
theorem ok_start (al : Al A H) (h : ArgsOk U A H io vs ds) (hl : vs.length ≤ N.length) (hown : ∀ i ∈ own, i < vs.length → io = some i) (hio : ∀ j, io = some j → j ∈ own ∧ j < vs.length) :
    ∃ pa, (∀ j, io = some j → vs[j]? = some (.ref pa)) ∧ Ok (czOf U own io pa A H E) (L2.start N vs) H (startE N.length ds) ∧ (∀ a, A a → Rt (czOf U own io pa A H E) a) := by
  have hpa : ∃ pa, ∀ j, io = some j → vs[j]? = some (.ref pa) := by
    cases io with
    | none => exact ⟨0, nofun⟩
    | some j =>
      obtain ⟨h1, h2⟩ := hio j rfl
      have h3 : j < ds.length := by rw [← h.1]; exact h2
      obtain ⟨_, w⟩ := h.2 j _ _ (List.getElem?_eq_getElem h2) (List.getElem?_eq_getElem h3)
      obtain ⟨⟨a, e, _⟩, _⟩ := w rfl
      exact ⟨a, fun k ek => by cases ek; rw [List.getElem?_eq_getElem h2, e]⟩
  obtain ⟨pa, hpa⟩ := hpa
  have avA : ∀ a, Av (czOf U own io pa A H E) (L2.start N vs) a → A a := by
    rintro a (z | ⟨i, hi, e⟩)
    · exact z.1
    · have e1 := start_at e
      have hi2 : i < vs.length := (List.getElem?_eq_some_iff.mp e1).1
      have hj := hown i hi hi2
      have h3 : i < ds.length := by rw [← h.1]; exact hi2
      obtain ⟨_, w⟩ := h.2 i _ _ e1 (List.getElem?_eq_getElem h3)
      exact (w hj).2 a rfl
  have ioS : ∀ a, A a → Rt (czOf U own io pa A H E) a := fun a z => by
    cases io with
    | none => exact .inl ⟨z, fun q => absurd rfl q⟩
    | some j =>
      by_cases e : a = pa
      · exact .inr ⟨j, by rw [e]; exact List.mem_singleton.mpr rfl⟩
      · exact .inl ⟨z, fun _ => e⟩
  have io_mem : ∀ j a, (j, a) ∈ (czOf U own io pa A H E).io → io = some j ∧ a = pa := by
    intro j a hm
    cases io with
    | none => exact absurd hm (by simp [czOf])
    | some k =>
      have := List.mem_singleton.mp hm
      cases this
      exact ⟨rfl, rfl⟩
  refine ⟨pa, hpa, ⟨?_, fun i d e => ?_, fun i j a hi hj e1 e2 => ?_, fun a z => al a (avA a z), fun a o e _ => e, fun i a hi e => ?_, fun j a hm => ?_, nofun⟩, ioS⟩
  · unfold L2.start startE
    rw [List.length_append, List.length_append, List.length_map, List.length_map, List.length_replicate, List.length_replicate, h.1]
  · have e1 := startE_at e
    have h3 : i < ds.length := (List.getElem?_eq_some_iff.mp e1).1
    have h2 : i < vs.length := by rw [h.1]; exact h3
    obtain ⟨w1, w2⟩ := h.2 i _ d (List.getElem?_eq_getElem h2) e1
    refine ⟨vs[i], at_start (List.getElem?_eq_getElem h2), fun n => ?_, fun hi => ?_⟩
    · exact (w1 fun z => n (hio i z).1).less avA
    · exact (w2 (hown i hi h2)).1.ext (fun a o e n => ⟨e, fun z => n (avA a z)⟩) fun _ _ _ e => e
  · have f1 := start_at e1
    have f2 := start_at e2
    have g1 := hown i hi (List.getElem?_eq_some_iff.mp f1).1
    have g2 := hown j hj (List.getElem?_eq_some_iff.mp f2).1
    rw [g1] at g2
    exact Option.some.inj g2
  · have f1 := start_at e
    have g1 := hown i hi (List.getElem?_eq_some_iff.mp f1).1
    have f2 := hpa i g1
    rw [f1] at f2
    cases f2
    refine ⟨fun z => z.2 (by rw [g1]; nofun) rfl, .inl ?_⟩
    rw [g1]
    exact List.mem_singleton.mpr rfl
  · obtain ⟨g, rfl⟩ := io_mem j a hm
    obtain ⟨h1, h2⟩ := hio j g
    have f := hpa j g
    have h3 : j < ds.length := by rw [← h.1]; exact h2
    obtain ⟨_, w⟩ := h.2 j _ _ f (List.getElem?_eq_getElem h3)
    exact ⟨h1, at_start f, al a ((w g).2 a rfl), fun z => z.2 (by rw [g]; nofun) rfl⟩
/-- a body's end is what its def promises -/
theorem fn_end {mb : M Fl} {t : Addr → Ad → TS} {n : Nat} {Q : VK} (hn : n ≤ N.length) (hown : ∀ i ∈ own, i < n → io = some i) (hio : ∀ j, io = some j → j ∈ own ∧ j < n) (hb : ∀ pa A, DSr (czOf U own io pa A H E) (t pa A) mb)
    (h : spF U io n (fnOf N.length io mb) vs H Q E) : ∃ pa A, t pa A { nx := fun _ H' => Q .non H', rt := Q } (L2.start N vs) H := by
  obtain ⟨A, ds, r, hl, al, ha, hf, p⟩ := h
  obtain ⟨pa, hpa, O, ioS⟩ := ok_start (E := E) (own := own) al ha (by rw [hl]; exact hn) (by rw [hl]; exact hown) (by rw [hl]; exact hio)
  unfold fnOf at hf
  cases hm : mb (startE N.length ds) with
  | none => simp only [hm] at hf; cases hf
  | some q =>
  refine ⟨pa, A, hb pa A _ _ _ _ _ O hm ?_⟩
  have keepE : ∀ σ' H' ρ', Ok (czOf U own io pa A H E) σ' H' ρ' → KeepIo io vs H H' ∧ Al A H' ∧ ∀ o, ioOut io ρ' = some o → IoOk U A H' io vs o := fun σ' H' ρ' O' => by
    refine ⟨fun a o e n => O'.keep a o e fun j hm => ?_, fun a z => O'.al a (rt_av O' a (ioS a z)), fun o ho j hj => ?_⟩
    · cases io with
      | none => exact absurd hm (by simp [czOf])
      | some k =>
        have := List.mem_singleton.mp hm
        cases this
        exact n _ rfl (hpa _ rfl)
    · subst hj
      obtain ⟨k1, k2, _⟩ := O'.io j pa (List.mem_singleton.mpr rfl)
      unfold ioOut at ho
      simp only at ho
      split at ho
      · rename_i d hd
        cases ho
        obtain ⟨v, hv, w⟩ := O'.owned hd k1
        rw [k2] at hv
        cases hv
        exact ⟨_, hpa j rfl, w.ext (fun a o e n => ⟨e, fun z => n (rt_av O' a (ioS a z))⟩) fun _ _ _ e => e⟩
      · cases ho
  cases q with
  | ex c x ρ' =>
    simp only [hm] at hf
    cases ho : ioOut io ρ' with
    | none => rw [ho] at hf; cases hf
    | some o =>
      rw [ho] at hf
      cases hf
      intro cv dv σ' H' O' i'
      obtain ⟨k1, k2, k3⟩ := keepE _ _ _ O'
      refine p cv dv H' k1 (k3 o ho) k2 ⟨i'.1, ?_⟩
      rcases i'.2 with z | ⟨d, v, h1, h2, h3⟩
      · exact .inl z
      · exact .inr ⟨d, v, h1, h2, h3.less fun a z => rt_av O' a (ioS a z)⟩
  | ok f ρ' =>
    cases f with
    | nx =>
      simp only [hm] at hf
      cases ho : ioOut io ρ' with
      | none => rw [ho] at hf; cases hf
      | some o =>
        rw [ho] at hf
        cases hf
        intro σ' H' O' _
        obtain ⟨k1, k2, k3⟩ := keepE _ _ _ O'
        exact p .non H' k1 (k3 o ho) k2 .non
    | rt d =>
      simp only [hm] at hf
      cases ho : ioOut io ρ' with
      | none => rw [ho] at hf; cases hf
      | some o =>
        rw [ho] at hf
        cases hf
        intro v σ' H' O' i'
        obtain ⟨k1, k2, k3⟩ := keepE _ _ _ O'
        exact p v H' k1 (k3 o ho) k2 (i'.less ioS)
    | bk => simp only [hm] at hf; cases hf
    | ct => simp only [hm] at hf; cases hf
variable {P : Program} {w : World} {K : PySem.W.Frag} {mg : Str → Option Value} {base : Heap} {x qual : Str} {st : Stmt} {f : Addr} {fd : FuncData} {ps : List Str} {k : Nat}
/-- THE RULE for a def as data -/
theorem fn_data {mb : M Fl} (F : Fun K x qual st f fd) (S : FnScope N ps (defScope st)) (hn : ps.length ≤ N.length) (hown : ∀ i ∈ own, i < ps.length → io = some i) (hio : ∀ j, io = some j → j ∈ own ∧ j < ps.length)
    (hb : ∀ (cdv : Value) (A : Around) (outer : List PySem.Env) (s : Shared) (H : Hp) (E : XK), Room k (A.deeper (envOfC qual (defScope st) s.heap.objs.size f cdv)) → ∀ (pa : Addr) (A2 : Ad), ∃ t, DSs (cxOf CX0 P w K mg base N qual (defScope st) f cdv A outer s H E).nox (czOf U own io pa A2 H E) (defBody st) t mb) :
    FnOk P w K mg base CX0 (k + 1) f fd ps (spF U io ps.length (fnOf N.length io mb)) := by
  refine F.ok S (fun vs H Q E h => ?_) fun cdv A outer s H vs Q E hr h => ?_
  · obtain ⟨_, _, _, hl, _⟩ := h
    exact hl
  · have d := hb cdv A outer s H E hr
    obtain ⟨pa, A2, q⟩ := fn_end (t := fun pa A2 => Classical.choose (d pa A2)) hn hown hio (fun pa A2 => (Classical.choose_spec (d pa A2)).2) h
    exact ⟨_, (Classical.choose_spec (d pa A2)).1, q⟩
theorem fn_dataX {mb : M Fl} (F : Fun K x qual st f fd) (S : FnScope N ps (defScope st)) (hn : ps.length ≤ N.length) (hown : ∀ i ∈ own, i < ps.length → io = some i) (hio : ∀ j, io = some j → j ∈ own ∧ j < ps.length)
    (hb : ∀ (cdv : Value) (A : Around) (outer : List PySem.Env) (s : Shared) (H : Hp) (E : XK), Room k (A.deeper (envOfC qual (defScope st) s.heap.objs.size f cdv)) → ∀ (pa : Addr) (A2 : Ad), ∃ t, DSs (cxOf (L2.CX P w) P w K mg base N qual (defScope st) f cdv A outer s H E) (czOf U own io pa A2 H E) (defBody st) t mb) :
    FnOk P w K mg base (L2.CX P w) (k + 1) f fd ps (spF U io ps.length (fnOf N.length io mb)) := by
  refine F.okX S (fun vs H Q E h => ?_) fun cdv A outer s H vs Q E hr h => ?_
  · obtain ⟨_, _, _, hl, _⟩ := h
    exact hl
  · have d := hb cdv A outer s H E hr
    obtain ⟨pa, A2, q⟩ := fn_end (t := fun pa A2 => Classical.choose (d pa A2)) hn hown hio (fun pa A2 => (Classical.choose_spec (d pa A2)).2) h
    exact ⟨_, (Classical.choose_spec (d pa A2)).1, q⟩
end
end Bx
/-! Operations by data. -/
namespace Bx
open PySem PySem.Spec PyProof.Rows L2
structure HU (X : Cx) (U : Un) : Prop where
  P : U.P = X.prog
  w : U.w = X.w
  K : U.K = X.K
section
variable {X : Cx} {U : Un}
theorem isStr {U : Un} {A : Ad} {H : Hp} {v : V} {z : Str} (h : Is U A H v (.str z)) : v = .str z := h.str_inv.1
theorem strOk_app {x y : Str} (hx : okS x) (hy : okS y) (h : (x ++ y).length ≤ maxS) : okS (x ++ y) := ⟨h, Pr.strOk_append hx.2 hy.2⟩
def dAdd : D → D → Option D
  | .int i, .int j => some (.int (i + j))
  | .str x, .str y => if (x ++ y).length ≤ maxS then some (.str (x ++ y)) else none
  | .lst xs, .lst ys => if xs.length + ys.length ≤ maxL then some (.lst (xs ++ ys)) else none
  | .tup xs, .tup ys => if xs.length + ys.length ≤ maxL then some (.tup (xs ++ ys)) else none
  | _, _ => none
theorem if_some {p : Prop} [Decidable p] {a d : D} (h : (if p then some a else none) = some d) : p ∧ d = a := by
  by_cases q : p
  · rw [if_pos q] at h; cases h; exact ⟨q, rfl⟩
  · rw [if_neg q] at h; cases h
theorem app_len (x y : Str) : (x ++ y).length = x.length + y.length := Str.length_append ..
theorem is_lstN {A : Ad} {H : Hp} {a : Addr} {xs : List V} {ds : List D} (al : Al A H) (hp : H a = none) (h : IsAll U A H xs ds) : Same H (upd H a (.lst xs)) ∧ Is U A (upd H a (.lst xs)) (.ref a) (.lst ds) := ⟨Same.new hp, Is.newL al hp h⟩
/-- + of two lists that may be frozen or not: as the layer has it for tracked ones -/
theorem o_add : OpR X (binaryOp .Add) (rD2 U dAdd) := by
  intro pins s σ H x y v u Q I rx ry h
  obtain ⟨A, dx, dy, d, al, ix, iy, hf, q⟩ := h
  cases dx with
  | int i => cases dy with
    | int j =>
      cases hf
      rw [ix.int_inv] at rx
      rw [iy.int_inv] at ry
      exact op_add pins s σ H _ _ v u Q I rx ry ⟨i, j, rfl, rfl, q _ H Same.refl' (.int _)⟩
    | _ => cases hf
  | str i => cases dy with
    | str j =>
      obtain ⟨hl, rfl⟩ := if_some hf
      obtain ⟨rfl, hi⟩ := ix.str_inv
      obtain ⟨rfl, hj⟩ := iy.str_inv
      have hl2 := app_len i j
      exact op_add_str pins s σ H _ _ v u Q I rx ry ⟨i, j, rfl, rfl, by rw [← hl2]; exact Nat.le_trans hl (by decide), q _ H Same.refl' (.str _ (strOk_app hi hj hl))⟩
    | _ => cases hf
  | lst xs => cases dy with
    | lst ys =>
      obtain ⟨hl, rfl⟩ := if_some hf
      obtain ⟨a, vs, rfl, ea, ha, na⟩ := ix.lst_inv
      obtain ⟨b, ws, rfl, eb, hb, nb⟩ := iy.lst_inv
      cases rx
      cases ry
      obtain ⟨hz, its, n, r, e⟩ := ea.ok I.hok
      obtain ⟨hz2, its2, n2, r2, e2⟩ := eb.ok I.hok
      have h1 := r.length
      have h2 := r2.length
      have h3 := ha.length
      have h4 := hb.length
      have h5 := smallL hl
      refine PySem.P.add_list e e2 ?_ (by rw [List.size_toArray, List.size_toArray]; omega)
      have ea : its.toArray ++ its2.toArray = (its ++ its2).toArray := by simp
      rw [ea]
      obtain ⟨s1, i1⟩ := is_lstN al I.fresh (ha.append hb)
      exact ⟨.ref _, _, I.lnew (t' := s.toks) (r.append r2) (by rw [List.length_append]; omega), rfl, q _ _ s1 i1⟩
    | _ => cases hf
  | tup xs => cases dy with
    | tup ys =>
      obtain ⟨hl, rfl⟩ := if_some hf
      obtain ⟨a, vs, rfl, ea, ha, na⟩ := ix.tup_inv
      obtain ⟨b, ws, rfl, eb, hb, nb⟩ := iy.tup_inv
      refine op_catA pins s σ H _ _ v u Q I rx ry ⟨a, b, vs, ws, rfl, rfl, .inl (.inl ea), .inl (.inl eb), by rw [ha.length, hb.length]; exact smallL hl, fun h => ?_, fun _ h => ?_, fun _ _ t ht => ?_⟩
      · subst h
        cases ha
        exact q _ H Same.refl' iy
      · subst h
        cases hb
        rw [List.append_nil] at q
        exact q _ H Same.refl' ix
      · exact q _ _ (Same.new ht) (Is.newT al ht (ha.append hb))
    | _ => cases hf
  | _ => cases hf
/-! numbers -/
def dI2 (C : Int → Int → Prop) [∀ i j, Decidable (C i j)] (g : Int → Int → D) : D → D → Option D
  | .int i, .int j => if C i j then some (g i j) else none
  | _, _ => none
theorem dI2_some {C : Int → Int → Prop} [∀ i j, Decidable (C i j)] {g : Int → Int → D} {x y d : D} (h : dI2 C g x y = some d) : ∃ i j, x = .int i ∧ y = .int j ∧ C i j ∧ d = g i j := by
  cases x with
  | int i => cases y with
    | int j =>
      obtain ⟨h1, h2⟩ := if_some (show (if C i j then some (g i j) else none) = some d from h)
      exact ⟨i, j, rfl, rfl, h1, h2⟩
    | _ => cases h
  | _ => cases h
theorem oI {f : Value → Value → Sem Value} {C : Int → Int → Prop} [∀ i j, Decidable (C i j)] {g : Int → Int → Int} (h : OpR X f (rI C fun i j => .int (g i j))) : OpR X f (rD2 U (dI2 C fun i j => .int (g i j))) := by
  intro pins s σ H x y v u Q I rx ry hq
  obtain ⟨A, dx, dy, d, al, ix, iy, hf, q⟩ := hq
  obtain ⟨i, j, rfl, rfl, hc, rfl⟩ := dI2_some hf
  exact h pins s σ H x y v u Q I rx ry ⟨i, j, ix.int_inv, iy.int_inv, hc, q _ H Same.refl' (.int _)⟩
theorem oI0 {f : Value → Value → Sem Value} {g : Int → Int → Int} (h : OpR X f (rI0 fun i j => .int (g i j))) : OpR X f (rD2 U (dI2 (fun _ _ => True) fun i j => .int (g i j))) := by
  intro pins s σ H x y v u Q I rx ry hq
  obtain ⟨A, dx, dy, d, al, ix, iy, hf, q⟩ := hq
  obtain ⟨i, j, rfl, rfl, hc, rfl⟩ := dI2_some hf
  exact h pins s σ H x y v u Q I rx ry ⟨i, j, ix.int_inv, iy.int_inv, q _ H Same.refl' (.int _)⟩
theorem oB0 {f : Value → Value → Sem Value} {g : Int → Int → Bool} (h : OpR X f (rI0 fun i j => .bl (g i j))) : OpR X f (rD2 U (dI2 (fun _ _ => True) fun i j => .bl (g i j))) := by
  intro pins s σ H x y v u Q I rx ry hq
  obtain ⟨A, dx, dy, d, al, ix, iy, hf, q⟩ := hq
  obtain ⟨i, j, rfl, rfl, hc, rfl⟩ := dI2_some hf
  exact h pins s σ H x y v u Q I rx ry ⟨i, j, ix.int_inv, iy.int_inv, q _ H Same.refl' (.bl _)⟩
instance (i j : Int) : Decidable (CMulW i j) := by unfold CMulW; infer_instance
instance (i j : Int) : Decidable (CDivW i j) := by unfold CDivW; infer_instance
instance (i j : Int) : Decidable (Pr.CPowW i j) := by unfold Pr.CPowW; infer_instance
def dSub := dI2 (fun _ _ => True) fun i j => .int (i - j)
def dMul := dI2 CMulW fun i j => .int (i * j)
def dMod := dI2 (fun _ j => 0 < j) fun i j => .int (i % j)
def dFDiv := dI2 CDivW fun i j => .int (i / j)
def dPow := dI2 Pr.CPowW fun i j => .int (i ^ j.toNat)
def dAnd := dI2 (fun _ _ => True) fun i j => .int (Builtin.bitAnd i j)
def dOr := dI2 (fun _ _ => True) fun i j => .int (Builtin.bitOr i j)
theorem o_sub : OpR X (binaryOp .Sub) (rD2 U dSub) := oI0 op_sub
theorem o_mul : OpR X (binaryOp .Mult) (rD2 U dMul) := oI op_mulW
theorem o_mod : OpR X (binaryOp .Mod) (rD2 U dMod) := oI op_mod
theorem o_fdiv : OpR X (binaryOp .FloorDiv) (rD2 U dFDiv) := oI op_fdivW
theorem o_pow : OpR X (binaryOp .Pow) (rD2 U dPow) := oI Pr.op_powW
theorem o_and : OpR X (binaryOp .BitAnd) (rD2 U dAnd) := oI0 op_and
theorem o_or : OpR X (binaryOp .BitOr) (rD2 U dOr) := oI0 op_or
def dNeg : D → Option D
  | .int i => some (.int (-i))
  | _ => none
theorem o_neg : UnR X (unaryOp .USub) (rD1 U dNeg) := by
  intro pins s σ H x v Q I rx h
  obtain ⟨A, dx, d, al, ix, hf, q⟩ := h
  cases dx with
  | int i => cases hf; exact un_neg pins s σ H x v Q I rx ⟨i, ix.int_inv, q _ H Same.refl' (.int _)⟩
  | _ => cases hf
/-! comparisons -/
def dEq (x y : D) : Option D := if eqok x y = true ∧ dep x ≤ 100 then some (.bl (eqD x y)) else none
def dNe (x y : D) : Option D := if eqok x y = true ∧ dep x ≤ 100 then some (.bl (!eqD x y)) else none
end
section
variable {X : Cx} {pins : List (Addr × Obj)} {σ : L2.St} {H : Hp} {s : Shared}
set_option maxHeartbeats 4000000 in
theorem rcAtD {U : Un} (hP : U.P = X.prog) (hw : U.w = X.w) (I : Inv X pins σ H s) {A : Ad} : ∀ (d : D) {e : D} {x y : V} {u v : Value} {Ar : Around}, RelV x u → RelV y v → Is U A H x d → Is U A H y e → eqok d e = true → Ar.units + dep d < cLine → SeqAt.RcAt Ar s u v (eqD d e)
  | .non, e, x, y, u, v, Ar, rx, ry, hx, hy, ho, hu => by
    cases hx; cases rx
    cases hy with
    | non => cases ry; rw [eqD]; exact SeqAt.RcAt.none_none
    | bl b => cases ry; rw [eqD] <;> first | exact SeqAt.RcAt.none_bool b | nofun
    | int i => obtain ⟨t, rfl⟩ := ry; rw [eqD] <;> first | exact SeqAt.RcAt.none_int i t | nofun
    | str z hz => obtain ⟨t, rfl⟩ := ry; rw [eqD] <;> first | exact SeqAt.RcAt.none_str z t | nofun
    | tup e h hp => cases ry; obtain ⟨its, r, pl, hz⟩ := I.tuple (SqT.of e); rw [eqD] <;> first | exact SeqAt.RcAt.none_tuple pl (by omega) | nofun
    | lst e h hp => cases ry; obtain ⟨its, r, pl, hz⟩ := I.list (.inl e); rw [eqD] <;> first | exact SeqAt.RcAt.none_list pl.isList (by omega) | nofun
    | dct e => rw [eqok] at ho <;> first | cases ho | nofun
    | err e ed => rw [eqok] at ho <;> first | cases ho | nofun
  | .bl b, e, x, y, u, v, Ar, rx, ry, hx, hy, ho, hu => by
    cases hx; cases rx
    cases hy with
    | non => cases ry; rw [eqD] <;> first | exact SeqAt.RcAt.bool_none b | nofun
    | bl c => cases ry; rw [eqD]; exact SeqAt.RcAt.bool_bool b c
    | int i => obtain ⟨t, rfl⟩ := ry; rw [eqD]; exact SeqAt.RcAt.bool_int b i t
    | str z hz => obtain ⟨t, rfl⟩ := ry; rw [eqD] <;> first | exact SeqAt.RcAt.bool_str b z t | nofun
    | tup e h hp => cases ry; obtain ⟨its, r, pl, hz⟩ := I.tuple (SqT.of e); rw [eqD] <;> first | exact SeqAt.RcAt.bool_tuple b pl (by omega) | nofun
    | lst e h hp => cases ry; obtain ⟨its, r, pl, hz⟩ := I.list (.inl e); rw [eqD] <;> first | exact SeqAt.RcAt.bool_list b pl.isList (by omega) | nofun
    | dct e => rw [eqok] at ho <;> first | cases ho | nofun
    | err e ed => rw [eqok] at ho <;> first | cases ho | nofun
  | .int b, e, x, y, u, v, Ar, rx, ry, hx, hy, ho, hu => by
    cases hx; obtain ⟨t0, rfl⟩ := rx
    cases hy with
    | non => cases ry; rw [eqD] <;> first | exact SeqAt.RcAt.int_none b t0 | nofun
    | bl c => cases ry; rw [eqD]; exact SeqAt.RcAt.int_bool b t0 c
    | int i => obtain ⟨t, rfl⟩ := ry; rw [eqD]; exact SeqAt.RcAt.int_int b t0 i t
    | str z hz => obtain ⟨t, rfl⟩ := ry; rw [eqD] <;> first | exact SeqAt.RcAt.int_str b t0 z t | nofun
    | tup e h hp => cases ry; obtain ⟨its, r, pl, hz⟩ := I.tuple (SqT.of e); rw [eqD] <;> first | exact SeqAt.RcAt.int_tuple b t0 pl (by omega) | nofun
    | lst e h hp => cases ry; obtain ⟨its, r, pl, hz⟩ := I.list (.inl e); rw [eqD] <;> first | exact SeqAt.RcAt.int_list b t0 pl.isList (by omega) | nofun
    | dct e => rw [eqok] at ho <;> first | cases ho | nofun
    | err e ed => rw [eqok] at ho <;> first | cases ho | nofun
  | .str b, e, x, y, u, v, Ar, rx, ry, hx, hy, ho, hu => by
    cases hx; obtain ⟨t0, rfl⟩ := rx
    cases hy with
    | non => cases ry; rw [eqD] <;> first | exact SeqAt.RcAt.str_none b t0 | nofun
    | bl c => cases ry; rw [eqD] <;> first | exact SeqAt.RcAt.str_bool b t0 c | nofun
    | int i => obtain ⟨t, rfl⟩ := ry; rw [eqD] <;> first | exact SeqAt.RcAt.str_int b t0 i t | nofun
    | str z hz => obtain ⟨t, rfl⟩ := ry; rw [eqD]; exact SeqAt.RcAt.str_str b t0 z t
    | tup e h hp => cases ry; obtain ⟨its, r, pl, hz⟩ := I.tuple (SqT.of e); rw [eqD] <;> first | exact SeqAt.RcAt.str_tuple b t0 pl (by omega) | nofun
    | lst e h hp => cases ry; obtain ⟨its, r, pl, hz⟩ := I.list (.inl e); rw [eqD] <;> first | exact SeqAt.RcAt.str_list b t0 pl.isList (by omega) | nofun
    | err e ed => rw [eqok] at ho; simp at ho
    | dct e hk h hp => cases ry; rw [eqD] <;> first | exact SeqAt.RcAt.str_dictX b t0 (isDct hP hw I e) (by omega) | nofun
  | .tup ds, e, x, y, u, v, Ar, rx, ry, hx, hy, ho, hu => by
    cases hx with
    | tup e1 h1 p1 =>
    cases rx
    obtain ⟨its, r, pl, hz⟩ := I.tuple (SqT.of e1)
    rw [dep] at hu
    cases hy with
    | non => cases ry; rw [eqD] <;> first | exact SeqAt.RcAt.tuple_none pl (by omega) | nofun
    | bl c => cases ry; rw [eqD] <;> first | exact SeqAt.RcAt.tuple_bool c pl (by omega) | nofun
    | int i => obtain ⟨t, rfl⟩ := ry; rw [eqD] <;> first | exact SeqAt.RcAt.tuple_int i t pl (by omega) | nofun
    | str z hz => obtain ⟨t, rfl⟩ := ry; rw [eqD] <;> first | exact SeqAt.RcAt.tuple_str z t pl (by omega) | nofun
    | @tup b ys es e2 h2 p2 =>
      cases ry
      obtain ⟨its2, r2, pl2, hz2⟩ := I.tuple (SqT.of e2)
      · rw [eqok] at ho 
        rw [eqD, eqL_range]
        have k1 : ds.length = its.toArray.size := by rw [List.size_toArray, ← r.length, h1.length]
        have k2 : es.length = its2.toArray.size := by rw [List.size_toArray, ← r2.length, h2.length]
        rw [k1, k2]
        refine SeqAt.RcAt.tuples pl pl2 (by omega) fun j j1 j2 => ?_
        obtain ⟨x1, d1, rx1, ix1, g1⟩ := vals_at r h1 (j := j) (by simpa using j1)
        obtain ⟨x2, d2, rx2, ix2, g2⟩ := vals_at r2 h2 (j := j) (by simpa using j2)
        rw [List.getD_eq_getElem?_getD, List.getD_eq_getElem?_getD, g1, g2]
        have hdp := deps_get g1
        show SeqAt.EqAt Ar.in1 s _ _ (eqD d1 d2)
        exact eqAtAll hP hw I ds (B := A) g1 (by simpa using rx1) (by simpa using rx2) ix1 ix2 (eqokL_get ho g1 g2) (by show Ar.units + 1 + _ < _; omega)
    | lst e h hp => cases ry; obtain ⟨its2, r2, pl2, hz2⟩ := I.list (.inl e); rw [eqD] <;> first | exact SeqAt.RcAt.tuple_list pl pl2.isList (by omega) | nofun
    | dct e => rw [eqok] at ho <;> first | cases ho | nofun
    | err e ed => rw [eqok] at ho <;> first | cases ho | nofun
  | .lst ds, e, x, y, u, v, Ar, rx, ry, hx, hy, ho, hu => by
    cases hx with
    | lst e1 h1 p1 =>
    cases rx
    obtain ⟨its, r, pl, hz⟩ := I.list (.inl e1)
    rw [dep] at hu
    cases hy with
    | non => cases ry; rw [eqD] <;> first | exact SeqAt.RcAt.list_none pl.isList (by omega) | nofun
    | bl c => cases ry; rw [eqD] <;> first | exact SeqAt.RcAt.list_bool c pl.isList (by omega) | nofun
    | int i => obtain ⟨t, rfl⟩ := ry; rw [eqD] <;> first | exact SeqAt.RcAt.list_int i t pl.isList (by omega) | nofun
    | str z hz => obtain ⟨t, rfl⟩ := ry; rw [eqD] <;> first | exact SeqAt.RcAt.list_str z t pl.isList (by omega) | nofun
    | tup e h hp => cases ry; obtain ⟨its2, r2, pl2, hz2⟩ := I.tuple (SqT.of e); rw [eqD] <;> first | exact SeqAt.RcAt.list_tuple pl.isList pl2 (by omega) | nofun
    | @lst b ys es e2 h2 p2 =>
      cases ry
      obtain ⟨its2, r2, pl2, hz2⟩ := I.list (.inl e2)
      · rw [eqok] at ho 
        rw [eqD, eqL_range]
        have k1 : ds.length = its.toArray.size := by rw [List.size_toArray, ← r.length, h1.length]
        have k2 : es.length = its2.toArray.size := by rw [List.size_toArray, ← r2.length, h2.length]
        rw [k1, k2]
        by_cases hsz : its.toArray.size = its2.toArray.size
        · rw [hsz, Nat.min_self, beq_self_eq_true, Bool.and_true, ← hsz]
          refine SeqAt.RcAt.lists pl.isList pl2.isList hsz (by omega) fun j j1 j2 => ?_
          obtain ⟨x1, d1, rx1, ix1, g1⟩ := vals_at r h1 (j := j) (by simpa using j1)
          obtain ⟨x2, d2, rx2, ix2, g2⟩ := vals_at r2 h2 (j := j) (by simpa using j2)
          rw [List.getD_eq_getElem?_getD, List.getD_eq_getElem?_getD, g1, g2]
          have hdp := deps_get g1
          show SeqAt.EqAt Ar.in1 s _ _ (eqD d1 d2)
          exact eqAtAll hP hw I ds (B := A) g1 (by simpa using rx1) (by simpa using rx2) ix1 ix2 (eqokL_get ho g1 g2) (by show Ar.units + 1 + _ < _; omega)
        · have hs : (its.toArray.size == its2.toArray.size) = false := by simpa using hsz
          rw [hs, Bool.and_false]
          exact SeqAt.RcAt.lists_lengths pl.isList pl2.isList (by simpa using hsz) (by omega)
    | dct e => rw [eqok] at ho <;> first | cases ho | nofun
    | err e ed => rw [eqok] at ho <;> first | cases ho | nofun
  | .dct ks vs, e, x, y, u, v, Ar, rx, ry, hx, hy, ho, hu => by
    cases hx with
    | err e1 => cases hy <;> (first | (rw [eqok] at ho; (first | cases ho | simp at ho); done) | (rw [eqok] at ho <;> first | cases ho | nofun))
    | dct e1 =>
    cases rx
    cases hy with
    | str z hz =>
      obtain ⟨t, rfl⟩ := ry
      rw [show eqD (.dct ks vs) (.str z) = false by rw [eqD] <;> nofun]
      exact SeqAt.RcAt.dict_strX z t (isDct hP hw I e1) (by omega)
    | non => rw [eqok] at ho <;> first | cases ho | nofun
    | bl c => rw [eqok] at ho <;> first | cases ho | nofun
    | int i => rw [eqok] at ho <;> first | cases ho | nofun
    | tup e h hp => rw [eqok] at ho <;> first | cases ho | nofun
    | lst e h hp => rw [eqok] at ho <;> first | cases ho | nofun
    | dct e => rw [eqok] at ho <;> first | cases ho | nofun
    | err e ed => rw [eqok] at ho <;> first | cases ho | nofun
end
section
variable {X : Cx} {U : Un}
theorem o_eq (hU : HU X U) (hu : X.A.units + 200 < cLine) : OpR X (compareOp .Eq) (rD2 U dEq) := by
  intro pins s σ H x y v u Q I rx ry hq
  obtain ⟨A, dx, dy, d, al, ix, iy, hf, q⟩ := hq
  obtain ⟨⟨h1, h2⟩, rfl⟩ := if_some hf
  exact rcAtD hU.P hU.w I dx rx ry ix iy h1 (by omega) X.prog X.w _ _ ⟨.bl _, H, I, rfl, q _ H Same.refl' (.bl _)⟩
end
end Bx
namespace Bx
open PySem PySem.Spec PyProof.Rows L2
/-! ### order of data -/
mutual
def toPy : D → PyData
  | .non => .none
  | .bl b => .bool b
  | .int i => .int i
  | .str z => .str z
  | .tup ds => .tuple (toPys ds)
  | .lst _ => .none
  | .dct _ _ => .none
def toPys : List D → List PyData
  | [] => []
  | d :: r => toPy d :: toPys r
end
mutual
/-- no list, no dict within -/
def plain : D → Bool
  | .tup ds => plains ds
  | .lst _ => false
  | .dct _ _ => false
  | _ => true
def plains : List D → Bool
  | [] => true
  | d :: r => plain d && plains r
end
mutual
theorem Is.dp {K : PySem.W.Frag} {U : Un} {A0 : Ad} {H : Hp} {v : V} {d : D} (h : Is U A0 H v d) (hp : plain d = true) : Dp K H v (toPy d) := by
  cases h with
  | non => rw [toPy]; exact .non
  | bl b => rw [toPy]; exact .bl b
  | int i => rw [toPy]; exact .int i
  | str z hz => rw [toPy]; exact .str z
  | tup e h hp' => rw [toPy]; exact .tup (SqT.of e) (IsAll.dp h (by rw [plain] at hp; exact hp))
  | lst e h hp' => rw [plain] at hp; cases hp
  | dct e hk h hp' => rw [plain] at hp; cases hp
  | err e ed h hd hp' => rw [plain] at hp; cases hp
theorem IsAll.dp {K : PySem.W.Frag} {U : Un} {A0 : Ad} {H : Hp} {vs : List V} {ds : List D} (h : IsAll U A0 H vs ds) (hp : plains ds = true) : DpAll K H vs (toPys ds) := by
  cases h with
  | nil => rw [toPys]; exact .nil
  | cons h t =>
    rw [plains, Bool.and_eq_true] at hp
    rw [toPys]
    exact .cons (Is.dp h hp.1) (IsAll.dp t hp.2)
end
mutual
theorem Is.lay {U : Un} {A0 : Ad} {H : Hp} {v : V} {d : D} (h : Is U A0 H v d) (hp : plain d = true) : (toPy d).canLay0 = true := by
  cases h with
  | non => rw [toPy]; rfl
  | bl b => rw [toPy]; rfl
  | int i => rw [toPy]; rfl
  | str z hz => rw [toPy]; exact hz.2
  | tup e h hp' => rw [toPy, PyData.canLay0]; exact IsAll.lay h (by rw [plain] at hp; exact hp)
  | lst e h hp' => rw [plain] at hp; cases hp
  | dct e hk h hp' => rw [plain] at hp; cases hp
  | err e ed h hd hp' => rw [plain] at hp; cases hp
theorem IsAll.lay {U : Un} {A0 : Ad} {H : Hp} {vs : List V} {ds : List D} (h : IsAll U A0 H vs ds) (hp : plains ds = true) : PyData.canLayAll0 (toPys ds) = true := by
  cases h with
  | nil => rw [toPys]; rfl
  | cons h t =>
    rw [plains, Bool.and_eq_true] at hp
    rw [toPys, PyData.canLayAll0, Is.lay h hp.1, IsAll.lay t hp.2]
    rfl
end
mutual
theorem dep_py : ∀ d : D, plain d = true → (toPy d).depth = dep d
  | .non, _ => by rw [toPy]; unfold dep; rfl
  | .bl b, _ => by rw [toPy]; unfold dep; rfl
  | .int i, _ => by rw [toPy]; unfold dep; rfl
  | .str z, _ => by rw [toPy]; unfold dep; rfl
  | .tup ds, h => by rw [toPy, dep, PyData.depth, deps_py ds (by rw [plain] at h; exact h)]
  | .lst _, h => by rw [plain] at h; cases h
  | .dct _ _, h => by rw [plain] at h; cases h
theorem deps_py : ∀ ds : List D, plains ds = true → PyData.depthAll (toPys ds) = deps ds
  | [], _ => by rw [toPys, deps]; rfl
  | d :: r, h => by
    rw [plains, Bool.and_eq_true] at h
    rw [toPys, deps, PyData.depthAll, dep_py d h.1, deps_py r h.2]
end
def eqP (d e : D) : Bool := PyData.eqv (toPy d) (toPy e)
section
variable {X : Cx} {pins : List (Addr × Obj)} {σ : L2.St} {H : Hp} {s : Shared}
theorem eqAtP {U : Un} {A0 : Ad} {x y : V} {u v : Value} {d e : D} {A : Around} (I : Inv X pins σ H s) (rx : RelV x u) (ry : RelV y v) (hx : Is U A0 H x d) (hy : Is U A0 H y e) (px : plain d = true) (py : plain e = true) (hu : A.units + dep d < cLine) : SeqAt.EqAt A s u v (eqP d e) := by
  obtain ⟨as, r1⟩ := Dp.reads I _ x u (hx.dp px) rx
  obtain ⟨bs, r2⟩ := Dp.reads I _ y v (hy.dp py) ry
  refine SeqAt.eqAt_reads _ _ A s u v as bs r1 r2 (hx.lay px) (hy.lay py) ?_
  rw [dep_py d px]
  omega
end
mutual
def ltD : D → D → Bool
  | .int i, .int j => decide (i < j)
  | .str x, .str y => decide (x.cps.toList < y.cps.toList)
  | .tup xs, .tup ys => ltL xs ys
  | _, _ => false
def ltL : List D → List D → Bool
  | [], [] => false
  | [], _ :: _ => true
  | _ :: _, [] => false
  | x :: xs, y :: ys => if eqP x y = true then ltL xs ys else ltD x y
end
mutual
/-- one can be compared with the other by < -/
def okD : D → D → Bool
  | .int _, .int _ => true
  | .str _, .str _ => true
  | .tup xs, .tup ys => okL xs ys
  | _, _ => false
def okL : List D → List D → Bool
  | x :: xs, y :: ys => if eqP x y = true then okL xs ys else okD x y
  | _, _ => true
end
theorem plains_get : ∀ {ds : List D} {j : Nat} {d : D}, plains ds = true → ds[j]? = some d → plain d = true
  | [], _, _, _, h => by simp at h
  | d :: r, 0, _, hp, h => by
    rw [plains, Bool.and_eq_true] at hp
    obtain rfl : d = _ := by simpa using h
    exact hp.1
  | d :: r, j + 1, _, hp, h => by
    rw [plains, Bool.and_eq_true] at hp
    exact plains_get hp.2 (by simpa using h)
theorem okL_at : ∀ {xs ys : List D} {j : Nat} {x y : D}, okL xs ys = true → xs[j]? = some x → ys[j]? = some y → (∀ i, i < j → eqP (xs.getD i .non) (ys.getD i .non) = true) → eqP x y = false → okD x y = true
  | [], _, _, _, _, _, h, _, _, _ => by simp at h
  | _ :: _, [], _, _, _, _, _, h, _, _ => by simp at h
  | a :: xs, b :: ys, 0, x, y, ho, h1, h2, _, hn => by
    obtain rfl : a = x := by simpa using h1
    obtain rfl : b = y := by simpa using h2
    rw [okL, if_neg (by rw [hn]; exact Bool.false_ne_true)] at ho
    exact ho
  | a :: xs, b :: ys, j + 1, x, y, ho, h1, h2, hall, hn => by
    have h0 : eqP a b = true := hall 0 (Nat.succ_pos _)
    rw [okL, if_pos h0] at ho
    exact okL_at ho (by simpa using h1) (by simpa using h2) (fun i hi => hall (i + 1) (Nat.succ_lt_succ hi)) hn
theorem lex_ltL (xs ys : List D) : ∀ (k i : Nat), i ≤ min xs.length ys.length → min xs.length ys.length - i = k →
    Ob.lexAt (fun j => eqP (xs.getD j .non) (ys.getD j .non)) (fun j => ltD (xs.getD j .non) (ys.getD j .non)) (decide (xs.length < ys.length)) i k = ltL (xs.drop i) (ys.drop i)
  | 0, i, hi, h => by
    rw [Ob.lexAt_zero]
    by_cases hx : i < xs.length
    · have hy : ys.length ≤ i := by omega
      rw [List.drop_of_length_le hy, List.drop_eq_getElem_cons hx, ltL]
      exact decide_eq_false (by omega)
    · rw [List.drop_of_length_le (Nat.le_of_not_lt hx)]
      by_cases hy : i < ys.length
      · rw [List.drop_eq_getElem_cons hy, ltL]
        exact decide_eq_true (by omega)
      · rw [List.drop_of_length_le (Nat.le_of_not_lt hy), ltL]
        exact decide_eq_false (by omega)
  | k + 1, i, hi, h => by
    have hx : i < xs.length := by omega
    have hy : i < ys.length := by omega
    rw [Ob.lexAt_succ, lex_ltL xs ys k (i + 1) (by omega) (by omega), List.drop_eq_getElem_cons hx, List.drop_eq_getElem_cons hy, ltL]
    have e1 : xs.getD i .non = xs[i] := by rw [List.getD_eq_getElem?_getD, List.getElem?_eq_getElem hx]; rfl
    have e2 : ys.getD i .non = ys[i] := by rw [List.getD_eq_getElem?_getD, List.getElem?_eq_getElem hy]; rfl
    rw [e1, e2]
section
variable {X : Cx} {pins : List (Addr × Obj)} {σ : L2.St} {H : Hp} {s : Shared}
theorem ltAtD {U : Un} {A0 : Ad} (I : Inv X pins σ H s) : ∀ (n : Nat) {x y : V} {u v : Value} {d e : D} {A : Around}, dep d ≤ n → RelV x u → RelV y v → Is U A0 H x d → Is U A0 H y e → plain d = true → plain e = true → okD d e = true → A.units + n + 64 < cLine → Ob.RcOp .Lt A s u v (ltD d e)
  | n, x, y, u, v, d, e, A, hn, rx, ry, hx, hy, px, py, ho, hu => by
    cases hx with
    | int i =>
      cases hy with
      | int j =>
        obtain ⟨t, rfl⟩ := rx
        obtain ⟨t2, rfl⟩ := ry
        rw [ltD]
        exact Ob.RcOp.lt_int i j t t2
      | _ => rw [okD] at ho <;> first | cases ho | nofun
    | str z hz =>
      cases hy with
      | str z2 hz2 =>
        obtain ⟨t, rfl⟩ := rx
        obtain ⟨t2, rfl⟩ := ry
        rw [ltD]
        exact fun prog w E Q h => PySem.P.lt_str h
      | _ => rw [okD] at ho <;> first | cases ho | nofun
    | @tup a xs ds ea hxs ha =>
      cases hy with
      | @tup b ys es eb hys hb =>
        cases (show u = Value.ref a from rx)
        cases (show v = Value.ref b from ry)
        obtain ⟨us, r1, t1, _⟩ := I.tuple (SqT.of ea)
        obtain ⟨ws, r2, t2, _⟩ := I.tuple (SqT.of eb)
        rw [plain] at px py
        rw [okD] at ho
        rw [dep] at hn
        obtain ⟨m, rfl⟩ : ∃ m, n = m + 1 := ⟨n - 1, by omega⟩
        have l1 : us.toArray.size = ds.length := by rw [List.size_toArray, ← r1.length, hxs.length]
        have l2 : ws.toArray.size = es.length := by rw [List.size_toArray, ← r2.length, hys.length]
        have hres : ltD (.tup ds) (.tup es) = Ob.lexAt (fun j => eqP (ds.getD j .non) (es.getD j .non)) (fun j => ltD (ds.getD j .non) (es.getD j .non)) (decide (us.toArray.size < ws.toArray.size)) 0 (min us.toArray.size ws.toArray.size) := by
          rw [ltD, l1, l2, lex_ltL ds es (min ds.length es.length) 0 (Nat.zero_le _) (by omega), List.drop_zero, List.drop_zero]
        rw [hres]
        have hin : A.in1.units + m + 64 < cLine := by show A.units + 1 + m + 64 < cLine; omega
        refine Ob.RcOp.tuples_ltF t1 t2 (by omega) (fun j h1 h2 _ => ?_) (fun j h1 h2 hall hne => ?_)
        · obtain ⟨x1, d1, q1, g1, e1⟩ := vals_at r1 hxs (j := j) (by simpa using h1)
          obtain ⟨x2, d2, q2, g2, e2⟩ := vals_at r2 hys (j := j) (by simpa using h2)
          have z1 : ds.getD j .non = d1 := by rw [List.getD_eq_getElem?_getD, e1]; rfl
          have z2 : es.getD j .non = d2 := by rw [List.getD_eq_getElem?_getD, e2]; rfl
          have hd := deps_get e1
          show SeqAt.EqAt A.in1 s _ _ (eqP (ds.getD j .non) (es.getD j .non))
          rw [z1, z2]
          exact eqAtP I (by simpa using q1) (by simpa using q2) g1 g2 (plains_get px e1) (plains_get py e2) (by omega)
        · obtain ⟨x1, d1, q1, g1, e1⟩ := vals_at r1 hxs (j := j) (by simpa using h1)
          obtain ⟨x2, d2, q2, g2, e2⟩ := vals_at r2 hys (j := j) (by simpa using h2)
          have z1 : ds.getD j .non = d1 := by rw [List.getD_eq_getElem?_getD, e1]; rfl
          have z2 : es.getD j .non = d2 := by rw [List.getD_eq_getElem?_getD, e2]; rfl
          have hd := deps_get e1
          rw [z1, z2] at hne
          show Ob.RcOp .Lt A.in1 s _ _ (ltD (ds.getD j .non) (es.getD j .non))
          rw [z1, z2]
          exact ltAtD I m (by omega) (by simpa using q1) (by simpa using q2) g1 g2 (plains_get px e1) (plains_get py e2) (okL_at ho e1 e2 hall hne) hin
      | _ => rw [okD] at ho <;> first | cases ho | nofun
    | _ => rw [okD] at ho <;> first | cases ho | nofun
end
theorem eqP_str {x y : Str} : eqP (.str x) (.str y) = decide (x = y) := by
  unfold eqP
  rw [toPy, toPy]
  exact Pr.notEqv_str
end Bx
namespace Bx
open PySem PySem.Spec PyProof.Rows L2
open PySem.W (keyToks keyToksAll)
abbrev Tk := Int ⊕ List Nat
theorem eqP_tup {xs ys : List D} : eqP (.tup xs) (.tup ys) = PyData.eqvAll (toPys xs) (toPys ys) := by
  unfold eqP
  rw [toPy, toPy, PyData.eqv]
def eqPL (xs ys : List D) : Bool := PyData.eqvAll (toPys xs) (toPys ys)
theorem eqPL_cons {x y : D} {xs ys : List D} : eqPL (x :: xs) (y :: ys) = (eqP x y && eqPL xs ys) := by
  unfold eqPL eqP
  rw [toPys, toPys, PyData.eqvAll]
mutual
/-- data that are equal are written alike -/
theorem tok_eqv : ∀ x y : PyData, PyData.eqv x y = true → keyToks x = keyToks y
  | .none, y, h => by
    cases y <;> first | rfl | (rw [PyData.eqv] at h; cases h)
  | .bool a, y, h => by
    cases y with
    | bool b => rw [PyData.eqv] at h; rw [eq_of_beq h]
    | int j => rw [PyData.eqv] at h; rw [keyToks, keyToks, ← eq_of_beq h]
    | _ => rw [PyData.eqv] at h; cases h
  | .int i, y, h => by
    cases y with
    | bool b => rw [PyData.eqv] at h; rw [keyToks, keyToks, eq_of_beq h]
    | int j => rw [PyData.eqv] at h; rw [eq_of_beq h]
    | _ => rw [PyData.eqv] at h; cases h
  | .str a, y, h => by
    cases y with
    | str b => rw [PyData.eqv] at h; rw [eq_of_beq h]
    | _ => rw [PyData.eqv] at h; cases h
  | .list xs, y, h => by
    cases y with
    | list ys => rw [PyData.eqv] at h; rw [keyToks, keyToks]; exact tok_eqvAll xs ys h
    | _ => rw [PyData.eqv] at h; cases h
  | .tuple xs, y, h => by
    cases y with
    | tuple ys => rw [PyData.eqv] at h; rw [keyToks, keyToks]; exact tok_eqvAll xs ys h
    | _ => rw [PyData.eqv] at h; cases h
  | .dict ps, y, h => by
    cases y <;> (rw [PyData.eqv] at h; cases h)
theorem tok_eqvAll : ∀ xs ys : List PyData, PyData.eqvAll xs ys = true → keyToksAll xs = keyToksAll ys
  | [], [], _ => rfl
  | [], _ :: _, h => by rw [PyData.eqvAll] at h; cases h
  | _ :: _, [], h => by rw [PyData.eqvAll] at h; cases h
  | x :: xs, y :: ys, h => by
    rw [PyData.eqvAll, Bool.and_eq_true] at h
    rw [keyToksAll, keyToksAll, tok_eqv x y h.1, tok_eqvAll xs ys h.2]
end
/-- two rows of signs first differ at one place, where the first is less or not -/
def Dif (t u : List Tk) (b : Bool) : Prop := ∃ (pre : List Tk) (p q : Tk) (l m : List Tk), t = pre ++ p :: l ∧ u = pre ++ q :: m ∧ p ≠ q ∧ itemLt p q = b
theorem Dif.behind {t u : List Tk} {b : Bool} (h : Dif t u b) (pre a c : List Tk) : Dif (pre ++ (t ++ a)) (pre ++ (u ++ c)) b := by
  obtain ⟨r, p, q, l, m, rfl, rfl, n, e⟩ := h
  exact ⟨pre ++ r, p, q, l ++ a, m ++ c, by simp, by simp, n, e⟩
theorem Dif.lt {t u : List Tk} {b : Bool} (h : Dif t u b) : PyProof.Rows.lexLt itemOrd t u = b := by
  obtain ⟨r, p, q, l, m, rfl, rfl, n, e⟩ := h
  rw [PySem.W.lex_pre, PySem.W.lex_atom n, PySem.W.lex_one, e]
mutual
theorem tok_dif : ∀ d e : D, okD d e = true → eqP d e = false → Dif (keyToks (toPy d)) (keyToks (toPy e)) (ltD d e)
  | .int i, e, ho, h => by
    cases e with
    | int j =>
      have hn : i ≠ j := fun z => by
        subst z
        unfold eqP at h
        rw [toPy, PyData.eqv] at h
        simp at h
      rw [toPy, toPy, keyToks, keyToks]
      exact ⟨[], .inl i, .inl j, [], [], rfl, rfl, fun z => hn (Sum.inl.inj z), by rw [ltD]; rfl⟩
    | _ => rw [okD] at ho <;> first | cases ho | nofun
  | .str x, e, ho, h => by
    cases e with
    | str y =>
      rw [eqP_str] at h
      have hn := of_decide_eq_false h
      rw [toPy, toPy, keyToks, keyToks]
      refine ⟨[], .inr x.cps.toList, .inr y.cps.toList, [], [], rfl, rfl, fun z => hn (PySem.W.str_of_cps (Sum.inr.inj z)), ?_⟩
      have e1 := PySem.W.dataLt_str x y
      rw [ltD, ← e1]
      unfold PySem.W.dataLt
      rw [keyToks, keyToks, PySem.W.lex_one]
    | _ => rw [okD] at ho <;> first | cases ho | nofun
  | .tup xs, e, ho, h => by
    cases e with
    | tup ys =>
      rw [okD] at ho
      rw [toPy, toPy, keyToks, keyToks, ltD]
      rw [eqP_tup] at h
      exact tokL_dif xs ys ho h
    | _ => rw [okD] at ho <;> first | cases ho | nofun
  | .non, e, ho, h => by rw [okD] at ho <;> first | cases ho | nofun
  | .bl _, e, ho, h => by rw [okD] at ho <;> first | cases ho | nofun
  | .lst _, e, ho, h => by rw [okD] at ho <;> first | cases ho | nofun
  | .dct _ _, e, ho, h => by rw [okD] at ho <;> first | cases ho | nofun
theorem tokL_dif : ∀ xs ys : List D, okL xs ys = true → eqPL xs ys = false → Dif (keyToksAll (toPys xs)) (keyToksAll (toPys ys)) (ltL xs ys)
  | [], [], _, h => by
    unfold eqPL at h
    rw [toPys, PyData.eqvAll] at h
    cases h
  | [], y :: ys, _, _ => by
    rw [toPys, toPys, keyToksAll, keyToksAll, ltL]
    exact ⟨[], .inl 0, .inl 1, [], _, rfl, rfl, by decide, rfl⟩
  | x :: xs, [], _, _ => by
    rw [toPys, toPys, keyToksAll, keyToksAll, ltL]
    exact ⟨[], .inl 1, .inl 0, _, [], rfl, rfl, by decide, rfl⟩
  | x :: xs, y :: ys, ho, h => by
    rw [eqPL_cons] at h
    rw [toPys, toPys, keyToksAll, keyToksAll, ltL]
    rw [okL] at ho
    cases hx : eqP x y with
    | true =>
      rw [hx, if_pos rfl] at ho
      rw [hx, Bool.true_and] at h
      rw [if_pos rfl, show keyToks (toPy x) = keyToks (toPy y) from tok_eqv _ _ hx]
      have q := (tokL_dif xs ys ho h).behind (.inl 1 :: keyToks (toPy y)) [] []
      simpa using q
    | false =>
      rw [hx, if_neg Bool.false_ne_true] at ho
      rw [if_neg Bool.false_ne_true]
      have q := (tok_dif x y ho hx).behind [.inl 1] (keyToksAll (toPys xs)) (keyToksAll (toPys ys))
      simpa using q
end
mutual
theorem ltD_same : ∀ d e : D, eqP d e = true → ltD d e = false
  | .int i, e, h => by
    cases e with
    | int j =>
      unfold eqP at h
      rw [toPy, toPy, PyData.eqv] at h
      rw [eq_of_beq h, ltD]
      exact decide_eq_false (Int.lt_irrefl _)
    | _ => rw [ltD] <;> nofun
  | .str x, e, h => by
    cases e with
    | str y =>
      rw [eqP_str] at h
      rw [of_decide_eq_true h, ltD]
      exact decide_eq_false (List.lt_irrefl _)
    | _ => rw [ltD] <;> nofun
  | .tup xs, e, h => by
    cases e with
    | tup ys =>
      rw [eqP_tup] at h
      rw [ltD]
      exact ltL_same xs ys h
    | _ => rw [ltD] <;> nofun
  | .non, e, h => by rw [ltD] <;> nofun
  | .bl _, e, h => by rw [ltD] <;> nofun
  | .lst _, e, h => by rw [ltD] <;> nofun
  | .dct _ _, e, h => by rw [ltD] <;> nofun
theorem ltL_same : ∀ xs ys : List D, eqPL xs ys = true → ltL xs ys = false
  | [], [], _ => by rw [ltL]
  | [], y :: ys, h => by
    unfold eqPL at h
    rw [toPys, toPys, PyData.eqvAll] at h
    cases h
  | x :: xs, [], h => by rw [ltL]
  | x :: xs, y :: ys, h => by
    rw [eqPL_cons, Bool.and_eq_true] at h
    rw [ltL, if_pos h.1]
    exact ltL_same xs ys h.2
end
/-- the order of data that can be compared is the order of what is written for them -/
theorem ltD_toks {d e : D} (ho : okD d e = true) : ltD d e = PyProof.Rows.lexLt itemOrd (keyToks (toPy d)) (keyToks (toPy e)) := by
  cases h : eqP d e with
  | true =>
    rw [ltD_same d e h, show keyToks (toPy d) = keyToks (toPy e) from tok_eqv _ _ h]
    exact (PyProof.Rows.lex_irrefl (O := itemOrd) _).symm
  | false => exact ((tok_dif d e ho h).lt).symm
/-- the order of everything, by what is written -/
def ltT (d e : D) : Bool := PyProof.Rows.lexLt itemOrd (keyToks (toPy d)) (keyToks (toPy e))
theorem swo_ltT {α : Type} (k : α → D) : SrtO.Swo fun x y : α => ltT (k x) (k y) := by
  have O := PyProof.Rows.listOrd itemOrd
  refine ⟨fun x y h => ?_, fun x y z h1 h2 => ?_⟩
  · cases q : ltT (k y) (k x) with
    | false => rfl
    | true =>
      have := PyProof.Rows.lex_trans (O := itemOrd) _ _ _ h q
      rw [PyProof.Rows.lex_irrefl] at this
      cases this
  · cases q : ltT (k z) (k x) with
    | false => rfl
    | true =>
      rcases PyProof.Rows.lex_negTrans (O := itemOrd) (keyToks (toPy (k z))) (keyToks (toPy (k y))) (keyToks (toPy (k x))) q with c | c
      · exact (Bool.false_ne_true (h2.symm.trans c)).elim
      · exact (Bool.false_ne_true (h1.symm.trans c)).elim
end Bx
namespace Bx
open PySem PySem.Spec PyProof.Rows L2
/-! ### order of values in a heap -/
theorem toPys_map : ∀ ds : List D, toPys ds = ds.map toPy
  | [] => by rw [toPys]; rfl
  | d :: r => by rw [toPys, toPys_map r]; rfl
/-- the value is written as the datum -/
def Rds (h : Heap) (u : Value) (d : D) : Prop := (∃ as, Reads h u (toPy d) as) ∧ (toPy d).canLay0 = true ∧ plain d = true
inductive RdAll (h : Heap) : List Value → List D → Prop
  | nil : RdAll h [] []
  | cons {u : Value} {us : List Value} {d : D} {ds : List D} : Rds h u d → RdAll h us ds → RdAll h (u :: us) (d :: ds)
theorem RdAll.length {h : Heap} : ∀ {us : List Value} {ds : List D}, RdAll h us ds → us.length = ds.length
  | _, _, .nil => rfl
  | _, _, .cons _ t => by rw [List.length_cons, List.length_cons, t.length]
theorem RdAll.get {h : Heap} : ∀ {us : List Value} {ds : List D} {i : Nat} {u : Value}, RdAll h us ds → us[i]? = some u → ∃ d, ds[i]? = some d ∧ Rds h u d
  | _, _, _, _, .nil, e => by simp at e
  | _, _, 0, _, .cons r _, e => by
    obtain rfl : _ = _ := by simpa using e
    exact ⟨_, rfl, r⟩
  | _, _, i + 1, _, .cons _ t, e => by
    obtain ⟨d, h1, h2⟩ := t.get (i := i) (by simpa using e)
    exact ⟨d, by simpa using h1, h2⟩
theorem rdAll_of {h : Heap} : ∀ {us : List Value} {ds : List D} {as : List Addr}, ReadsAll h us (toPys ds) as → PyData.canLayAll0 (toPys ds) = true → plains ds = true → RdAll h us ds
  | us, [], as, r, _, _ => by
    rw [toPys] at r
    cases r
    exact .nil
  | us, d :: ds, as, r, hl, hp => by
    rw [toPys] at r
    rw [toPys, PyData.canLayAll0, Bool.and_eq_true] at hl
    rw [plains, Bool.and_eq_true] at hp
    cases r with
    | cons r1 r2 => exact .cons ⟨⟨_, r1⟩, hl.1, hp.1⟩ (rdAll_of r2 hl.2 hp.2)
/-- the tuple's object -/
theorem Rds.tup {h : Heap} {u : Value} {ds : List D} (r : Rds h u (.tup ds)) : ∃ (a : Addr) (o : Obj) (vs : Array Value) (n : Nat), u = .ref a ∧ h.get? a = some o ∧ o.cls = .type "tuple" ∧ o.data = .seq vs n ∧ RdAll h vs.toList ds := by
  obtain ⟨⟨as, r⟩, hl, hp⟩ := r
  rw [toPy] at r hl
  rw [PyData.canLay0] at hl
  rw [plain] at hp
  cases r with
  | @tuple a o vs n _ as1 h1 h2 h3 h4 => exact ⟨a, o, vs, n, rfl, h1, h2, h3, rdAll_of h4 hl hp⟩
theorem Rds.int {h : Heap} {u : Value} {i : Int} (r : Rds h u (.int i)) : ∃ t, u = .int i t := by
  obtain ⟨⟨as, r⟩, _, _⟩ := r
  rw [toPy] at r
  cases r
  exact ⟨_, rfl⟩
theorem Rds.str {h : Heap} {u : Value} {x : Str} (r : Rds h u (.str x)) : ∃ t, u = .str x t := by
  obtain ⟨⟨as, r⟩, _, _⟩ := r
  rw [toPy] at r
  cases r
  exact ⟨_, rfl⟩
theorem Rds.eqAt {s : Shared} {u v : Value} {d e : D} {A : Around} (r : Rds s.heap u d) (q : Rds s.heap v e) (hu : A.units + dep d < cLine) : SeqAt.EqAt A s u v (eqP d e) := by
  obtain ⟨⟨as, r⟩, hl, hp⟩ := r
  obtain ⟨⟨bs, q⟩, hl2, hp2⟩ := q
  refine SeqAt.eqAt_reads _ _ A s u v as bs r q hl hl2 ?_
  rw [dep_py d hp]
  omega
/-- u < v -/
theorem Rds.ltAt {s : Shared} : ∀ (n : Nat) {u v : Value} {d e : D} {A : Around}, dep d ≤ n → Rds s.heap u d → Rds s.heap v e → okD d e = true → A.units + n + 64 < cLine → Ob.RcOp .Lt A s u v (ltD d e)
  | n, u, v, d, e, A, hn, hx, hy, ho, hu => by
    cases d with
    | int i =>
      cases e with
      | int j =>
        obtain ⟨t, rfl⟩ := hx.int
        obtain ⟨t2, rfl⟩ := hy.int
        rw [ltD]
        exact Ob.RcOp.lt_int i j t t2
      | _ => rw [okD] at ho <;> first | cases ho | nofun
    | str z =>
      cases e with
      | str z2 =>
        obtain ⟨t, rfl⟩ := hx.str
        obtain ⟨t2, rfl⟩ := hy.str
        rw [ltD]
        exact fun prog w E Q h => PySem.P.lt_str h
      | _ => rw [okD] at ho <;> first | cases ho | nofun
    | tup ds =>
      cases e with
      | tup es =>
        obtain ⟨a, o, us, k, rfl, h1, h2, h3, r1⟩ := hx.tup
        obtain ⟨b, o2, ws, k2, rfl, g1, g2, g3, r2⟩ := hy.tup
        rw [okD] at ho
        rw [dep] at hn
        obtain ⟨m, rfl⟩ : ∃ m, n = m + 1 := ⟨n - 1, by omega⟩
        have l1 : us.size = ds.length := by rw [← r1.length, Array.length_toList]
        have l2 : ws.size = es.length := by rw [← r2.length, Array.length_toList]
        have hres : ltD (.tup ds) (.tup es) = Ob.lexAt (fun j => eqP (ds.getD j .non) (es.getD j .non)) (fun j => ltD (ds.getD j .non) (es.getD j .non)) (decide (us.size < ws.size)) 0 (min us.size ws.size) := by
          rw [ltD, l1, l2, lex_ltL ds es (min ds.length es.length) 0 (Nat.zero_le _) (by omega), List.drop_zero, List.drop_zero]
        rw [hres]
        have hin : A.in1.units + m + 64 < cLine := by show A.units + 1 + m + 64 < cLine; omega
        refine Ob.RcOp.tuples_ltF ⟨_, h1, h2, _, h3⟩ ⟨_, g1, g2, _, g3⟩ (by omega) (fun j j1 j2 _ => ?_) (fun j j1 j2 hall hne => ?_)
        · obtain ⟨d1, e1, q1⟩ := r1.get (i := j) (u := us[j]) (by simp [j1])
          obtain ⟨d2, e2, q2⟩ := r2.get (i := j) (u := ws[j]) (by simp [j2])
          have z1 : ds.getD j .non = d1 := by rw [List.getD_eq_getElem?_getD, e1]; rfl
          have z2 : es.getD j .non = d2 := by rw [List.getD_eq_getElem?_getD, e2]; rfl
          have hd := deps_get e1
          show SeqAt.EqAt A.in1 s _ _ (eqP (ds.getD j .non) (es.getD j .non))
          rw [z1, z2]
          exact q1.eqAt q2 (by omega)
        · obtain ⟨d1, e1, q1⟩ := r1.get (i := j) (u := us[j]) (by simp [j1])
          obtain ⟨d2, e2, q2⟩ := r2.get (i := j) (u := ws[j]) (by simp [j2])
          have z1 : ds.getD j .non = d1 := by rw [List.getD_eq_getElem?_getD, e1]; rfl
          have z2 : es.getD j .non = d2 := by rw [List.getD_eq_getElem?_getD, e2]; rfl
          have hd := deps_get e1
          rw [z1, z2] at hne
          show Ob.RcOp .Lt A.in1 s _ _ (ltD (ds.getD j .non) (es.getD j .non))
          rw [z1, z2]
          exact Rds.ltAt m (by omega) q1 q2 (okL_at ho e1 e2 hall hne) hin
      | _ => rw [okD] at ho <;> first | cases ho | nofun
    | _ => rw [okD] at ho <;> first | cases ho | nofun
end Bx
namespace Bx
open PySem PySem.Spec PyProof.Rows L2
theorem RdAll.reads {h : Heap} : ∀ {us : List Value} {ds : List D}, RdAll h us ds → ∃ as, ReadsAll h us (toPys ds) as
  | _, _, .nil => ⟨[], by rw [toPys]; exact .nil⟩
  | _, _, .cons r t => by
    obtain ⟨⟨as, r⟩, _⟩ := r
    obtain ⟨bs, q⟩ := t.reads
    exact ⟨as ++ bs, by rw [toPys]; exact .cons r q⟩
section
variable {h h' : Heap} {a : Addr} (k : ∀ b o, b ≠ a → h.get? b = some o → h'.get? b = some o) (ha : ∀ o, h.get? a = some o → o.cls ≠ .type "tuple")
include k ha
mutual
theorem rd_but : ∀ (d : D) {u : Value}, Rds h u d → Rds h' u d
  | .tup ds, u, r => by
    have r0 := r.2
    obtain ⟨b, o, vs, n, rfl, h1, h2, h3, r1⟩ := r.tup
    have ne : b ≠ a := fun z => by subst z; exact ha o h1 h2
    obtain ⟨as, q⟩ := (rdAll_but ds r1).reads
    exact ⟨⟨as, by rw [toPy]; exact .tuple (k _ _ ne h1) h2 h3 q⟩, r0⟩
  | .int i, u, r => by
    have r0 := r.2
    obtain ⟨t, rfl⟩ := r.int
    exact ⟨⟨[], by rw [toPy]; exact .int i t⟩, r0⟩
  | .str x, u, r => by
    have r0 := r.2
    obtain ⟨t, rfl⟩ := r.str
    exact ⟨⟨[], by rw [toPy]; exact .str x t⟩, r0⟩
  | .bl b, u, r => by
    obtain ⟨⟨as, r⟩, r0⟩ := r
    rw [toPy] at r
    cases r
    exact ⟨⟨[], by rw [toPy]; exact .bool b⟩, r0⟩
  | .non, u, r => by
    obtain ⟨⟨as, r⟩, r0⟩ := r
    rw [toPy] at r
    cases r
    exact ⟨⟨[], by rw [toPy]; exact .none⟩, r0⟩
  | .lst _, u, r => by
    have := r.2.2
    rw [plain] at this
    cases this
  | .dct _ _, u, r => by
    have := r.2.2
    rw [plain] at this
    cases this
theorem rdAll_but : ∀ (ds : List D) {us : List Value}, RdAll h us ds → RdAll h' us ds
  | [], us, r => by
    cases r
    exact .nil
  | d :: ds, us, r => by
    cases r with
    | cons r t => exact .cons (rd_but d r) (rdAll_but ds t)
end
end
section
variable {prog : Program} {w : World} {A : Around} {s : Shared}
theorem katLexD {b fin : Bool} {Q : Bool → Shared → Prop} : ∀ (us ws : List Value) (ds es : List D) (i : Nat), RdAll s.heap us ds → RdAll s.heap ws es → okL ds es = true → (∀ d ∈ ds, dep d ≤ 100) → A.units + 190 < cLine →
    fin = decide (ds.length < es.length) → ((b && i == 0) = true → ∀ d r, ds = d :: r → ∀ xs, d ≠ .tup xs) → Q (ltL ds es) s → PySem.W.KatLex prog w A b fin Q (us.zip ws) i s
  | [], ws, ds, es, i, r1, r2, ho, hd, hu, hf, hb, q => by
    cases r1
    cases es with
    | nil => rw [ltL] at q; subst hf; exact PySem.W.kat_nil q
    | cons e es => rw [ltL] at q; subst hf; exact PySem.W.kat_nil (by simpa using q)
  | u :: us, [], ds, es, i, r1, r2, ho, hd, hu, hf, hb, q => by
    cases r2
    cases r1
    rw [ltL] at q
    subst hf
    exact PySem.W.kat_nil (by simpa using q)
  | u :: us, w' :: ws, ds, es, i, r1, r2, ho, hd, hu, hf, hb, q => by
    cases r1 with
    | @cons _ _ d ds x1 t1 =>
    cases r2 with
    | @cons _ _ e es x2 t2 =>
    have hdd := hd d List.mem_cons_self
    refine PySem.W.kat_cons (x1.eqAt x2 (by omega) prog w _ _ ?_)
    refine PySem.W.kat_go (fun e1 => ?_) (fun e1 => ?_)
    · rw [okL, if_pos e1] at ho
      rw [ltL, if_pos e1] at q
      refine PySem.W.kat_yes (katLexD us ws ds es (i + 1) t1 t2 ho (fun d hm => hd d (List.mem_cons_of_mem _ hm)) hu ?_ (fun z => ?_) q)
      · rw [hf, List.length_cons, List.length_cons]
        exact decide_eq_decide.mpr ⟨fun z => by omega, fun z => by omega⟩
      · simp at z
    · have e2 : ¬ eqP d e = true := by rw [e1]; exact Bool.false_ne_true
      rw [okL, if_neg e2] at ho
      rw [ltL, if_neg e2] at q
      refine PySem.W.kat_no ?_
      cases hz : (b && i == 0) with
      | false => exact PySem.W.kat_one _ _ (Rds.ltAt 100 hdd x1 x2 ho (by omega) prog w _ _ q)
      | true =>
        have nt := hb hz d ds rfl
        cases d with
        | int m =>
          cases e with
          | int n =>
            obtain ⟨t, rfl⟩ := x1.int
            obtain ⟨t2, rfl⟩ := x2.int
            rw [ltD] at q
            exact PyProof.Rows.oneLt_any_int q
          | _ => rw [okD] at ho <;> first | cases ho | nofun
        | str m =>
          cases e with
          | str n =>
            obtain ⟨t, rfl⟩ := x1.str
            obtain ⟨t2, rfl⟩ := x2.str
            rw [ltD] at q
            exact PyProof.Rows.oneLt_any_str q
          | _ => rw [okD] at ho <;> first | cases ho | nofun
        | tup xs => exact absurd rfl (nt xs)
        | _ => rw [okD] at ho <;> first | cases ho | nofun
end
end Bx
namespace Bx
open PySem PySem.Spec PyProof.Rows L2
def Head (T : String) (d : D) : Prop := ∃ x r, d = .tup (x :: r) ∧ ((T = "int" ∧ ∃ i, x = .int i) ∨ (T = "str" ∧ ∃ z, x = .str z) ∨ (T = "tuple" ∧ ∃ xs, x = .tup xs))
theorem firstsD {h : Heap} {T : String} {k : Value → D} : ∀ vs : List Value, (∀ v ∈ vs, Rds h v (k v) ∧ Head T (k v)) → ∃ fs, PySem.W.KatTups h vs fs ∧ fs.length = vs.length ∧ ∀ f ∈ fs, ∃ x, Rds h f x ∧ ((T = "int" ∧ ∃ i, x = .int i) ∨ (T = "str" ∧ ∃ z, x = .str z) ∨ (T = "tuple" ∧ ∃ xs, x = .tup xs))
  | [], _ => ⟨[], PySem.W.KatTups.nil, rfl, fun f hf => by simp at hf⟩
  | v :: vs, hx => by
    obtain ⟨fs, kt, hl, hi⟩ := firstsD vs fun u hu => hx u (List.mem_cons_of_mem _ hu)
    obtain ⟨r, x, t, e, hT⟩ := hx v List.mem_cons_self
    rw [e] at r
    obtain ⟨a, o, us, n, rfl, h1, h2, h3, r1⟩ := r.tup
    obtain ⟨l⟩ := us
    have r2 : RdAll h l (x :: t) := r1
    cases r2 with
    | @cons f l _ _ q t2 =>
      refine ⟨f :: fs, PySem.W.KatTups.cons h1 h2 h3 rfl kt, by rw [List.length_cons, List.length_cons, hl], fun g hg => ?_⟩
      rcases List.mem_cons.mp hg with rfl | hg
      · exact ⟨x, q, hT⟩
      · exact hi g hg
theorem Rds.looks {M : Model} {h : Heap} {f : Value} {x : D} {T : String} (r : Rds h f x) (hT : (T = "int" ∧ ∃ i, x = .int i) ∨ (T = "str" ∧ ∃ z, x = .str z) ∨ (T = "tuple" ∧ ∃ xs, x = .tup xs)) : PySem.W.Looks M h (typeOf f) (.type T) := by
  rcases hT with ⟨rfl, i, rfl⟩ | ⟨rfl, z, rfl⟩ | ⟨rfl, xs, rfl⟩
  · obtain ⟨t, rfl⟩ := r.int
    exact PySem.W.Looks.now
  · obtain ⟨t, rfl⟩ := r.str
    exact PySem.W.Looks.now
  · obtain ⟨a, o, us, n, rfl, h1, h2, h3, r1⟩ := r.tup
    have z : PySem.W.Looks M h (typeOf (.ref a)) o.cls := (PySem.W.Looks.ld h1).andThen .now
    rw [h2] at z
    exact z
section
variable {prog : Program} {w : World} {A : Around} {s : Shared}
theorem cmp_tups {vs : List Value} {k : Value → D} {T : String} (hr : ∀ v ∈ vs, Rds s.heap v (k v)) (hk : ∀ v ∈ vs, Head T (k v)) (hok : ∀ v ∈ vs, ∀ u ∈ vs, okD (k v) (k u) = true) (hd : ∀ v ∈ vs, dep (k v) ≤ 100) (hu : A.units + 190 < cLine) :
    SrtO.Cmp prog w A s (tuples' (Value.type T != Value.type "tuple")) (fun p => p.1 ∈ vs) (SrtO.lt2 fun v u => ltT (k v) (k u)) := by
  intro p q hp hq
  have r1 := hr _ hp
  have r2 := hr _ hq
  have ho := hok _ hp _ hq
  have hd1 := hd _ hp
  obtain ⟨x, t, e1, hT⟩ := hk _ hp
  obtain ⟨y, t2, e2, hT2⟩ := hk _ hq
  have hres : SrtO.lt2 (fun v u => ltT (k v) (k u)) p q = ltD (k p.1) (k q.1) := (ltD_toks ho).symm
  rw [hres]
  rw [e1] at r1 ho hd1 ⊢
  rw [e2] at r2 ho ⊢
  obtain ⟨a, o, us, n, ea, h1, _, h3, l1⟩ := r1.tup
  obtain ⟨b, o2, ws, n2, eb, g1, _, g3, l2⟩ := r2.tup
  show wpAny (model prog w) A (keyLt' _ p.1 q.1) _ _ s
  rw [ea, eb]
  rw [okD] at ho
  refine PySem.W.kat_lt h1 h3 g1 g3 (katLexD _ _ _ _ 0 l1 l2 ho (fun d hm => ?_) hu ?_ (fun hz d r ed xs ex => ?_) ⟨rfl, by rw [ltD]⟩)
  · rw [dep] at hd1
    obtain ⟨i, hi, rfl⟩ := List.getElem_of_mem hm
    have := deps_get (List.getElem?_eq_getElem hi)
    omega
  · have q1 := l1.length
    have q2 := l2.length
    rw [Array.length_toList] at q1 q2
    rw [q1, q2]
  · obtain ⟨rfl, rfl⟩ := List.cons.inj ed
    subst ex
    rcases hT with ⟨rfl, i, ei⟩ | ⟨rfl, z, ei⟩ | ⟨rfl, xs, ei⟩
    · cases ei
    · cases ei
    · simp at hz
theorem ints_are : ∀ vs : List Value, (∀ v ∈ vs, ∃ i t, v = .int i t) → ∃ ns, IntsAre vs ns
  | [], _ => ⟨[], .nil⟩
  | v :: vs, h => by
    obtain ⟨i, t, rfl⟩ := h v List.mem_cons_self
    obtain ⟨ns, q⟩ := ints_are vs fun u hu => h u (List.mem_cons_of_mem _ hu)
    exact ⟨i :: ns, .cons i t q⟩
theorem strs_are : ∀ vs : List Value, (∀ v ∈ vs, ∃ i t, v = .str i t) → ∃ ns, StrsAre vs ns
  | [], _ => ⟨[], .nil⟩
  | v :: vs, h => by
    obtain ⟨i, t, rfl⟩ := h v List.mem_cons_self
    obtain ⟨ns, q⟩ := strs_are vs fun u hu => h u (List.mem_cons_of_mem _ hu)
    exact ⟨i :: ns, .cons i t q⟩
theorem kindD {vs : List Value} {k : Value → D} (hr' : ∀ v ∈ vs, Rds s.heap v (k v)) (hk : (∀ v ∈ vs, ∃ i, k v = .int i) ∨ (∀ v ∈ vs, ∃ z, k v = .str z) ∨ ∃ T, ∀ v ∈ vs, Head T (k v))
    (hok : ∀ v ∈ vs, ∀ u ∈ vs, okD (k v) (k u) = true) (hd : ∀ v ∈ vs, dep (k v) ≤ 100) (hu : A.units + 190 < cLine) :
    ∃ κ, (2 ≤ vs.length → ∀ (Q : SortKind → Shared → Prop) (E : Value → Shared → Prop), Q κ s → wpAny (model prog w) A (keyKind' vs.toArray) Q E s) ∧ SrtO.Cmp prog w A s κ (fun p => p.1 ∈ vs) (SrtO.lt2 fun v u => ltT (k v) (k u)) := by
  rcases hk with hk | hk | ⟨T, hk⟩
  · have hv : ∀ v ∈ vs, ∃ i t, v = .int i t ∧ k v = .int i := fun v hm => by
      obtain ⟨i, e⟩ := hk v hm
      have r := hr' v hm
      rw [e] at r
      obtain ⟨t, et⟩ := r.int
      exact ⟨i, t, et, e⟩
    refine ⟨oneType', fun h2 Q E hq => ?_, ?_⟩
    · obtain ⟨ns, q⟩ := ints_are vs fun v hm => by obtain ⟨i, t, e, _⟩ := hv v hm; exact ⟨i, t, e⟩
      match vs, h2, q with
      | v1 :: v2 :: r, _, q =>
        rw [keyKind_ints q]
        exact wpAny_pure hq
    · intro p q hp hq
      obtain ⟨i, t, e1, e2⟩ := hv _ hp
      obtain ⟨j, t2, e3, e4⟩ := hv _ hq
      have hres : SrtO.lt2 (fun v u => ltT (k v) (k u)) p q = decide (i < j) := by
        have ho := hok _ hp _ hq
        show ltT (k p.1) (k q.1) = _
        rw [e2, e4] at ho ⊢
        show PyProof.Rows.lexLt itemOrd _ _ = _
        rw [← ltD_toks ho, ltD]
      rw [hres]
      show wpAny (model prog w) A (keyLt' _ p.1 q.1) _ _ _
      rw [e1, e3]
      exact PySem.W.kat_lt_int ⟨rfl, rfl⟩
  · have hv : ∀ v ∈ vs, ∃ i t, v = .str i t ∧ k v = .str i := fun v hm => by
      obtain ⟨i, e⟩ := hk v hm
      have r := hr' v hm
      rw [e] at r
      obtain ⟨t, et⟩ := r.str
      exact ⟨i, t, et, e⟩
    refine ⟨oneType', fun h2 Q E hq => ?_, ?_⟩
    · obtain ⟨ns, q⟩ := strs_are vs fun v hm => by obtain ⟨i, t, e, _⟩ := hv v hm; exact ⟨i, t, e⟩
      match vs, h2, q with
      | v1 :: v2 :: r, _, q =>
        rw [keyKind_strs q]
        exact wpAny_pure hq
    · intro p q hp hq
      obtain ⟨i, t, e1, e2⟩ := hv _ hp
      obtain ⟨j, t2, e3, e4⟩ := hv _ hq
      have hres : SrtO.lt2 (fun v u => ltT (k v) (k u)) p q = decide (i.cps.toList < j.cps.toList) := by
        have ho := hok _ hp _ hq
        show ltT (k p.1) (k q.1) = _
        rw [e2, e4] at ho ⊢
        show PyProof.Rows.lexLt itemOrd _ _ = _
        rw [← ltD_toks ho, ltD]
      rw [hres]
      show wpAny (model prog w) A (keyLt' _ p.1 q.1) _ _ _
      rw [e1, e3]
      exact PySem.W.kas_lt_str ⟨rfl, rfl⟩
  · refine ⟨tuples' (Value.type T != Value.type "tuple"), fun h2 Q E hq => ?_, cmp_tups hr' hk hok hd hu⟩
    obtain ⟨fs, kt, hl, hi⟩ := firstsD vs fun v hm => ⟨hr' v hm, hk v hm⟩
    refine PySem.W.kat_kind (T := .type T) kt (by omega) (fun f hf => ?_) (beq_self_eq_true _) hq
    obtain ⟨x, rx, hT⟩ := hi f hf
    exact rx.looks hT
theorem sortableD {a : Addr} {vs : List Value} {k : Value → D} (h2 : 2 ≤ vs.length) (hr : ∀ v ∈ vs, Rds s.heap v (k v)) (hk : (∀ v ∈ vs, ∃ i, k v = .int i) ∨ (∀ v ∈ vs, ∃ z, k v = .str z) ∨ ∃ T, ∀ v ∈ vs, Head T (k v))
    (hok : ∀ v ∈ vs, ∀ u ∈ vs, okD (k v) (k u) = true) (hd : ∀ v ∈ vs, dep (k v) ≤ 100) (hu : A.units + 190 < cLine) (ha : ∀ o, s.heap.get? a = some o → o.cls ≠ .type "tuple") : SrtO.SortableO prog w A s a vs fun v u => ltT (k v) (k u) := by
  intro h' keep
  obtain ⟨κ, h1, h3⟩ := kindD (prog := prog) (w := w) (A := A) (s := { s with heap := h' }) (fun v hm => rd_but keep ha _ (hr v hm)) hk hok hd hu
  exact ⟨κ, h1 h2, h3⟩
end
end Bx
namespace Bx
open PySem PySem.Spec PyProof.Rows L2
mutual
theorem rd_unique {h : Heap} : ∀ (d e : D) {u : Value}, Rds h u d → Rds h u e → d = e
  | .tup ds, e, u, r, q => by
    obtain ⟨a, o, vs, n, rfl, h1, h2, h3, r1⟩ := r.tup
    cases e with
    | tup es =>
      obtain ⟨a2, o2, vs2, n2, e0, g1, g2, g3, q1⟩ := q.tup
      cases e0
      have eo := Option.some.inj (h1.symm.trans g1)
      subst eo
      have ed := h3.symm.trans g3
      injection ed with ed
      subst ed
      rw [rdAll_unique ds es r1 q1]
    | int i => obtain ⟨t, z⟩ := q.int; cases z
    | str i => obtain ⟨t, z⟩ := q.str; cases z
    | _ => obtain ⟨⟨as, q⟩, _, q3⟩ := q; rw [toPy] at q; cases q
  | .int i, e, u, r, q => by
    obtain ⟨t, rfl⟩ := r.int
    obtain ⟨⟨as, q⟩, _, q3⟩ := q
    cases e <;> (rw [toPy] at q; cases q <;> rfl)
  | .str i, e, u, r, q => by
    obtain ⟨t, rfl⟩ := r.str
    obtain ⟨⟨as, q⟩, _, q3⟩ := q
    cases e <;> (rw [toPy] at q; cases q <;> rfl)
  | .bl b, e, u, r, q => by
    obtain ⟨⟨bs, r⟩, _, _⟩ := r
    rw [toPy] at r
    cases r
    obtain ⟨⟨as, q⟩, _, q3⟩ := q
    cases e <;> (rw [toPy] at q; cases q <;> rfl)
  | .non, e, u, r, q => by
    obtain ⟨⟨bs, r⟩, _, _⟩ := r
    rw [toPy] at r
    cases r
    obtain ⟨⟨as, q⟩, _, q3⟩ := q
    cases e <;> first | rfl | (rw [toPy] at q; cases q; done) | (simp [plain] at q3; done)
  | .lst _, e, u, r, q => by
    have := r.2.2
    rw [plain] at this
    cases this
  | .dct _ _, e, u, r, q => by
    have := r.2.2
    rw [plain] at this
    cases this
theorem rdAll_unique {h : Heap} : ∀ (ds es : List D) {us : List Value}, RdAll h us ds → RdAll h us es → ds = es
  | [], es, us, r, q => by
    cases r
    cases q
    rfl
  | d :: ds, es, us, r, q => by
    cases r with
    | cons r1 r2 =>
      cases q with
      | cons q1 q2 => rw [rd_unique d _ r1 q1, rdAll_unique ds _ r2 q2]
end
open Classical in
/-- the datum of a value -/
noncomputable def kOf (h : Heap) (v : Value) : D := if q : ∃ d, Rds h v d then Classical.choose q else .non
theorem kOf_is {h : Heap} {v : Value} {d : D} (r : Rds h v d) : kOf h v = d := by
  have q : ∃ d, Rds h v d := ⟨d, r⟩
  unfold kOf
  rw [dif_pos q]
  exact rd_unique _ _ (Classical.choose_spec q) r
theorem perm_lift {α β : Type} (f : α → β) {out m : List β} (p : out.Perm m) : ∀ L : List α, m = L.map f → ∃ L' : List α, L'.Perm L ∧ L'.map f = out := by
  induction p with
  | nil =>
    intro L e
    cases L with
    | nil => exact ⟨[], .nil, rfl⟩
    | cons _ _ => cases e
  | cons x p ih =>
    intro L e
    cases L with
    | nil => cases e
    | cons a t =>
      obtain ⟨rfl, e2⟩ := List.cons.inj e
      obtain ⟨L', h1, h2⟩ := ih t e2
      exact ⟨a :: L', h1.cons a, by rw [List.map_cons, h2]⟩
  | swap x y l =>
    intro L e
    match L, e with
    | a :: b :: t, e =>
      obtain ⟨rfl, e2⟩ := List.cons.inj e
      obtain ⟨rfl, e3⟩ := List.cons.inj e2
      exact ⟨b :: a :: t, .swap _ _ _, by rw [List.map_cons, List.map_cons, e3]⟩
  | trans p q ih1 ih2 =>
    intro L e
    obtain ⟨L2, h1, h2⟩ := ih2 L e
    obtain ⟨L1, h3, h4⟩ := ih1 L2 h2.symm
    exact ⟨L1, h3.trans h1, h4⟩
theorem triples {U : Un} {A0 : Ad} {H : Hp} : ∀ {xs : List V} {us : List Value} {ds : List D}, Vals xs us → IsAll U A0 H xs ds → ∃ L : List (V × Value × D), L.map (·.1) = xs ∧ L.map (·.2.1) = us ∧ L.map (·.2.2) = ds ∧ ∀ t ∈ L, RelV t.1 t.2.1 ∧ Is U A0 H t.1 t.2.2
  | _, _, _, .nil, .nil => ⟨[], rfl, rfl, rfl, fun t h => nomatch h⟩
  | _, _, _, .cons r rs, .cons i is => by
    obtain ⟨L, h1, h2, h3, h4⟩ := triples rs is
    refine ⟨(_, _, _) :: L, by rw [List.map_cons, h1], by rw [List.map_cons, h2], by rw [List.map_cons, h3], fun t ht => ?_⟩
    rcases List.mem_cons.mp ht with rfl | ht
    · exact ⟨r, i⟩
    · exact h4 t ht
theorem triples_back {U : Un} {A0 : Ad} {H : Hp} : ∀ {L : List (V × Value × D)}, (∀ t ∈ L, RelV t.1 t.2.1 ∧ Is U A0 H t.1 t.2.2) → Vals (L.map (·.1)) (L.map (·.2.1)) ∧ IsAll U A0 H (L.map (·.1)) (L.map (·.2.2))
  | [], _ => ⟨.nil, .nil⟩
  | t :: L, h => by
    have q := triples_back (L := L) fun u hu => h u (List.mem_cons_of_mem _ hu)
    have a := h t List.mem_cons_self
    exact ⟨.cons a.1 q.1, .cons a.2 q.2⟩
/-- rising, by what is written -/
def Rising (ds : List D) : Prop := ds.Pairwise fun a b => ltT b a = false
/-- data of one kind, any two of which can be compared -/
structure Sorts (ds : List D) : Prop where
  pl : ∀ d ∈ ds, plain d = true ∧ dep d ≤ 100
  kd : (∀ d ∈ ds, ∃ i, d = .int i) ∨ (∀ d ∈ ds, ∃ z, d = .str z) ∨ ∃ T, ∀ d ∈ ds, Head T d
  ok : ∀ d ∈ ds, ∀ e ∈ ds, okD d e = true
def rSortedD (K : PySem.W.Frag) : List V → Hp → VK → Prop := fun vs H Q => ∃ (U : Un) (A0 : Ad) (a : Addr) (xs : List V) (ds : List D), vs = [.ref a] ∧ SqL K H a xs ∧ IsAll U A0 H xs ds ∧ Sorts ds ∧
  ∀ (ys : List V) (es : List D) (b : Addr), ys.Perm xs → es.Perm ds → IsAll U A0 H ys es → Rising es → H b = none → Q (.ref b) (upd H b (.lst ys))
theorem cr_sortedD {X : Cx} (hu : X.A.units + 200 < cLine) : CallR X (.builtin "sorted") (rSortedD X.K) := by
  intro pins s σ H vs us Q I r h
  obtain ⟨U, A0, a, xs, ds, rfl, hs, hx, hS, q⟩ := h
  obtain ⟨its, rv, hl, hz⟩ := I.list hs
  rw [Vals.ref1 r]
  obtain ⟨L, l1, l2, l3, hL⟩ := triples rv hx
  have hRd : ∀ t ∈ L, Rds s.heap t.2.1 t.2.2 := fun t ht => by
    have hd : t.2.2 ∈ ds := by rw [← l3]; exact List.mem_map.mpr ⟨t, ht, rfl⟩
    have pl := (hS.pl _ hd).1
    obtain ⟨as, r1⟩ := Dp.reads I _ t.1 t.2.1 ((hL t ht).2.dp pl) (hL t ht).1
    exact ⟨⟨as, r1⟩, (hL t ht).2.lay pl, pl⟩
  have hk : ∀ t ∈ L, kOf s.heap t.2.1 = t.2.2 := fun t ht => kOf_is (hRd t ht)
  have hv : ∀ v ∈ its, ∃ t ∈ L, t.2.1 = v := fun v hv => by
    rw [← l2] at hv
    exact List.mem_map.mp hv
  have hm : ∀ t ∈ L, t.2.2 ∈ ds := fun t ht => by rw [← l3]; exact List.mem_map.mpr ⟨t, ht, rfl⟩
  refine SrtO.sorted_ord (swo_ltT (kOf s.heap)) hl.isList (by rw [← rv.length]; exact hz) (fun h2 h₁ b hb kk => ?_) fun out hs1 hs2 => ?_
  · refine sortableD (s := { s with heap := h₁ }) h2 (fun v hm1 => ?_) ?_ (fun v m1 u m2 => ?_) (fun v m1 => ?_) (by show X.A.units + 1 + 1 + 190 < _; omega) (fun o e => ?_)
    · obtain ⟨t, ht, rfl⟩ := hv v hm1
      rw [hk t ht]
      exact rd_but (a := b) (fun c o _ e => (kk c o e).2) (fun o e => absurd rfl (kk b o e).1) _ (hRd t ht)
    · rcases hS.kd with g | g | ⟨T, g⟩
      · exact .inl fun v m => by obtain ⟨t, ht, rfl⟩ := hv v m; rw [hk t ht]; exact g _ (hm t ht)
      · exact .inr (.inl fun v m => by obtain ⟨t, ht, rfl⟩ := hv v m; rw [hk t ht]; exact g _ (hm t ht))
      · exact .inr (.inr ⟨T, fun v m => by obtain ⟨t, ht, rfl⟩ := hv v m; rw [hk t ht]; exact g _ (hm t ht)⟩)
    · obtain ⟨t, ht, rfl⟩ := hv v m1
      obtain ⟨t2, ht2, rfl⟩ := hv u m2
      rw [hk t ht, hk t2 ht2]
      exact hS.ok _ (hm t ht) _ (hm t2 ht2)
    · obtain ⟨t, ht, rfl⟩ := hv v m1
      rw [hk t ht]
      exact (hS.pl _ (hm t ht)).2
    · have e' : some o = some (seqObj "list" its.toArray 0) := e.symm.trans hb
      cases e'
      intro c
      exact absurd (Value.type.inj c) (by decide)
  · obtain ⟨L', p1, p2⟩ := perm_lift (fun t : V × Value × D => t.2.1) hs2.perm L l2.symm
    have hL' : ∀ t ∈ L', RelV t.1 t.2.1 ∧ Is U A0 H t.1 t.2.2 := fun t ht => hL t (p1.mem_iff.mp ht)
    obtain ⟨b1, b2⟩ := triples_back hL'
    rw [p2] at b1
    obtain ⟨ep, he'⟩ := PyProof.Rows.sortedAll_at s.heap its out.toArray
    have hlen : (L'.map (·.1)).length ≤ sizeLine := by
      rw [List.length_map, p1.length_eq]
      have := congrArg List.length l1
      rw [List.length_map] at this
      rw [this]
      exact hz
    refine ⟨.ref _, upd H (s.heap.objs.size + 1) (.lst (L'.map (·.1))), I.laid (t' := s.toks) (fun _ _ => PyProof.Rows.sortedAll_old) (Nat.le_succ _) ⟨hlen, out, ep, b1, he'⟩, rfl, q _ (L'.map (·.2.2)) _ ?_ ?_ b2 ?_ (I.hok.fresh (Nat.le_succ _))⟩
    · rw [← l1]
      exact p1.map _
    · rw [← l3]
      exact p1.map _
    · have hs3 : out.Pairwise fun u v => ltT (kOf s.heap v) (kOf s.heap u) = false := hs1
      rw [← p2, List.pairwise_map] at hs3
      refine List.pairwise_map.mpr (hs3.imp_of_mem fun {t1 t2} m1 m2 z => ?_)
      rw [hk t1 (p1.mem_iff.mp m1), hk t2 (p1.mem_iff.mp m2)] at z
      exact z
end Bx
/-! More operations by data. -/
namespace Bx
open PySem PySem.Spec PyProof.Rows L2
/-! isinstance -/
section
variable {X : Cx} {U : Un} {C : Cz U} {e : Expr} {te : TE} {me : M D} {pos : Pos}
/-- an error -/
def isE : D → Bool
  | .dct ks vs => ks.length != vs.length
  | _ => false
theorem kit_D {pins : List (Addr × Obj)} {σ : L2.St} {H : Hp} {s : Shared} (hU : HU X U) {A : Ad} {x : V} {u : Value} {d : D} (I : Inv X pins σ H s) (rx : RelV x u) (h : Is U A H x d) (hE : isE d = false) : ∃ P : Heap → Prop, PySem.W.KitX X.K u (.type d.kind) P ∧ P s.heap ∧ u ≠ .builtin "__main__.__loader__#opaque" := by
  cases h with
  | non => exact kit_of I rx (.base .non)
  | bl b => exact kit_of I rx (.base (.bl b))
  | int i => exact kit_of I rx (.base (.int i))
  | str z hz => exact kit_of I rx (.base (.str z))
  | tup e h hp => exact kit_of I rx (.base (.tup e))
  | lst e h hp =>
    rcases e with e | ⟨o, e⟩
    · exact kit_of I rx (.base (.lst e))
    · exact kit_of I rx (.base (.frz e))
  | err e ed h hd hp => simp [isE] at hE
  | dct e hk h hp =>
    cases (show u = Value.ref _ from rx)
    obtain ⟨o, es, ep, h1, h2, h3⟩ := isDct hU.P hU.w I e
    exact ⟨_, PySem.W.kitx_dict, ⟨o, h1, h2⟩, fun z => nomatch z⟩
def isK (k T : String) : Bool := k == T || (k == "bool" && T == "int")
def okT (T : String) : Prop := T = "bool" ∨ T = "int" ∨ T = "str" ∨ T = "tuple" ∨ T = "list" ∨ T = "dict"
theorem isK_kit {K : PySem.W.Frag} {d : D} {T : String} (hT : okT T) : PySem.W.kitOne K (.type d.kind) (.type T) = some (isK d.kind T) := by
  refine kit_ty ?_
  rcases hT with rfl | rfl | rfl | rfl | rfl | rfl <;> cases d <;> simp only [D.kind] <;> decide +kernel
def rIsD (U : Un) (T : String) : List V → Hp → VK → Prop := fun xs H Q => ∃ (A : Ad) (v : V) (d : D), xs = [v, .ty T] ∧ Is U A H v d ∧ isE d = false ∧ Q (.bl (isK d.kind T)) H
theorem call_isD (hU : HU X U) {T : String} (hT : okT T) : CallR X (.builtin "isinstance") (rIsD U T) := by
  intro pins s σ H xs us Q I r h
  obtain ⟨A, v, d, rfl, hd, hE, q⟩ := h
  obtain ⟨u1, u2, rfl, r1, r2⟩ := vals2 r
  have e2 : u2 = Value.type T := r2
  subst e2
  obtain ⟨P, Z, p, hx⟩ := kit_D hU I r1 hd hE
  exact PySem.W.kia_one Z I.kIn p (isK_kit hT) hx fun tk => ⟨.bl _, H, I.tok tk, rfl, q⟩
def dIsi (T : String) (d : D) : Option D := if isE d = false then some (.bl (isK d.kind T)) else none
theorem de_isi {T : Str} {Ts : String} {p p2 : Pos} (hU : HU X U) (hg : Gl X "isinstance") (hm : X.mg "isinstance" = none) (h : DE X C e te me) (hT : okT Ts) (hgT : Gl X T) (hmT : X.mg T = none) (hvT : bootBuiltins T = some (.type Ts))
    (hnT : T ≠ "__name__" := by decide) (hdT : (T == ("__debug__" : Str)) = false := by decide) (hv : bootBuiltins "isinstance" = some (.builtin "isinstance") := by decide +kernel)
    (he : starEach (e :: [.Name T p2]) X.env = (false, eval e X.env) :: starEach [.Name T p2] X.env := by rfl) (he2 : starEach (.Name T p2 :: []) X.env = (false, eval (.Name T p2) X.env) :: starEach [] X.env := by rfl) (hpl : (backTo pos (starEach [.Name T p2] X.env)).any (·.1) = false := by rfl) :
    DE X C (.Call (.Name "isinstance" p) [e, .Name T p2] [] pos) (tCB (rIsD U Ts) (tCons te (tCons (tC (.ty Ts)) tNil))) (mUn (dIsi Ts) me) := by
  refine ⟨pe_callB (call_isD hU hT) hg hm hv (pa_cons h.1 (pa_cons (pe_bltn hgT hmT hvT (show RelV (.ty Ts) (.type Ts) from rfl) hnT hdT) pa_nil he2) he) (by decide) (by decide) he hpl, fun σ H ρ r Q O e p => ?_⟩
  refine h.2.then O e p.ex fun d ρ1 v H1 O1 x1 i1 e1 => ?_
  unfold dIsi at e1
  by_cases hE : isE d = false
  · rw [if_pos hE] at e1
    cases e1
    exact ⟨Av C σ, v, d, rfl, i1, hE, p _ H1 O1 x1 (.bl _)⟩
  · rw [if_neg hE] at e1
    cases e1
/-! truths of numbers, texts, rows -/
mutual
theorem eqP_eqD : ∀ d e : D, plain d = true → plain e = true → eqP d e = eqD d e
  | .non, e, _, h => by
    cases e with
    | lst _ => rw [plain] at h; cases h
    | dct _ _ => rw [plain] at h; cases h
    | _ => simp [eqP, eqD, toPy, PyData.eqv]
  | .bl b, e, _, h => by
    cases e with
    | lst _ => rw [plain] at h; cases h
    | dct _ _ => rw [plain] at h; cases h
    | _ => simp [eqP, eqD, toPy, PyData.eqv]
  | .int i, e, _, h => by
    cases e with
    | lst _ => rw [plain] at h; cases h
    | dct _ _ => rw [plain] at h; cases h
    | _ => simp [eqP, eqD, toPy, PyData.eqv]
  | .str z, e, _, h => by
    cases e with
    | lst _ => rw [plain] at h; cases h
    | dct _ _ => rw [plain] at h; cases h
    | _ => simp [eqP, eqD, toPy, PyData.eqv]
  | .tup xs, e, h1, h => by
    cases e with
    | tup ys =>
      rw [plain] at h1 h
      have := eqPL_eqL xs ys h1 h
      rw [eqD, ← this]
      unfold eqP
      rw [toPy, toPy, PyData.eqv]
    | lst _ => rw [plain] at h; cases h
    | dct _ _ => rw [plain] at h; cases h
    | _ => simp [eqP, eqD, toPy, PyData.eqv]
  | .lst _, e, h1, h => by rw [plain] at h1; cases h1
  | .dct _ _, e, h1, h => by rw [plain] at h1; cases h1
theorem eqPL_eqL : ∀ xs ys : List D, plains xs = true → plains ys = true → PyData.eqvAll (toPys xs) (toPys ys) = eqL xs ys
  | [], [], _, _ => by simp [toPys, eqL, PyData.eqvAll]
  | [], y :: ys, _, _ => by simp [toPys, eqL, PyData.eqvAll]
  | x :: xs, [], _, _ => by simp [toPys, eqL, PyData.eqvAll]
  | x :: xs, y :: ys, h1, h2 => by
    rw [plains, Bool.and_eq_true] at h1 h2
    rw [toPys, toPys, PyData.eqvAll, eqL, ← eqP_eqD x y h1.1 h2.1, ← eqPL_eqL xs ys h1.2 h2.2]
    rfl
end
end
end Bx
namespace Bx
open PySem PySem.Spec PyProof.Rows L2
/-! ### data without dicts, as the library's -/
mutual
def pyL : D → PyData
  | .non => .none
  | .bl b => .bool b
  | .int i => .int i
  | .str z => .str z
  | .tup ds => .tuple (pyLs ds)
  | .lst ds => .list (pyLs ds)
  | .dct _ _ => .none
def pyLs : List D → List PyData
  | [] => []
  | d :: r => pyL d :: pyLs r
end
mutual
def noD : D → Bool
  | .tup ds => noDs ds
  | .lst ds => noDs ds
  | .dct _ _ => false
  | _ => true
def noDs : List D → Bool
  | [] => true
  | d :: r => noD d && noDs r
end
section
variable {U : Un} {A : Ad} {H : Hp} {K : PySem.W.Frag}
mutual
theorem Is.dpL {v : V} {d : D} (h : Is U A H v d) (hp : noD d = true) : Dp K H v (pyL d) := by
  cases h with
  | non => rw [pyL]; exact .non
  | bl b => rw [pyL]; exact .bl b
  | int i => rw [pyL]; exact .int i
  | str z hz => rw [pyL]; exact .str z
  | tup e h hp' => rw [pyL]; exact .tup (SqT.of e) (IsAll.dpL h (by rw [noD] at hp; exact hp))
  | lst e h hp' => rw [pyL]; exact .lst (.inl e) (IsAll.dpL h (by rw [noD] at hp; exact hp))
  | dct e hk h hp' => rw [noD] at hp; cases hp
  | err e ed h hd hp' => rw [noD] at hp; cases hp
theorem IsAll.dpL {vs : List V} {ds : List D} (h : IsAll U A H vs ds) (hp : noDs ds = true) : DpAll K H vs (pyLs ds) := by
  cases h with
  | nil => rw [pyLs]; exact .nil
  | cons h t =>
    rw [noDs, Bool.and_eq_true] at hp
    rw [pyLs]
    exact .cons (Is.dpL h hp.1) (IsAll.dpL t hp.2)
end
mutual
theorem Is.layL {v : V} {d : D} (h : Is U A H v d) (hp : noD d = true) : (pyL d).canLay0 = true := by
  cases h with
  | non => rw [pyL]; rfl
  | bl b => rw [pyL]; rfl
  | int i => rw [pyL]; rfl
  | str z hz => rw [pyL]; exact hz.2
  | tup e h hp' => rw [pyL, PyData.canLay0]; exact IsAll.layL h (by rw [noD] at hp; exact hp)
  | lst e h hp' => rw [pyL, PyData.canLay0]; exact IsAll.layL h (by rw [noD] at hp; exact hp)
  | dct e hk h hp' => rw [noD] at hp; cases hp
  | err e ed h hd hp' => rw [noD] at hp; cases hp
theorem IsAll.layL {vs : List V} {ds : List D} (h : IsAll U A H vs ds) (hp : noDs ds = true) : PyData.canLayAll0 (pyLs ds) = true := by
  cases h with
  | nil => rw [pyLs]; rfl
  | cons h t =>
    rw [noDs, Bool.and_eq_true] at hp
    rw [pyLs, PyData.canLayAll0, Is.layL h hp.1, IsAll.layL t hp.2]
    rfl
end
mutual
theorem dep_pyL : ∀ d : D, noD d = true → (pyL d).depth = dep d
  | .non, _ => by rw [pyL]; unfold dep; rfl
  | .bl b, _ => by rw [pyL]; unfold dep; rfl
  | .int i, _ => by rw [pyL]; unfold dep; rfl
  | .str z, _ => by rw [pyL]; unfold dep; rfl
  | .tup ds, h => by rw [pyL, dep, PyData.depth, deps_pyL ds (by rw [noD] at h; exact h)]
  | .lst ds, h => by rw [pyL, dep, PyData.depth, deps_pyL ds (by rw [noD] at h; exact h)]
  | .dct _ _, h => by rw [noD] at h; cases h
theorem deps_pyL : ∀ ds : List D, noDs ds = true → PyData.depthAll (pyLs ds) = deps ds
  | [], _ => by rw [pyLs, deps]; rfl
  | d :: r, h => by
    rw [noDs, Bool.and_eq_true] at h
    rw [pyLs, deps, PyData.depthAll, dep_pyL d h.1, deps_pyL r h.2]
end
mutual
theorem eqv_eqD : ∀ d e : D, noD d = true → noD e = true → PyData.eqv (pyL d) (pyL e) = eqD d e
  | .non, e, _, h => by
    cases e with
    | dct _ _ => rw [noD] at h; cases h
    | _ => simp [eqD, pyL, PyData.eqv]
  | .bl b, e, _, h => by
    cases e with
    | dct _ _ => rw [noD] at h; cases h
    | _ => simp [eqD, pyL, PyData.eqv]
  | .int i, e, _, h => by
    cases e with
    | dct _ _ => rw [noD] at h; cases h
    | _ => simp [eqD, pyL, PyData.eqv]
  | .str z, e, _, h => by
    cases e with
    | dct _ _ => rw [noD] at h; cases h
    | _ => simp [eqD, pyL, PyData.eqv]
  | .tup xs, e, h1, h => by
    cases e with
    | tup ys =>
      rw [noD] at h1 h
      rw [eqD, ← eqv_eqL xs ys h1 h, pyL, pyL, PyData.eqv]
    | dct _ _ => rw [noD] at h; cases h
    | _ => simp [eqD, pyL, PyData.eqv]
  | .lst xs, e, h1, h => by
    cases e with
    | lst ys =>
      rw [noD] at h1 h
      rw [eqD, ← eqv_eqL xs ys h1 h, pyL, pyL, PyData.eqv]
    | dct _ _ => rw [noD] at h; cases h
    | _ => simp [eqD, pyL, PyData.eqv]
  | .dct _ _, e, h1, h => by rw [noD] at h1; cases h1
theorem eqv_eqL : ∀ xs ys : List D, noDs xs = true → noDs ys = true → PyData.eqvAll (pyLs xs) (pyLs ys) = eqL xs ys
  | [], [], _, _ => by simp [pyLs, eqL, PyData.eqvAll]
  | [], y :: ys, _, _ => by simp [pyLs, eqL, PyData.eqvAll]
  | x :: xs, [], _, _ => by simp [pyLs, eqL, PyData.eqvAll]
  | x :: xs, y :: ys, h1, h2 => by
    rw [noDs, Bool.and_eq_true] at h1 h2
    rw [pyLs, pyLs, PyData.eqvAll, eqL, ← eqv_eqD x y h1.1 h2.1, ← eqv_eqL xs ys h1.2 h2.2]
end
end
section
variable {X : Cx} {U : Un}
/-- what != is told of -/
def neok (x y : D) : Prop := noD x = true ∧ noD y = true ∧ dep x ≤ 64 ∧ dep y ≤ 64
instance (x y : D) : Decidable (neok x y) := by unfold neok; infer_instance
def dNe2 (x y : D) : Option D := if neok x y then some (.bl (!eqD x y)) else none
theorem o_ne (hu : X.A.units + 200 < cLine) : OpR X (compareOp .NotEq) (rD2 U dNe2) := by
  intro pins s σ H x y v u Q I rx ry hq
  obtain ⟨A, dx, dy, d, al, ix, iy, hf, q⟩ := hq
  obtain ⟨⟨h1, h2, h3, h4⟩, rfl⟩ := if_some hf
  refine op_neD (by omega) pins s σ H x y v u Q I rx ry ⟨pyL dx, pyL dy, ix.dpL h1, iy.dpL h2, ?_, ?_, ?_⟩
  · unfold SeqAt.shaped
    rw [ix.layL h1, dep_pyL dx h1, decide_eq_true h3]
    rfl
  · unfold SeqAt.shaped
    rw [iy.layL h2, dep_pyL dy h2, decide_eq_true h4]
    rfl
  · rw [eqv_eqD dx dy h1 h2]
    exact q _ H Same.refl' (.bl _)
/-! order -/
def ltok (x y : D) : Prop := plain x = true ∧ plain y = true ∧ okD x y = true ∧ dep x ≤ 100
instance (x y : D) : Decidable (ltok x y) := by unfold ltok; infer_instance
def dLt (x y : D) : Option D := if ltok x y then some (.bl (ltD x y)) else none
theorem o_lt (hu : X.A.units + 200 < cLine) : OpR X (compareOp .Lt) (rD2 U dLt) := by
  intro pins s σ H x y v u Q I rx ry hq
  obtain ⟨A, dx, dy, d, al, ix, iy, hf, q⟩ := hq
  obtain ⟨⟨px, py, ho, hd⟩, rfl⟩ := if_some hf
  exact ltAtD I 100 hd rx ry ix iy px py ho (by omega) X.prog X.w _ _ ⟨.bl _, H, I, rfl, q _ H Same.refl' (.bl _)⟩
def dLe := dI2 (fun _ _ => True) fun i j => .bl (decide (i ≤ j))
def dGt := dI2 (fun _ _ => True) fun i j => .bl (decide (j < i))
def dGe := dI2 (fun _ _ => True) fun i j => .bl (decide (j ≤ i))
theorem o_le : OpR X (compareOp .LtE) (rD2 U dLe) := oB0 op_le
theorem o_gt : OpR X (compareOp .Gt) (rD2 U dGt) := oB0 op_gt
theorem o_ge : OpR X (compareOp .GtE) (rD2 U dGe) := oB0 op_ge
/-! is -/
def dIs : D → D → Option D
  | .non, .non => some (.bl true)
  | .bl b, .non => some (.bl false)
  | .int _, .non => some (.bl false)
  | .str _, .non => some (.bl false)
  | .tup _, .non => some (.bl false)
  | .lst _, .non => some (.bl false)
  | .dct _ _, .non => some (.bl false)
  | .bl a, .bl b => some (.bl (a == b))
  | .non, .bl _ => some (.bl false)
  | .int _, .bl _ => some (.bl false)
  | .str _, .bl _ => some (.bl false)
  | .tup _, .bl _ => some (.bl false)
  | .lst _, .bl _ => some (.bl false)
  | .dct _ _, .bl _ => some (.bl false)
  | _, _ => none
def dIsNot (x y : D) : Option D := match dIs x y with
  | some (.bl b) => some (.bl (!b))
  | _ => none
theorem is_ref_bool {P : Program} {w : World} {Ar : Around} {a : Addr} {b : Bool} {Q : Value → Shared → Prop} {E : Value → Shared → Prop} {s : Shared} (h : Q (.bool false) s) : wpAny (model P w) Ar (compareOp .Is (.ref a) (.bool b)) Q E s := wpAny_is_other rfl (by intro z; cases z) h
theorem o_is : OpR X (compareOp .Is) (rD2 U dIs) := by
  intro pins s σ H x y v u Q I rx ry hq
  obtain ⟨A, dx, dy, d, al, ix, iy, hf, q⟩ := hq
  cases dy with
  | non =>
    have ey := iy.non_inv
    have q2 : ∀ b : Bool, d = .bl b → decide (x = V.non) = b → wpAny (model X.prog X.w) X.A (compareOp .Is v u) (EP X pins σ Q) X.xe s := fun b hd hb =>
      op_isN pins s σ H x y v u Q I rx ry ⟨ey, by rw [hb]; subst hd; exact q _ H Same.refl' (.bl _)⟩
    cases ix <;> (cases hf; exact q2 _ rfl (by simp))
  | bl b =>
    have ey := iy.bl_inv
    subst ey
    cases (show u = Value.bool b from ry)
    have fin : ∀ c : Bool, d = .bl c → EP X pins σ Q (.bool c) s := fun c hd => by subst hd; exact ⟨.bl c, H, I, rfl, q _ H Same.refl' (.bl _)⟩
    cases ix with
    | non => cases hf; cases rx; exact wpAny_is_other rfl (by intro z; cases z) (fin _ rfl)
    | bl a =>
      cases hf
      cases rx
      cases a <;> cases b
      · exact wpAny_is_self rfl (fin _ rfl)
      · exact wpAny_is_other rfl (by intro z; cases z) (fin _ rfl)
      · exact wpAny_is_other rfl (by intro z; cases z) (fin _ rfl)
      · exact wpAny_is_self rfl (fin _ rfl)
    | int i => cases hf; obtain ⟨t, rfl⟩ := rx; exact wpAny_is_other rfl (by intro z; cases z) (fin _ rfl)
    | str z hz => cases hf; obtain ⟨t, rfl⟩ := rx; exact wpAny_is_other rfl (by intro z; cases z) (fin _ rfl)
    | tup e h hp => cases hf; cases rx; exact is_ref_bool (fin _ rfl)
    | lst e h hp => cases hf; cases rx; exact is_ref_bool (fin _ rfl)
    | dct e hk h hp => cases hf; cases rx; exact is_ref_bool (fin _ rfl)
    | err e ed => cases hf; cases rx; exact is_ref_bool (fin _ rfl)
  | _ => cases dx <;> cases hf
def dNotN (x y : D) : Option D := match y with
  | .non => match x with
    | .non => some (.bl false)
    | _ => some (.bl true)
  | _ => none
theorem o_notN : OpR X (compareOp .IsNot) (rD2 U dNotN) := by
  intro pins s σ H x y v u Q I rx ry hq
  obtain ⟨A, dx, dy, d, al, ix, iy, hf, q⟩ := hq
  cases dy with
  | non =>
    have ey := iy.non_inv
    have q2 : ∀ b : Bool, d = .bl b → (!decide (x = V.non)) = b → wpAny (model X.prog X.w) X.A (compareOp .IsNot v u) (EP X pins σ Q) X.xe s := fun b hd hb =>
      op_notN pins s σ H x y v u Q I rx ry ⟨ey, by rw [hb]; subst hd; exact q _ H Same.refl' (.bl _)⟩
    cases ix <;> (cases hf; exact q2 _ rfl (by simp))
  | _ => cases hf
/-! in -/
def inD (x : D) (ys : List D) : Bool := ys.any fun y => eqD y x
def eqokA (x : D) (ys : List D) : Bool := ys.all fun y => eqok y x && decide (dep y ≤ 100)
def dIn (x y : D) : Option D := match y with
  | .lst ys => if eqokA x ys = true then some (.bl (inD x ys)) else none
  | .tup ys => if eqokA x ys = true then some (.bl (inD x ys)) else none
  | .str z => match x with
    | .str c => if c.length = 1 then some (.bl (decide (c.cps.getD 0 0 ∈ z.cps.toList))) else none
    | _ => none
  | _ => none
def dNotIn (x y : D) : Option D := match dIn x y with
  | some (.bl b) => some (.bl (!b))
  | _ => none
end
section
variable {X : Cx} {U : Un} {pins : List (Addr × Obj)} {σ : L2.St} {H : Hp} {s : Shared}
mutual
/-- what a value is compared with does not hang on how it is told -/
theorem Is.congr {A : Ad} : ∀ (x : D) {w : V} {d1 d2 : D}, Is U A H w d1 → Is U A H w d2 → eqD d1 x = eqD d2 x
  | x, w, d1, d2, h1, h2 => by
    cases h1 with
    | non => cases h2; rfl
    | bl b => cases h2; rfl
    | int b => cases h2; rfl
    | str z hz => cases h2; rfl
    | tup e1 h1 p1 =>
      cases h2 with
      | tup e2 h2 p2 =>
        rw [e1] at e2; cases e2
        cases x with
        | tup ys => rw [eqD, eqD]; exact IsAll.congr ys h1 h2
        | _ => rw [eqD, eqD] <;> nofun
      | lst e2 h2 p2 => rcases e2 with e2 | ⟨o, e2⟩ <;> rw [e1] at e2 <;> cases e2
      | dct e2 => cases e2 with
        | k kvs e2 => rw [e1] at e2; cases e2
        | n es e2 => rw [e1] at e2; cases e2
      | err e2 => rw [e1] at e2; cases e2
    | lst e1 h1 p1 =>
      cases h2 with
      | tup e2 h2 p2 => rcases e1 with e1 | ⟨o, e1⟩ <;> rw [e2] at e1 <;> cases e1
      | lst e2 h2 p2 =>
        have key : ∀ {ds es : List D}, (∀ ys, eqL ds ys = eqL es ys) → eqD (.lst ds) x = eqD (.lst es) x := fun k => by
          cases x with
          | lst ys => rw [eqD, eqD]; exact k ys
          | _ => rw [eqD, eqD] <;> nofun
        rcases e1 with e1 | ⟨o, e1⟩ <;> rcases e2 with e2 | ⟨o2, e2⟩ <;> rw [e1] at e2 <;> cases e2
        · cases x with
          | lst ys => rw [eqD, eqD]; exact IsAll.congr ys h1 h2
          | _ => rw [eqD, eqD] <;> nofun
        · cases x with
          | lst ys => rw [eqD, eqD]; exact IsAll.congr ys h1 h2
          | _ => rw [eqD, eqD] <;> nofun
      | dct e2 => cases e2 with
        | k kvs e2 => rcases e1 with e1 | ⟨o, e1⟩ <;> rw [e1] at e2 <;> cases e2
        | n es e2 => rcases e1 with e1 | ⟨o, e1⟩ <;> rw [e1] at e2 <;> cases e2
      | err e2 => rcases e1 with e1 | ⟨o, e1⟩ <;> rw [e1] at e2 <;> cases e2
    | dct e1 =>
      cases h2 with
      | tup e2 h2 p2 => cases e1 with
        | k kvs e1 => rw [e1] at e2; cases e2
        | n es e1 => rw [e1] at e2; cases e2
      | lst e2 h2 p2 => cases e1 with
        | k kvs e1 => rcases e2 with e2 | ⟨o, e2⟩ <;> rw [e1] at e2 <;> cases e2
        | n es e1 => rcases e2 with e2 | ⟨o, e2⟩ <;> rw [e1] at e2 <;> cases e2
      | dct e2 => cases x <;> (rw [eqD, eqD] <;> nofun)
      | err e2 => cases x <;> (rw [eqD, eqD] <;> nofun)
    | err e1 =>
      cases h2 with
      | tup e2 h2 p2 => rw [e1] at e2; cases e2
      | lst e2 h2 p2 => rcases e2 with e2 | ⟨o, e2⟩ <;> rw [e1] at e2 <;> cases e2
      | dct e2 => cases x <;> (rw [eqD, eqD] <;> nofun)
      | err e2 => cases x <;> (rw [eqD, eqD] <;> nofun)
theorem IsAll.congr {A : Ad} : ∀ (ys : List D) {ws : List V} {ds es : List D}, IsAll U A H ws ds → IsAll U A H ws es → eqL ds ys = eqL es ys
  | [], ws, ds, es, h1, h2 => by
    cases h1 with
    | nil => cases h2; rfl
    | cons _ _ => cases h2 with
      | cons _ _ => rw [eqL, eqL] <;> nofun
  | y :: ys, ws, ds, es, h1, h2 => by
    cases h1 with
    | nil => cases h2; rfl
    | cons h1 t1 => cases h2 with
      | cons h2 t2 => rw [eqL, eqL, Is.congr y h1 h2, IsAll.congr ys t1 t2]
end
open Classical in
/-- whether a value is, as a datum, alike to d -/
noncomputable def eqVal (U : Un) (A : Ad) (H : Hp) (d : D) (u : Value) : Bool := if ∃ w e, RelV w u ∧ Is U A H w e ∧ eqD e d = true then true else false
theorem eqVal_of {A : Ad} {w : V} {u : Value} {e d : D} (r : RelV w u) (h : Is U A H w e) : eqVal U A H d u = eqD e d := by
  unfold eqVal
  by_cases q : ∃ w e, RelV w u ∧ Is U A H w e ∧ eqD e d = true
  · rw [if_pos q]
    obtain ⟨w2, e2, r2, h2, q⟩ := q
    obtain rfl := r.inj r2
    rw [Is.congr d h h2, q]
  · rw [if_neg q]
    cases hq : eqD e d with
    | false => rfl
    | true => exact absurd ⟨w, e, r, h, hq⟩ q
theorem mem_eq (hU : HU X U) (I : Inv X pins σ H s) {A : Ad} {Ar : Around} {x : V} {v : Value} {d : D} (rx : RelV x v) (hd : Is U A H x d) (hu : Ar.units + 100 < cLine) : ∀ {vs : List V} {us : List Value} {ds : List D}, Vals vs us → IsAll U A H vs ds → eqokA d ds = true → (∀ u ∈ us, SeqAt.EqAt Ar s u v (eqVal U A H d u)) ∧ us.any (eqVal U A H d) = inD d ds
  | [], _, _, .nil, .nil, _ => ⟨(fun u h => nomatch h), rfl⟩
  | w :: vs, u :: us, e :: ds, .cons r t, .cons h k, ho => by
    unfold eqokA at ho
    rw [List.all_cons, Bool.and_eq_true, Bool.and_eq_true] at ho
    obtain ⟨h1, h2⟩ := mem_eq hU I rx hd hu t k ho.2
    refine ⟨fun u2 hm => ?_, ?_⟩
    · rcases List.mem_cons.mp hm with rfl | hm
      · rw [eqVal_of r h]
        exact eqAtD hU.P hU.w I (B := A) e r rx h hd ho.1.1 (by have := of_decide_eq_true ho.1.2; omega)
      · exact h1 u2 hm
    · unfold inD
      rw [List.any_cons, List.any_cons, h2, eqVal_of r h]
      rfl
theorem one_sign {c : Str} (hl : c.length = 1) : c = ⟨#[c.cps.getD 0 0]⟩ := by
  obtain ⟨cs⟩ := c
  have h1 : cs.size = 1 := hl
  congr 1
  apply Array.ext
  · exact h1
  · intro i h2 h3
    have : i = 0 := by simp at h3; omega
    subst this
    simp [Array.getD, h2]
end
section
variable {X : Cx} {U : Un}
theorem o_in (hU : HU X U) (hu : X.A.units + 200 < cLine) : OpR X (compareOp .In) (rD2 U dIn) := by
  intro pins s σ H x y v u Q I rx ry hq
  obtain ⟨A, dx, dy, d, al, ix, iy, hf, q⟩ := hq
  have hu' : X.A.in1.units + 100 < cLine := by show X.A.units + 1 + 100 < cLine; omega
  unfold dIn at hf
  cases dy with
  | lst ys =>
    obtain ⟨ho, rfl⟩ := if_some hf
    obtain ⟨a, xs, rfl, e, h, na⟩ := iy.lst_inv
    cases ry
    obtain ⟨its, r, pl, hz⟩ := I.list (.inl e)
    obtain ⟨h1, h2⟩ := mem_eq hU I rx ix hu' r h ho
    have h3 : its.toArray.any (eqVal U A H dx) = inD dx ys := by rw [← h2]; simp
    exact SeqAt.in_listAt (eqVal U A H dx) pl.isList (fun w hw => h1 w (by simpa using hw)) (by rw [h3]; exact ⟨.bl _, H, I, rfl, q _ H Same.refl' (.bl _)⟩)
  | tup ys =>
    obtain ⟨ho, rfl⟩ := if_some hf
    obtain ⟨a, xs, rfl, e, h, na⟩ := iy.tup_inv
    cases ry
    obtain ⟨its, r, pl, hz⟩ := I.tuple (SqT.of e)
    obtain ⟨h1, h2⟩ := mem_eq hU I rx ix hu' r h ho
    have h3 : its.toArray.any (eqVal U A H dx) = inD dx ys := by rw [← h2]; simp
    exact SeqAt.in_tupleAt (eqVal U A H dx) pl (fun w hw => h1 w (by simpa using hw)) (by rw [h3]; exact ⟨.bl _, H, I, rfl, q _ H Same.refl' (.bl _)⟩)
  | str z =>
    cases dx with
    | str c =>
      obtain ⟨hl, rfl⟩ := if_some hf
      obtain ⟨rfl, hc⟩ := ix.str_inv
      obtain ⟨rfl, hz⟩ := iy.str_inv
      exact op_in_sign pins s σ H _ _ v u Q I rx ry ⟨_, z, by rw [← one_sign hl], rfl, q _ H Same.refl' (.bl _)⟩
    | _ => cases hf
  | _ => cases hf
theorem dNotIn_some {x y d : D} (h : dNotIn x y = some d) : ∃ b, dIn x y = some (.bl b) ∧ d = .bl (!b) := by
  unfold dNotIn at h
  split at h
  · rename_i b hb; cases h; exact ⟨b, hb, rfl⟩
  · cases h
theorem o_notIn (hU : HU X U) (hu : X.A.units + 200 < cLine) : OpR X (compareOp .NotIn) (rD2 U dNotIn) := by
  intro pins s σ H x y v u Q I rx ry hq
  obtain ⟨A, dx, dy, d, al, ix, iy, hf, q⟩ := hq
  have hu' : X.A.in1.units + 100 < cLine := by show X.A.units + 1 + 100 < cLine; omega
  obtain ⟨b, hf2, rfl⟩ := dNotIn_some hf
  clear hf
  have hf := hf2
  clear hf2
  unfold dIn at hf
  cases dy with
  | lst ys =>
    obtain ⟨ho, hb⟩ := if_some hf
    cases hb
    obtain ⟨a, xs, rfl, e, h, na⟩ := iy.lst_inv
    cases ry
    obtain ⟨its, r, pl, hz⟩ := I.list (.inl e)
    obtain ⟨h1, h2⟩ := mem_eq hU I rx ix hu' r h ho
    have h3 : its.toArray.any (eqVal U A H dx) = inD dx ys := by rw [← h2]; simp
    exact SeqAt.notIn_listAt (eqVal U A H dx) pl.isList (fun w hw => h1 w (by simpa using hw)) (by rw [h3]; exact ⟨.bl _, H, I, rfl, q _ H Same.refl' (.bl _)⟩)
  | tup ys =>
    obtain ⟨ho, hb⟩ := if_some hf
    cases hb
    obtain ⟨a, xs, rfl, e, h, na⟩ := iy.tup_inv
    cases ry
    obtain ⟨its, r, pl, hz⟩ := I.tuple (SqT.of e)
    obtain ⟨h1, h2⟩ := mem_eq hU I rx ix hu' r h ho
    have h3 : its.toArray.any (eqVal U A H dx) = inD dx ys := by rw [← h2]; simp
    exact SeqAt.notIn_tupleAt (eqVal U A H dx) pl (fun w hw => h1 w (by simpa using hw)) (by rw [h3]; exact ⟨.bl _, H, I, rfl, q _ H Same.refl' (.bl _)⟩)
  | str z =>
    cases dx with
    | str c =>
      obtain ⟨hl, hb⟩ := if_some hf
      cases hb
      obtain ⟨rfl, hc⟩ := ix.str_inv
      obtain ⟨rfl, hz⟩ := iy.str_inv
      exact op_notIn_sign pins s σ H _ _ v u Q I rx ry ⟨_, z, by rw [← one_sign hl], rfl, q _ H Same.refl' (.bl _)⟩
    | _ => cases hf
  | _ => cases hf
/-- in a row of texts that stands in the written part -/
def rInC (U : Un) (zs : List Str) : R2 := fun x y H Q => ∃ A dx p, y = .ref p ∧ SqT U.K H p (zs.map V.str) ∧ Is U A H x dx ∧ Q (.bl (inD dx (zs.map D.str))) H
/-! subscripts -/
def dIx (x y : D) : Option D := match x, y with
  | .lst ds, .int i => atI ds i
  | .tup ds, .int i => atI ds i
  | .str z, .int i => match atI z.cps.toList i with
    | some c => some (.str (oneS c))
    | none => none
  | _, _ => none
theorem atI_all {A : Ad} {H : Hp} {xs : List V} {ds : List D} {i : Int} {d : D} (h : IsAll U A H xs ds) (e : atI ds i = some d) : ∃ v, atI xs i = some v ∧ Is U A H v d := by
  unfold atI at e ⊢
  rw [h.length]
  cases hi : ixN ds.length i with
  | none => rw [hi] at e; cases e
  | some j =>
    rw [hi] at e
    exact h.get (i := j) (by simpa using e)
theorem ix_orX {r r' : R2} (h : IxR X r) (h' : IxR X r') : IxR X (fun x y H Q => r x y H Q ∨ r' x y H Q) := IxR.or h h'
theorem o_ix (hU : HU X U) : IxR X (rD2 U dIx) := by
  intro value slice pins s σ H x y v u Q I rx ry hq hs
  obtain ⟨A, dx, dy, d, al, ix, iy, hf, q⟩ := hq
  unfold dIx at hf
  cases dy with
  | int i =>
    have ey := iy.int_inv
    cases dx with
    | lst ds =>
      obtain ⟨a, xs, rfl, e, h, na⟩ := ix.lst_inv
      obtain ⟨w, hw, iw⟩ := atI_all h hf
      exact ix_list value slice pins s σ H _ y v u Q I rx ry ⟨a, xs, i, w, rfl, ey, .inl e, hw, q _ H Same.refl' iw⟩ hs
    | tup ds =>
      obtain ⟨a, xs, rfl, e, h, na⟩ := ix.tup_inv
      obtain ⟨w, hw, iw⟩ := atI_all h hf
      exact ix_tup value slice pins s σ H _ y v u Q I rx ry ⟨a, xs, i, w, rfl, ey, SqT.of e, hw, q _ H Same.refl' iw⟩ hs
    | str z =>
      obtain ⟨rfl, hz⟩ := ix.str_inv
      simp only at hf
      cases hc : atI z.cps.toList i with
      | none => rw [hc] at hf; cases hf
      | some c =>
        rw [hc] at hf
        cases hf
        refine ix_str value slice pins s σ H _ y v u Q I rx ry ⟨z, i, c, rfl, ey, Nat.le_trans hz.1 (by decide), hc, q _ H Same.refl' (.str _ ⟨by show 1 ≤ maxS; decide, ?_⟩)⟩ hs
        have hm : c ∈ z.cps.toList := by
          unfold atI at hc
          cases hi : ixN z.cps.toList.length i with
          | none => rw [hi] at hc; cases hc
          | some j => rw [hi] at hc; exact List.mem_of_getElem? (by simpa using hc)
        refine Pr.strOk_iff.mpr fun d hd => ?_
        rw [List.mem_singleton.mp hd]
        exact Pr.strOk_iff.mp hz.2 c hm
    | _ => cases hf
  | _ => cases dx <;> cases hf
/-! slices -/
def cutL {α : Type} (xs : List α) (lo hi : Option Int) : List α := (xs.drop (HT.sIx xs.length 0 lo)).take (HT.sIx xs.length xs.length hi - HT.sIx xs.length 0 lo)
def dSl (x : D) (lo hi : Option Int) : Option D := match x with
  | .lst ds => if ds.length ≤ maxL then some (.lst (cutL ds lo hi)) else none
  | .tup ds => some (.tup (cutL ds lo hi))
  | .str z => some (.str (cutS z lo hi))
  | _ => none
theorem IsAll.cut {A : Ad} {H : Hp} {xs : List V} {ds : List D} (h : IsAll U A H xs ds) (lo hi : Option Int) : IsAll U A H (cutV xs lo hi) (cutL ds lo hi) := by
  unfold cutV cutL
  rw [h.length]
  exact (h.drop _).take _
theorem cutS_len (z : Str) (lo hi : Option Int) : (cutS z lo hi).length ≤ z.length := by
  unfold cutS
  show (List.toArray _).size ≤ _
  rw [List.size_toArray, List.length_take, List.length_drop]
  show _ ≤ z.cps.size
  have : z.cps.toList.length = z.cps.size := rfl
  omega
end
section
variable {X : Cx} {U : Un}
theorem o_sl (hU : HU X U) : SlR X (rDS U dSl) := by
  intro pins s σ H x v vl vu lo hi sl Q I rx hs pl pu hq
  obtain ⟨A, dx, d, al, ix, hf, q⟩ := hq
  unfold dSl at hf
  cases dx with
  | lst ds =>
    obtain ⟨hl, rfl⟩ := if_some hf
    obtain ⟨a, xs, rfl, e, h, na⟩ := ix.lst_inv
    refine sl_list pins s σ H _ v vl vu lo hi sl Q I rx hs pl pu ?_
    exact ⟨a, xs, rfl, .inl e, fun p hp => q _ _ (Same.new hp) (Is.newL al hp (h.cut lo hi))⟩
  | tup ds =>
    cases hf
    obtain ⟨a, xs, rfl, e, h, na⟩ := ix.tup_inv
    refine sl_tupA pins s σ H _ v vl vu lo hi sl Q I rx hs pl pu ⟨a, xs, rfl, SqT.of e, fun hw => ?_, fun _ p hp => q _ _ (Same.new hp) (Is.newT al hp (h.cut lo hi))⟩
    have h2 := h.cut lo hi
    rw [Pr.cutV_whole hw] at h2
    exact q _ H Same.refl' (.tup e h2 na)
  | str z =>
    cases hf
    obtain ⟨rfl, hz⟩ := ix.str_inv
    refine sl_str pins s σ H _ v vl vu lo hi sl Q I rx hs pl pu ?_
    exact ⟨z, rfl, Nat.le_trans hz.1 (by decide), q _ H Same.refl' (.str _ ⟨Nat.le_trans (cutS_len z lo hi) hz.1, Pr.strOk_cut hz.2 lo hi⟩)⟩
  | _ => cases hf
/-! builtins -/
def dLen : List D → Option D
  | [.str z] => some (.int z.length)
  | [.lst ds] => some (.int ds.length)
  | [.tup ds] => some (.int ds.length)
  | _ => none
theorem isAll_inv1 {A : Ad} {H : Hp} {xs : List V} {d : D} (h : IsAll U A H xs [d]) : ∃ v, xs = [v] ∧ Is U A H v d := isAll_one h
theorem o_len (hU : HU X U) : CallR X (.builtin "len") (rDN U dLen) := by
  intro pins s σ H xs us Q I r hq
  obtain ⟨A, ds, d, al, ix, hf, q⟩ := hq
  match ds, hf with
  | [.str z], hf =>
    cases hf
    obtain ⟨v, rfl, i1⟩ := isAll_one ix
    obtain ⟨rfl, hz⟩ := i1.str_inv
    exact call_len_str pins s σ H _ us Q I r ⟨z, rfl, Nat.le_trans hz.1 (by decide), q _ H Same.refl' (.int _)⟩
  | [.lst es], hf =>
    cases hf
    obtain ⟨v, rfl, i1⟩ := isAll_one ix
    obtain ⟨a, vs, rfl, e, h, na⟩ := i1.lst_inv
    exact call_len_seq pins s σ H _ us Q I r ⟨a, vs, rfl, .inl (.inl e), by rw [h.length]; exact q _ H Same.refl' (.int _)⟩
  | [.tup es], hf =>
    cases hf
    obtain ⟨v, rfl, i1⟩ := isAll_one ix
    obtain ⟨a, vs, rfl, e, h, na⟩ := i1.tup_inv
    exact call_len_seq pins s σ H _ us Q I r ⟨a, vs, rfl, .inr (SqT.of e), by rw [h.length]; exact q _ H Same.refl' (.int _)⟩
def boolsD : List D → Option (List Bool)
  | [] => some []
  | .bl b :: r => (boolsD r).map (b :: ·)
  | _ => none
def intsD : List D → Option (List Int)
  | [] => some []
  | .int b :: r => (intsD r).map (b :: ·)
  | _ => none
def strsD : List D → Option (List Str)
  | [] => some []
  | .str b :: r => (strsD r).map (b :: ·)
  | _ => none
theorem boolsD_is {A : Ad} {H : Hp} : ∀ {vs : List V} {ds : List D} {bs : List Bool}, IsAll U A H vs ds → boolsD ds = some bs → vs = bs.map V.bl
  | _, [], bs, .nil, e => by cases e; rfl
  | _, d :: ds, bs, .cons h t, e => by
    cases d with
    | bl b =>
      rw [boolsD] at e
      cases hr : boolsD ds with
      | none => rw [hr] at e; cases e
      | some cs =>
        rw [hr] at e
        cases e
        rw [h.bl_inv, boolsD_is t hr]
        rfl
    | _ => cases e
theorem intsD_is {A : Ad} {H : Hp} : ∀ {vs : List V} {ds : List D} {bs : List Int}, IsAll U A H vs ds → intsD ds = some bs → vs = bs.map V.int
  | _, [], bs, .nil, e => by cases e; rfl
  | _, d :: ds, bs, .cons h t, e => by
    cases d with
    | int b =>
      rw [intsD] at e
      cases hr : intsD ds with
      | none => rw [hr] at e; cases e
      | some cs =>
        rw [hr] at e
        cases e
        rw [h.int_inv, intsD_is t hr]
        rfl
    | _ => cases e
theorem strsD_is {A : Ad} {H : Hp} : ∀ {vs : List V} {ds : List D} {bs : List Str}, IsAll U A H vs ds → strsD ds = some bs → vs = bs.map V.str ∧ ∀ z ∈ bs, okS z
  | _, [], bs, .nil, e => by cases e; exact ⟨rfl, fun _ h => nomatch h⟩
  | _, d :: ds, bs, .cons h t, e => by
    cases d with
    | str b =>
      rw [strsD] at e
      cases hr : strsD ds with
      | none => rw [hr] at e; cases e
      | some cs =>
        rw [hr] at e
        cases e
        obtain ⟨e1, hb⟩ := h.str_inv
        obtain ⟨e2, hc⟩ := strsD_is t hr
        refine ⟨by rw [e1, e2]; rfl, fun z hz => ?_⟩
        rcases List.mem_cons.mp hz with rfl | hz
        · exact hb
        · exact hc z hz
    | _ => cases e
def dAll : List D → Option D
  | [.lst ds] => (boolsD ds).map fun bs => .bl (bs.all id)
  | _ => none
def dAny : List D → Option D
  | [.lst ds] => (boolsD ds).map fun bs => .bl (bs.any id)
  | _ => none
def dSum : List D → Option D
  | [.lst ds] => (intsD ds).map fun bs => .int bs.sum
  | _ => none
theorem map_some {α β : Type} {x : Option α} {f : α → β} {d : β} (h : x.map f = some d) : ∃ a, x = some a ∧ d = f a := by
  cases x with
  | none => cases h
  | some a => cases h; exact ⟨a, rfl, rfl⟩
theorem o_all (hc : X.calm = true) (hU : HU X U) : CallR X (.builtin "all") (rDN U dAll) := by
  intro pins s σ H xs us Q I r hq
  obtain ⟨A, ds, d, al, ix, hf, q⟩ := hq
  match ds, hf with
  | [.lst es], hf =>
    obtain ⟨bs, hb, rfl⟩ := map_some hf
    obtain ⟨v, rfl, i1⟩ := isAll_one ix
    obtain ⟨a, vs, rfl, e, h, na⟩ := i1.lst_inv
    exact cr_all hc pins s σ H _ us Q I r ⟨a, bs, rfl, .inl (by rw [← boolsD_is h hb]; exact e), q _ H Same.refl' (.bl _)⟩
theorem o_any (hc : X.calm = true) (hU : HU X U) : CallR X (.builtin "any") (rDN U dAny) := by
  intro pins s σ H xs us Q I r hq
  obtain ⟨A, ds, d, al, ix, hf, q⟩ := hq
  match ds, hf with
  | [.lst es], hf =>
    obtain ⟨bs, hb, rfl⟩ := map_some hf
    obtain ⟨v, rfl, i1⟩ := isAll_one ix
    obtain ⟨a, vs, rfl, e, h, na⟩ := i1.lst_inv
    exact cr_any hc pins s σ H _ us Q I r ⟨a, bs, rfl, .inl (by rw [← boolsD_is h hb]; exact e), q _ H Same.refl' (.bl _)⟩
theorem o_sum (hc : X.calm = true) (hU : HU X U) : CallR X (.builtin "sum") (rDN U dSum) := by
  intro pins s σ H xs us Q I r hq
  obtain ⟨A, ds, d, al, ix, hf, q⟩ := hq
  match ds, hf with
  | [.lst es], hf =>
    obtain ⟨bs, hb, rfl⟩ := map_some hf
    obtain ⟨v, rfl, i1⟩ := isAll_one ix
    obtain ⟨a, vs, rfl, e, h, na⟩ := i1.lst_inv
    exact cr_sum hc pins s σ H _ us Q I r ⟨a, bs, rfl, .inl (by rw [← intsD_is h hb]; exact e), q _ H Same.refl' (.int _)⟩
def dTuple : List D → Option D
  | [.lst ds] => some (.tup ds)
  | [.tup ds] => some (.tup ds)
  | _ => none
theorem o_tuple (hU : HU X U) : CallR X (.type "tuple") (rDN U dTuple) := by
  intro pins s σ H xs us Q I r hq
  obtain ⟨A, ds, d, al, ix, hf, q⟩ := hq
  match ds, hf with
  | [.lst es], hf =>
    cases hf
    obtain ⟨v, rfl, i1⟩ := isAll_one ix
    obtain ⟨a, vs, rfl, e, h, na⟩ := i1.lst_inv
    exact call_tuple_of pins s σ H _ us Q I r ⟨a, vs, rfl, .inl ⟨.inl e, fun p hp => q _ _ (Same.new hp) (Is.newT al hp h)⟩⟩
  | [.tup es], hf =>
    cases hf
    obtain ⟨v, rfl, i1⟩ := isAll_one ix
    have i1' := i1
    obtain ⟨a, vs, rfl, e, h, na⟩ := i1.tup_inv
    exact call_tuple_of pins s σ H _ us Q I r ⟨a, vs, rfl, .inr ⟨SqT.of e, q _ H Same.refl' i1'⟩⟩
def dList : List D → Option D
  | [.lst ds] => some (.lst ds)
  | [.tup ds] => some (.lst ds)
  | _ => none
theorem o_list (hU : HU X U) : CallR X (.type "list") (rDN U dList) := by
  intro pins s σ H xs us Q I r hq
  obtain ⟨A, ds, d, al, ix, hf, q⟩ := hq
  match ds, hf with
  | [.lst es], hf =>
    cases hf
    obtain ⟨v, rfl, i1⟩ := isAll_one ix
    obtain ⟨a, vs, rfl, e, h, na⟩ := i1.lst_inv
    exact call_list_of pins s σ H _ us Q I r ⟨a, vs, rfl, .inl (.inl e), fun p hp => q _ _ (Same.new hp) (Is.newL al hp h)⟩
  | [.tup es], hf =>
    cases hf
    obtain ⟨v, rfl, i1⟩ := isAll_one ix
    obtain ⟨a, vs, rfl, e, h, na⟩ := i1.tup_inv
    exact call_list_of pins s σ H _ us Q I r ⟨a, vs, rfl, .inr (SqT.of e), fun p hp => q _ _ (Same.new hp) (Is.newL al hp h)⟩
def dAbs : List D → Option D
  | [.int i] => some (.int (if i < 0 then -i else i))
  | _ => none
def dMax2 : List D → Option D
  | [.int i, .int j] => some (.int (if j > i then j else i))
  | _ => none
def dMin2 : List D → Option D
  | [.int i, .int j] => some (.int (if j < i then j else i))
  | _ => none
def dInt : List D → Option D
  | [.int i] => some (.int i)
  | [.bl k] => some (.int (if k = true then 1 else 0))
  | _ => none
theorem o_abs : CallR X (.builtin "abs") (rDN U dAbs) := by
  intro pins s σ H xs us Q I r hq
  obtain ⟨A, ds, d, al, ix, hf, q⟩ := hq
  match ds, hf with
  | [.int i], hf =>
    cases hf
    obtain ⟨v, rfl, i1⟩ := isAll_one ix
    exact call_abs pins s σ H _ us Q I r ⟨i, by rw [i1.int_inv], q _ H Same.refl' (.int _)⟩
theorem o_max2 (hc : X.calm = true) : CallR X (.builtin "max") (rDN U dMax2) := by
  intro pins s σ H xs us Q I r hq
  obtain ⟨A, ds, d, al, ix, hf, q⟩ := hq
  match ds, hf with
  | [.int i, .int j], hf =>
    cases hf
    obtain ⟨v, w, rfl, i1, i2⟩ := isAll_two ix
    exact call_max2 hc pins s σ H _ us Q I r ⟨i, j, by rw [i1.int_inv, i2.int_inv], q _ H Same.refl' (.int _)⟩
theorem o_min2 (hc : X.calm = true) : CallR X (.builtin "min") (rDN U dMin2) := by
  intro pins s σ H xs us Q I r hq
  obtain ⟨A, ds, d, al, ix, hf, q⟩ := hq
  match ds, hf with
  | [.int i, .int j], hf =>
    cases hf
    obtain ⟨v, w, rfl, i1, i2⟩ := isAll_two ix
    exact call_min2 hc pins s σ H _ us Q I r ⟨i, j, by rw [i1.int_inv, i2.int_inv], q _ H Same.refl' (.int _)⟩
theorem o_int : CallR X (.type "int") (rDN U dInt) := by
  intro pins s σ H xs us Q I r hq
  obtain ⟨A, ds, d, al, ix, hf, q⟩ := hq
  match ds, hf with
  | [.int i], hf =>
    cases hf
    obtain ⟨v, rfl, i1⟩ := isAll_one ix
    exact call_int1 pins s σ H _ us Q I r (.inl ⟨i, by rw [i1.int_inv], q _ H Same.refl' (.int _)⟩)
  | [.bl k], hf =>
    cases hf
    obtain ⟨v, rfl, i1⟩ := isAll_one ix
    exact call_int1 pins s σ H _ us Q I r (.inr ⟨k, by rw [i1.bl_inv], q _ H Same.refl' (.int _)⟩)
/-! sorted -/
open Classical in
/-- the sorted row, where all can be compared and no two alike are unlike data -/
noncomputable def sortD (ds : List D) : List D := if h : ∃ es : List D, es.Perm ds ∧ Rising es then choose h else ds
def Tight (ds : List D) : Prop := ∀ d ∈ ds, ∀ e ∈ ds, PySem.W.keyToks (toPy d) = PySem.W.keyToks (toPy e) → d = e
theorem rising_one {xs ys : List D} (h1 : Rising xs) (h2 : Rising ys) (p : xs.Perm ys) (t : Tight xs) : xs = ys := by
  have anti : ∀ a b, a ∈ xs → b ∈ xs → ltT b a = false → ltT a b = false → a = b := fun a b ha hb q1 q2 => t a ha b hb (PyProof.Rows.lex_total (O := itemOrd) _ _ q2 q1)
  exact p.eq_of_pairwise (le := fun a b => ltT b a = false) (fun a b ha hb q1 q2 => anti a b ha (p.mem_iff.mpr hb) q1 q2) h1 h2
theorem sortD_of {ds es : List D} (p : es.Perm ds) (h : Rising es) (t : Tight ds) : sortD ds = es := by
  unfold sortD
  have hx : ∃ es : List D, es.Perm ds ∧ Rising es := ⟨es, p, h⟩
  rw [dif_pos hx]
  have q := Classical.choose_spec hx
  exact rising_one q.2 h (q.1.trans p.symm) fun a ha b hb => t a (q.1.mem_iff.mp ha) b (q.1.mem_iff.mp hb)
open Classical in
noncomputable def dSorted : List D → Option D
  | [.lst ds] => if Sorts ds ∧ Tight ds then some (.lst (sortD ds)) else none
  | _ => none
theorem o_sorted (hU : HU X U) (hu : X.A.units + 200 < cLine) : CallR X (.builtin "sorted") (rDN U dSorted) := by
  intro pins s σ H xs us Q I r hq
  obtain ⟨A, ds, d, al, ix, hf, q⟩ := hq
  match ds, hf with
  | [.lst es], hf =>
    unfold dSorted at hf
    dsimp only at hf
    by_cases hst : Sorts es ∧ Tight es
    case neg => rw [if_neg hst] at hf; cases hf
    rw [if_pos hst] at hf
    obtain ⟨hs, ht⟩ := hst
    cases hf
    obtain ⟨v, rfl, i1⟩ := isAll_one ix
    obtain ⟨a, vs, rfl, e, h, na⟩ := i1.lst_inv
    refine cr_sortedD hu pins s σ H _ us Q I r ⟨U, A, a, vs, es, rfl, .inl e, h, hs, fun ys fs b p1 p2 i2 ri hb => ?_⟩
    rw [sortD_of p2 ri ht] at q
    exact q _ _ (Same.new hb) (Is.newL al hb i2)
end
end Bx
set_option maxHeartbeats 2000000
/-! Errors that keep a thing: LookupError's own classes with an own __init__. -/
namespace PySem
namespace LkX
open PySem.W PySem.Calls PyProof.Rows PySem.HandSPX Builtin Builtin.ObjectAttr
abbrev bmL : List Value := [.type "LookupError", .type "Exception", .type "BaseException", .type "object"]
section
variable {prog : Program} {w : World} {A : Around} {E : Value → Shared → Prop} {R : Result → Shared → Prop} {hp : Heap} {g : Array GenState} {d : Drawn} {t : Nat} {os : OsState}
/-- self.name = v on a LookupError of one's own that has no dict yet -/
theorem osaL {K : W.Frag} {name : Str} {tk : Tok} {v : Value} {x C t1 : Addr} (X : K.In hp) (hx : hp.get? x = some (excObj C t1 none .none)) (hov : excOver K C bmL = true) (ht : takerIn K C name = some none) (hh : hasDictIn K C = true)
    (hq : ∀ h' tk' dx, (∀ b o, b ≠ x → hp.get? b = some o → h'.get? b = some o) → hp.objs.size ≤ dx → dx ≠ x → h'.get? x = some (excObj C t1 (some dx) .none) →
      h'.Ns1 dx (fun y => if y = name then some v else none) → R (.ok (.ret .none)) ⟨h', g, d, tk', os⟩) :
    codeAny (model prog w) A (.call (.builtin "object.__setattr__") ⟨[.ref x, .str name tk, v], []⟩) R ⟨hp, g, d, t, os⟩ := by
  have I : InstAt hp x (excObj C t1 none .none) C none := ⟨hx, rfl, rfl, trivial⟩
  refine osa_openX (s := ⟨hp, g, d, t, os⟩) (od := none) PySem.F.store_LookupError X I hov ht fun b => ?_
  obtain ⟨cd, hc, hd'⟩ := any_some hh
  have hxs : x ≠ hp.objs.size := Nat.ne_of_lt (Heap.lt_size hx)
  refine wpAny_bind (wpAny_pure (wpAny_bind (instanceDict_exc (s := ⟨hp, g, d, t, os⟩) hx (looks_clsIn X hc) hd' ?_)))
  show wpAny _ _ (storeInDict hp.objs.size (.str name tk) name v) _ _ _
  refine store_in_new ⟨_, #[], _, (Heap.get?_update_ne _ _ _ _ hxs.symm).trans (Heap.get?_push_at rfl rfl), rfl, fun e he => absurd he (by simp), fun _ => rfl⟩ fun h' tk' hn' hs => ?_
  have hx₁ : (hp.push (dictOf [] 0)).get? x = some (excObj C t1 none .none) := Heap.get?_push_of_some _ hx
  refine hq h' tk' hp.objs.size (fun b o hb ho => ?_) (Nat.le_refl _) hxs.symm ?_ hn'
  · exact (hs.2 b (Nat.ne_of_lt (Heap.lt_size ho))).trans ((Heap.get?_update_ne _ _ _ _ hb).trans (Heap.get?_push_of_some _ ho))
  · exact (hs.2 x hxs).trans (Heap.get?_update_self _ hx₁ rfl)
end
theorem typ_LE : typeOf (.type "LookupError") = pure (.type "type") := by kernel_rfl
end LkX
end PySem
namespace Bx
open PySem PySem.Spec PyProof.Rows L2
/-- what the written part says of such a class -/
structure LkC (K : PySem.W.Frag) (C : Addr) : Prop where
  ini : PySem.W.excInitIn K C PySem.LkX.bmL "LookupError.__new__" = true
  over : PySem.W.excOver K C PySem.LkX.bmL = true
  tk : PySem.W.takerIn K C "name" = some none
  hd : PySem.W.hasDictIn K C = true
  sa : PySem.W.findIn K (.ref C) "__setattr__" = some (some (.builtin "object.__setattr__"))
section
variable {X : Cx} {pins : List (Addr × Obj)} {σ : L2.St} {H : Hp} {s : Shared} {a C : Addr} {y : V} {u : Value} {A : Around}
/-- self.name = y -/
theorem ost_L {Q : Unit → Shared → Prop} {E : Value → Shared → Prop} (T : LkC X.K C) (I : Inv X pins σ H s) (e : H a = some (exo a C none)) (ry : RelV y u)
    (h : ∀ dx s', H dx = none → dx ≠ a → Inv X pins σ (upd (upd H dx (exd dx [("name", y)])) a (exo a C (some dx))) s' → Q () s') : wpAny (model X.prog X.w) A (setAttr (.ref a) "name" u) Q E s := by
  obtain ⟨t1, ho⟩ := exo_at I.hok e
  obtain ⟨hp, g, d, t, os⟩ := s
  refine PySem.W.set_plain I.kIn (ox := { cls := .ref C, dict := none, data := .fields #[.ref t1, .none, .none, .none, .bool false, .none] }) (od := none) ⟨ho, rfl, rfl, trivial⟩ T.sa ?_
  refine PySem.LkX.osaL I.kIn ho T.over T.tk T.hd (fun h' tk' dx k dn dne hx hn => ?_)
  have hnd : H dx = none := I.hok.fresh dn
  have nd : ∀ {b : Addr} {o : Obj}, hp.get? b = some o → b ≠ dx := fun {b o} q => Nat.ne_of_lt (Nat.lt_of_lt_of_le (Heap.lt_size q) dn)
  have na : ∀ {b : Addr}, H b = none → b ≠ a := fun {b} n z => by
    rw [z, e] at n
    cases n
  have Un1 : L2.Un X.fs [] H (upd (upd H dx (exd dx [("name", y)])) a (exo a C (some dx))) hp h' := {
    keep := fun b o q n _ _ => k b o (na n) q
    slot := fun b o q n _ _ => ⟨o.slots, k b o (na n) q⟩
    free := fun b o q n _ => by rw [upd_ne (na n), upd_ne (nd q)]; exact n
    there := fun b o q _ => by
      by_cases hb : b = a
      · exact ⟨_, by rw [hb]; exact hx⟩
      · exact ⟨o, k b o hb q⟩
    tups := fun b xs q => by rw [upd_ne (at_ne e q exo_tup), upd_ne (ne_of_none q hnd)]; exact q
    frzs := fun b o v q => by rw [upd_ne (at_ne e q exo_frz), upd_ne (ne_of_none q hnd)]; exact q
    tbls := fun b ps q => ⟨#[], by rw [upd_ne (at_ne e q exo_tbl), upd_ne (ne_of_none q hnd), q]; simp⟩ }
  refine h dx _ hnd dne (I.un (t' := tk') Un1 fun b o q => ?_)
  by_cases hb : b = a
  · subst hb
    rw [upd_same] at q
    cases q
    exact exo_ok hx
  · rw [upd_ne hb] at q
    by_cases hd : b = dx
    · subst hd
      rw [upd_same] at q
      cases q
      exact exd_ok hn (relO_put (fs := []) ry fun g => True.intro)
    · rw [upd_ne hd] at q
      exact (I.hok b o q).stay (fun c v hc z => k c v (by
          rcases hc with hc | hc
          · rw [hc]
            exact hb
          · exact at_ne e hc exo_own) z)
        (fun c hc => by rw [upd_ne (at_ne e hc exo_own), upd_ne (ne_of_none hc hnd)]; exact hc) (fun c xs hc => by rw [upd_ne (at_ne e hc exo_tup), upd_ne (ne_of_none hc hnd)]; exact hc)
/-- LookupError.__init__(self, ..): nothing of it is told -/
theorem oinit_L {us : List Value} {Q : Value → Shared → Prop} {E : Value → Shared → Prop} (T : LkC X.K C) (I : Inv X pins σ H s) (e : H a = some (exo a C none)) (hl : us.length ≤ sizeLine) (h : ∀ s', Inv X pins σ H s' → Q .none s') :
    wpAny (model X.prog X.w) A (call (.builtin "LookupError.__init__") (.ref a :: us)) Q E s := by
  obtain ⟨t1, ho⟩ := exo_at I.hok e
  obtain ⟨nm, N', qn, bs, bm, hdct, sn, sub, ab, col, dd, k0, k1, k2, k3, k5, hC, hT⟩ := PySem.W.excInit_of I.kIn T.ini
  obtain ⟨hp, g, d, t, os⟩ := s
  refine wpAny_call (PySem.HandSPX.init_base F.excBase_LookupError hT hC ho hl fun h' t2 k hx => ?_)
  have J := I.write (t' := t) (x := a) (e := a) (o := exo a C none) (by rw [e]; exact True.intro) (.inl rfl) k ⟨_, hx⟩ (exo_ok hx)
  have eu : upd H a (exo a C none) = H := by
    funext b
    by_cases hb : b = a
    · rw [hb, upd_same, e]
    · rw [upd_ne hb]
  rw [eu] at J
  exact h _ J
end
end Bx
set_option maxHeartbeats 2000000
/-! Errors that keep a thing: the rules. -/
namespace Bx
open PySem PySem.Spec PyProof.Rows L2
/-! the text of a thing: short, nothing more is told of it -/
def shS : D → Bool
  | .non => true
  | .bl _ => true
  | .int i => decide (i.natAbs.log2 < 1920)
  | .str z => decide (z.length ≤ 1000)
  | _ => false
def shok : D → Bool
  | .tup ds => decide (ds.length ≤ 20) && ds.all shS
  | d => shS d
def reprS : D → Str
  | .non => "None"
  | .bl b => (if b then "True" else "False")
  | .int i => toString i
  | .str z => reprText z
  | _ => ""
theorem strOk_lt {z : Str} (h : PyData.strOk z = true) : ∀ c ∈ z.cps.toList, c < 16 ^ 8 := fun c hc => by
  have := (Pr.strOk_iff.mp h) c hc
  omega
theorem int_len {i : Int} (h : i.natAbs.log2 < 1920) : (toString i : Str).length ≤ 1921 := by
  have e := int_text_length_le (k := 1920) (by decide) h
  rw [PySem.ofString_length]
  omega
theorem reprS_len {U : Un} {A : Ad} {H : Hp} {v : V} {d : D} (i : Is U A H v d) (h : shS d = true) : (reprS d).length ≤ 10002 := by
  cases i with
  | non => show (("None" : String) : Str).length ≤ 10002; decide +kernel
  | bl b => cases b <;> (show (_ : Str).length ≤ 10002) <;> decide +kernel
  | int i => exact Nat.le_trans (int_len (of_decide_eq_true h)) (by omega)
  | str z hz =>
    have h1 : z.length ≤ 1000 := of_decide_eq_true h
    have h2 := StrLaws.reprText_len z (strOk_lt hz.2)
    show (reprText z).length ≤ 10002
    omega
  | tup _ _ _ => cases h
  | lst _ _ _ => cases h
  | dct _ _ _ _ => cases h
  | err _ _ _ _ _ => cases h
theorem reprS_is {prog : Program} {w : World} {U : Un} {A : Ad} {H : Hp} {v : V} {u : Value} {d : D} (i : Is U A H v d) (r : RelV v u) (h : shS d = true) : ReprIs prog w u (reprS d) := by
  have hl := reprS_len i h
  cases i with
  | non => cases (show u = Value.none from r); exact ReprIs.none
  | bl b => cases (show u = Value.bool b from r); exact ReprIs.bool b
  | int i => obtain ⟨t, rfl⟩ := r; exact ReprIs.int t (of_decide_eq_true h)
  | str z hz => obtain ⟨t, rfl⟩ := r; exact ReprIs.str z t (by rw [sizeLine_eq]; have : (reprText z).length ≤ 10002 := hl; omega)
  | tup _ _ _ => cases h
  | lst _ _ _ => cases h
  | dct _ _ _ _ => cases h
  | err _ _ _ _ _ => cases h
theorem reprs_are {prog : Program} {w : World} {U : Un} {A : Ad} {H : Hp} : ∀ {vs : List V} {us : List Value} {ds : List D}, IsAll U A H vs ds → Vals vs us → ds.all shS = true → ReprAll prog w us (ds.map reprS) ∧ piled (ds.map reprS) ≤ 10004 * ds.length
  | _, _, _, .nil, .nil, _ => ⟨.nil, Nat.zero_le _⟩
  | _, _, _, .cons i t, .cons r rt, h => by
    rw [List.all_cons, Bool.and_eq_true] at h
    obtain ⟨h1, h2⟩ := reprs_are (prog := prog) (w := w) t rt h.2
    refine ⟨.cons (reprS_is i r h.1) h1, ?_⟩
    have := reprS_len i h.1
    rw [List.map_cons, piled_cons, List.length_cons]
    omega
section
variable {X : Cx}
/-- {x!r} -/
def tFmtD (U : Un) (te : TE) : TE := fun σ H Q => te σ H fun x H1 => ∃ (A : Ad) (d : D), Is U A H1 x d ∧ shok d = true ∧ ∀ m : Str, m.length ≤ 300000 → Q (.str m) H1
theorem pe_fmtD {U : Un} {e : Expr} {te : TE} {pos : Pos} {k : Nat} (hr : Room k X.A) (he : PE X e te) : PE X (.FormattedValue e 114 none pos) (tFmtD U te) := by
  refine ⟨fun pins s σ H Q I h => ?_⟩
  refine wpAny_FormattedValue_repr (thn (he.run pins s σ H _ I h) fun v s1 hv => ?_)
  obtain ⟨x, H1, I1, r1, A, d, i, hd, q⟩ := hv
  have sz : sizeLine = 16777216 := sizeLine_eq
  have hu := hr.units
  cases i with
  | non => cases (show v = Value.none from r1); exact pyReprObj_none (wpAny_formatField_str ⟨.str _, H1, I1.tok _, ⟨_, rfl⟩, q _ (by decide +kernel)⟩ ⟨.str _, H1, I1.tok _, ⟨_, rfl⟩, q _ (by decide +kernel)⟩ (by decide +kernel))
  | bl b => cases (show v = Value.bool b from r1); exact pyReprObj_bool (wpAny_formatField_str ⟨.str _, H1, I1.tok _, ⟨_, rfl⟩, q _ (by cases b <;> decide +kernel)⟩ ⟨.str _, H1, I1.tok _, ⟨_, rfl⟩, q _ (by cases b <;> decide +kernel)⟩ (by cases b <;> decide +kernel))
  | int i =>
    obtain ⟨t, rfl⟩ := r1
    have hi : i.natAbs.log2 < 1920 := of_decide_eq_true hd
    have := int_len hi
    exact pyReprObj_int hi (wpAny_formatField_str ⟨.str _, H1, I1.tok _, ⟨_, rfl⟩, q _ (by omega)⟩ ⟨.str _, H1, I1.tok _, ⟨_, rfl⟩, q _ (by omega)⟩ (by omega))
  | str z hz =>
    obtain ⟨t, rfl⟩ := r1
    have h1 : z.length ≤ 1000 := of_decide_eq_true hd
    have h2 := StrLaws.reprText_len z (strOk_lt hz.2)
    exact pyReprObj_str (wpAny_formatField_str ⟨.str _, H1, I1.tok _, ⟨_, rfl⟩, q _ (by omega)⟩ ⟨.str _, H1, I1.tok _, ⟨_, rfl⟩, q _ (by omega)⟩ (by omega)) (by omega)
  | @tup a xs ds e h hp =>
    cases (show v = Value.ref a from r1)
    obtain ⟨its, rv, ⟨o, ho, hcl, n, hdt⟩, _⟩ := I1.tuple (SqT.of e)
    have hd2 : (decide (ds.length ≤ 20) && ds.all shS) = true := hd
    rw [Bool.and_eq_true] at hd2
    have hl : ds.length ≤ 20 := of_decide_eq_true hd2.1
    obtain ⟨ra, hp2⟩ := reprs_are (prog := X.prog) (w := X.w) h rv hd2.2
    have htx := fmt_text (ds.map reprS)
    have hb : (tupleText (ds.map reprS)).length ≤ 200090 := by
      have : 10004 * ds.length ≤ 200080 := by omega
      omega
    refine wpAny_pyReprObj_slot (by omega) ⟨o, ho, hcl⟩ F.slot_tuple_repr (fmt_tuple_repr ho hcl hdt ra (by omega) fun m u tk hm => ⟨m, u, rfl, ?_⟩)
    exact wpAny_formatField_str ⟨.str m, H1, I1.tok _, ⟨_, rfl⟩, q _ (by omega)⟩ ⟨.str m, H1, (I1.tok _).tok _, ⟨_, rfl⟩, q _ (by omega)⟩ (by omega)
  | lst _ _ _ => cases hd
  | dct _ _ _ _ => cases hd
  | err _ _ _ _ _ => cases hd
end
end Bx
set_option maxHeartbeats 2000000
/-! Errors as values: made, asked for their class, read. -/
namespace Bx
open PySem PySem.Spec PyProof.Rows L2
theorem erO_ok {P : Program} {w : World} {H : Hp} {h : Heap} {a : Addr} {cls : Value} {dv : Option Addr} {oe : Obj} (e : h.get? a = some oe) (z : Zc cls dv oe) (d : ∃ vs, oe.data = .fields vs) : ObjOk P w H h a (ErO cls dv a) :=
  ⟨⟨oe, e, z, d⟩, ⟨oe, e⟩, fun _ _ ⟨o, q, r⟩ k => ⟨o, k o q, r⟩⟩
section
variable {X : Cx} {U : Un} {C : Cz U} {e : Expr} {te : TE} {me : M D} {p pos : Pos} {x c : Str}
theorem pe_err1 {A : Addr} {bmB : List Value} {B newId initId : String} {ta : TE} (F : ExcBaseFacts B newId initId bmB) (q : PySem.W.excIn X.K A bmB newId = true) (gC : X.mg x = some (.ref A)) (kC : PySem.W.keepIn X.K (.ref A) = true) (hg : Gl X x)
    (he : PE X e ta) (hs : starEach [e] X.env = (false, eval e X.env) :: starEach [] X.env := by rfl) (hdb : (x == ("__debug__" : Str)) = false := by decide) :
    PE X (.Call (.Name x p) [e] [] pos) (fun σ H Q => ta σ H fun _ H1 => ∀ a, H1 a = none → Q (.ref a) (upd H1 a (ErO (.ref A) none a))) := by
  refine ⟨fun pins s σ H Q I h => ?_⟩
  refine wpAny_Call_Name_kw (ld_glob I hg gC ?_ hdb)
  refine PySem.W.callWith_K (h₀ := X.base) I.ok.mod.kin kC ?_ hs (by rfl)
  rw [hs]
  show wpAny _ _ (spliced ((false, eval e X.env) :: backTo pos (starEach [] X.env))) _ _ s
  refine Calls.spliced_cons (thn (he.run pins s σ H _ I h) fun u s1 ⟨v, H1, I1, r1, q1⟩ => ?_)
  refine Calls.spliced_nil ⟨I1.kIn, ?_⟩
  show wpAny _ _ (call (.ref A) [u]) _ _ _
  obtain ⟨bm, N, nm, qn, bs, hdct, sn, sub, ab, col, dd, k0, k1, k2, k3, k5, mN, hC, hN, hni, T⟩ := exc_obj I1.kIn q
  refine wpAny_call_exc_subT F T hC hN hni (fun h' a hm => ?_) (by show 1 ≤ sizeLine; rw [sizeLine_eq]; omega)
  have hn : H1 a = none := I1.hok.gone hm.new
  obtain ⟨t, ht, _, _⟩ := hm.there
  exact ⟨.ref a, upd H1 a (ErO (.ref A) none a), I1.laidN hm.keeps hm.new hn (erO_ok ht ⟨rfl, rfl⟩ ⟨_, rfl⟩), rfl, q1 a hn⟩
/-- X(e), X a class of errors that keeps nothing -/
theorem de_err0 {bmB : List Value} {B newId initId : String} (F : ExcBaseFacts B newId initId bmB) (q : PySem.W.excIn X.K (U.ca c) bmB newId = true) (gC : X.mg x = some (.ref (U.ca c))) (kC : PySem.W.keepIn X.K (.ref (U.ca c)) = true) (hg : Gl X x)
    (h : DE X C e te me) (hs : starEach [e] X.env = (false, eval e X.env) :: starEach [] X.env := by rfl) (hdb : (x == ("__debug__" : Str)) = false := by decide) :
    DE X C (.Call (.Name x p) [e] [] pos) (fun σ H Q => te σ H fun _ H1 => ∀ a, H1 a = none → Q (.ref a) (upd H1 a (ErO (.ref (U.ca c)) none a))) (mUn (fun _ => some (errD c [])) me) := by
  refine ⟨pe_err1 F q gC kC hg h.1 hs hdb, fun σ H ρ r Q O e p => ?_⟩
  refine h.2.then O e p.ex fun d ρ1 v H1 O1 x1 i1 e1 => ?_
  cases e1
  intro a ha
  exact p _ _ (O1.same (Same.new ha)) (x1.trans (Ext.same (Same.new ha))) (.err upd_same .non .nil (fun d z => nomatch z) (O1.notAv ha))
end
/-! what an __init__ of such a class promises -/
def spI (U : Un) : Sp := fun vs H Q _ => ∃ (a C : Addr) (A : Ad) (v : V) (d : D), vs = [.ref a, v] ∧ LkC U.K C ∧ H a = some (exo a C none) ∧ Is U A H v d ∧ shok d = true ∧
  ∀ dx, H dx = none → dx ≠ a → Q .non (upd (upd H dx (exd dx [("name", v)])) a (exo a C (some dx)))
def tMkL (A : Addr) (sp : Sp) (ta : TA) : TE := fun σ H Q => ta σ H fun vs H1 => vs.length ≤ 1000 ∧ ∀ a, H1 a = none → sp (.ref a :: vs) (upd H1 a (exo a A none))
  (fun v H2 => v = .non ∧ ∃ (d : Addr) (fs : List (Str × V)), H2 a = some (exo a A (some d)) ∧ H2 d = some (exd d fs) ∧ Q (.ref a) (upd (upd H2 a (ErO (.ref A) (some d) a)) d (.xd fs))) (fun _ _ _ => False)
section
variable {X : Cx} {U : Un} {C : Cz U} {e : Expr} {es : List Expr} {te : TE} {ta : TA} {me : M D} {p pos : Pos} {x c : Str}
theorem pe_mkL {CX : CXT} {A fI : Addr} {k : Nat} {fd : FuncData} {ps : List Str} {sp : Sp} (T : LkC X.K A) (kC : PySem.W.keepIn X.K (.ref A) = true) (iC : PySem.W.findIn X.K (.ref A) "__init__" = some (some (.ref fI))) (tI : PySem.W.typeIn X.K (.ref fI) = some (.type "function"))
    (F1 : FnOk X.prog X.w X.K X.mg X.base CX k fI fd ps sp) (hr : Room (k + 1) X.A) (hb : Binds X.K fd ps []) (hx : Passes CX X (fun _ _ _ => False)) (hg : Gl X x) (hm : X.mg x = some (.ref A)) (ha : PA X (e :: es) ta)
    (hdb : (x == ("__debug__" : Str)) = false := by decide) (he : starEach (e :: es) X.env = (false, eval e X.env) :: starEach es X.env := by rfl) (hpl : (backTo pos (starEach es X.env)).any (·.1) = false := by rfl) :
    PE X (.Call (.Name x p) (e :: es) [] pos) (tMkL A sp ta) := by
  refine ⟨fun pins s σ H Q I h => ?_⟩
  refine wpAny_Call_Name_kw (ld_glob I hg hm ?_ hdb)
  refine PySem.W.callWith_K (h₀ := X.base) I.ok.mod.kin kC (thn (ha.run pos pins s σ H _ I h) fun us s1 ⟨vs, H1, I1, r1, hz, q1⟩ => ⟨I1.kIn, ?_⟩) he hpl
  show wpAny _ _ (call (.ref A) us) _ _ _
  obtain ⟨nm, N', qn, bs, bm, hdct, sn, sub, ab, col, dd, k0, k1, k2, k3, k5, hC, hT⟩ := PySem.W.excInit_of I1.kIn T.ini
  obtain ⟨hp, g, dr, tk, os⟩ := s1
  have hsz : hp.objs.size ≤ hp.objs.size + 1 := Nat.le_succ _
  have hn : H1 (hp.objs.size + 1) = none := I1.hok.fresh hsz
  have hq := q1 (hp.objs.size + 1) hn
  have kk : ∀ b o, hp.get? b = some o → ((hp.push (PySem.W.kdv_tup us)).push (PySem.HandSPX.excO A hp.objs.size)).get? b = some o := fun b o e => Heap.get?_push_of_some _ (Heap.get?_push_of_some _ e)
  have hget : ((hp.push (PySem.W.kdv_tup us)).push (PySem.HandSPX.excO A hp.objs.size)).get? (hp.objs.size + 1) = some (PySem.HandSPX.excO A hp.objs.size) := by heap_get
  have I2 : Inv X pins σ (upd H1 (hp.objs.size + 1) (exo (hp.objs.size + 1) A none)) ⟨(hp.push (PySem.W.kdv_tup us)).push (PySem.HandSPX.excO A hp.objs.size), g, dr, tk, os⟩ :=
    I1.laid (t' := tk) (a := hp.objs.size + 1) (o := exo (hp.objs.size + 1) A none) (h' := (hp.push (PySem.W.kdv_tup us)).push (PySem.HandSPX.excO A hp.objs.size)) kk hsz (exo_ok hget)
  have r2 : Vals (V.ref (hp.objs.size + 1) :: vs) (Value.ref (hp.objs.size + 1) :: us) := .cons rfl r1
  have hl : (Value.ref (hp.objs.size + 1) :: us ++ []).length = ps.length := by
    have e := r2.length
    rw [F1.len _ _ _ _ hq] at e
    rw [List.append_nil]
    exact e.symm
  have hus : us.length ≤ sizeLine := by
    rw [← Paired.length r1, sizeLine_eq]
    omega
  have hb2 := hb _ (Value.ref (hp.objs.size + 1) :: us) I2.kIn hl
  rw [List.append_nil] at hb2
  refine wpAny_call (PySem.HandSPX.call_own F.excBase_LookupError hT hC (PySem.W.looks_findIn I1.kIn iC) (fun self => PySem.W.bind_fn I1.kIn self tI) hus
    (codeAny_mono (F1.run _ X.stack _ _ ⟨Value.ref (hp.objs.size + 1) :: us, []⟩ (Value.ref (hp.objs.size + 1) :: us) _ _ (fun _ _ _ => False) (hr.make A us []) (I2.env0.make A us []) hb2 r2 hq) fun r s' hq' => ?_))
  cases r with
  | error er => exact hx pins σ _ _ er s' I2 hq'
  | ok fl =>
    cases fl with
    | ret u =>
      obtain ⟨v, H3, I3, rv, ev, d, fs, ea, ed, q2⟩ := I2.after hq'
      subst ev
      refine ⟨rv, .ref _, _, ?_, rfl, q2⟩
      obtain ⟨t0, hoe⟩ := exo_at I3.hok ea
      obtain ⟨mA, hns, rel⟩ := exd_at I3.hok ed
      have ne : d ≠ hp.objs.size + 1 := fun z => by
        obtain ⟨o, es, ep, e1, e2, _⟩ := hns
        rw [z, hoe] at e1
        have z2 := Option.some.inj e1
        subst z2
        cases e2
      have J := I3.write (t' := s'.toks) (x := hp.objs.size + 1) (e := hp.objs.size + 1) (o := ErO (.ref A) (some d) (hp.objs.size + 1)) (h' := s'.heap) (by rw [ea]; exact True.intro) (.inl rfl) (fun _ _ _ z => z) ⟨_, hoe⟩ (erO_ok hoe ⟨rfl, rfl⟩ ⟨_, rfl⟩)
      have hd1 : ∃ o, s'.heap.get? d = some o := by
        obtain ⟨o, _, _, e1, _⟩ := hns
        exact ⟨o, e1⟩
      exact J.write (t' := s'.toks) (x := d) (e := d) (o := .xd fs) (h' := s'.heap) (by rw [upd_ne ne, ed]; exact True.intro) (.inl rfl) (fun _ _ _ z => z) hd1 ⟨mA, hns, rel⟩
    | next => exact False.elim hq'
    | brk => exact False.elim hq'
    | cont => exact False.elim hq'
def dErr (c : Str) (d : D) : Option D := if shok d = true then some (errD c [d]) else none
/-- X(e), X a class of errors that keeps it as name -/
theorem de_errK {CX : CXT} {fI : Addr} {k : Nat} {fd : FuncData} {ps : List Str} (hU : X.K = U.K) (T : LkC X.K (U.ca c)) (kC : PySem.W.keepIn X.K (.ref (U.ca c)) = true) (iC : PySem.W.findIn X.K (.ref (U.ca c)) "__init__" = some (some (.ref fI)))
    (tI : PySem.W.typeIn X.K (.ref fI) = some (.type "function")) (F1 : FnOk X.prog X.w X.K X.mg X.base CX k fI fd ps (spI U)) (hr : Room (k + 1) X.A) (hb : Binds X.K fd ps []) (hx : Passes CX X (fun _ _ _ => False)) (hg : Gl X x) (hm : X.mg x = some (.ref (U.ca c)))
    (h : DE X C e te me) (hdb : (x == ("__debug__" : Str)) = false := by decide) (he : starEach [e] X.env = (false, eval e X.env) :: starEach [] X.env := by rfl) :
    DE X C (.Call (.Name x p) [e] [] pos) (tMkL (U.ca c) (spI U) (tCons te tNil)) (mUn (dErr c) me) := by
  refine ⟨pe_mkL T kC iC tI F1 hr hb hx hg hm (pa_cons h.1 pa_nil he) hdb he, fun σ H ρ r Q O e p => ?_⟩
  refine h.2.then O e p.ex fun d ρ1 v H1 O1 x1 i1 e1 => ?_
  obtain ⟨d2, e2, rfl⟩ := opt_ok e1
  unfold dErr at e2
  by_cases hs : shok d = true
  · rw [if_pos hs] at e2
    cases e2
    refine ⟨by show 1 ≤ 1000; omega, fun a ha => ⟨a, _, Av C σ, v, d, rfl, hU ▸ T, upd_same, i1.same (Same.new ha), hs, fun dx hdx ne => ⟨rfl, dx, [("name", v)], upd_same, by rw [upd_ne ne, upd_same], ?_⟩⟩⟩
    have hdx1 : H1 dx = none := by rw [upd_ne ne] at hdx; exact hdx
    have eH : upd (upd (upd (upd (upd H1 a (exo a (U.ca c) none)) dx (exd dx [("name", v)])) a (exo a (U.ca c) (some dx))) a (ErO (.ref (U.ca c)) (some dx) a)) dx (.xd [("name", v)]) = upd (upd H1 a (ErO (.ref (U.ca c)) (some dx) a)) dx (.xd [("name", v)]) := by
      funext b
      by_cases h1 : b = dx
      · rw [h1, upd_same, upd_same]
      · rw [upd_ne h1, upd_ne h1]
        by_cases h2 : b = a
        · rw [h2, upd_same, upd_same]
        · rw [upd_ne h2, upd_ne h2, upd_ne h1, upd_ne h2, upd_ne h2]
    rw [eH]
    have hdx2 : upd H1 a (ErO (.ref (U.ca c)) (some dx) a) dx = none := by rw [upd_ne ne]; exact hdx1
    have S := Same.trans' (Same.new (o := ErO (.ref (U.ca c)) (some dx) a) ha) (Same.new (o := .xd [("name", v)]) hdx2)
    refine p _ _ (O1.same S) (x1.trans (Ext.same S)) (.err (xs := [v]) (dv := some dx) ?_ (.one upd_same) (.cons (i1.same S) .nil) (fun d z => by cases z; exact O1.notAv hdx1) (O1.notAv ha))
    rw [upd_ne (Ne.symm ne), upd_same]
  · rw [if_neg hs] at e2
    cases e2
end
end Bx
set_option maxHeartbeats 2000000
/-! Errors as values: their __init__, their class, what they keep. -/
namespace Bx
open PySem PySem.Spec PyProof.Rows L2
section
variable {X : Cx} {U : Un} {C : Cz U} {o e : Expr} {es : List Expr} {to te : TE} {ta : TA} {me : M D} {p p' p1 p2 pos : Pos} {x c : Str}
/-- LookupError.__init__(self, ..) -/
def tLeI (K : PySem.W.Frag) (ta : TA) : TE := fun σ H Q => ta σ H fun vs H1 => ∃ (a A : Addr) (ws : List V), vs = .ref a :: ws ∧ ws.length ≤ 1000 ∧ LkC K A ∧ H1 a = some (exo a A none) ∧ Q .non H1
theorem pe_leinit {pl : Sem Bool} (hg : Gl X "LookupError") (hm : X.mg "LookupError" = none) (vV : PySem.W.findCls X.K (.type "LookupError") (.type "type") "__init__" = some (.val (.builtin "LookupError.__init__"))) (hv : bootBuiltins "LookupError" = some (.type "LookupError")) (ha : PA X (e :: es) ta)
    (hc : eval (.Call (.Attribute (.Name "LookupError" p1) "__init__" p2) (e :: es) [] pos) X.env = (do
      let ov ← eval (.Name "LookupError" p1) X.env
      standAt p2.atName
      let (f, first) ← holding [ov] (getMethod ov "__init__" pl)
      callWith pos f first (backTo pos (starEach (e :: es) X.env)) (backToKw pos (keywordEach [] X.env))) := by rfl)
    (he : starEach (e :: es) X.env = (false, eval e X.env) :: starEach es X.env := by rfl) (hpl : (backTo pos (starEach es X.env)).any (·.1) = false := by rfl) :
    PE X (.Call (.Attribute (.Name "LookupError" p1) "__init__" p2) (e :: es) [] pos) (tLeI X.K ta) := by
  refine ⟨fun pins s σ H Q I h => ?_⟩
  refine PySem.W.methodCall_KW (ld_blt I hg hm hv ?_ (by decide) (by decide)) hc
  obtain ⟨m, fr⟩ := I.fr
  refine PySem.W.method_type fr I.ok.mod.kin PySem.LkX.typ_LE (by decide +kernel) vV (by decide +kernel) ?_
  show wpAny _ _ (callWith pos (Value.builtin "LookupError.__init__") [] (backTo pos (starEach (e :: es) X.env)) []) _ _ _
  refine PyProof.Rows.callWith_method1 (thn (ha.run pos pins _ σ H _ (I.tok _) h) fun us s1 ⟨vs, H1, I1, r1, a, A, ws, ev, hl, T, ea, q⟩ => ?_) he hpl
  subst ev
  cases r1 with
  | @cons _ u0 _ ur ra rw' =>
    obtain rfl : u0 = Value.ref a := ra
    have hlen : ur.length ≤ sizeLine := by
      rw [← Paired.length rw', sizeLine_eq]
      omega
    exact oinit_L T I1 ea hlen fun s' J => ⟨.non, H1, J, rfl, q⟩
/-- self.name = e -/
def tOstL (K : PySem.W.Frag) (to te : TE) : TS := fun D σ H => te σ H fun y H1 => to σ H1 fun x H2 => ∃ a A : Addr, x = .ref a ∧ LkC K A ∧ H2 a = some (exo a A none) ∧
  ∀ dx, H2 dx = none → dx ≠ a → D.nx σ (upd (upd H2 dx (exd dx [("name", y)])) a (exo a A (some dx)))
theorem ps_ostL (ho : PE X o to) (he : PE X e te) (hs : swapsWith e (some (.Attribute o "name" p')) pos.line X.env = pure false := by rfl) : PS X (.Assign [.Attribute o "name" p'] e pos) (tOstL X.K to te) := by
  refine ⟨fun pins s σ H D I h => ?_⟩
  refine plainObj_wpAny_Assign_Attribute (thn (he.run pins s σ H _ I h) fun v s1 ⟨y, H1, I1, r1, q1⟩ => thn (ho.run pins s1 σ H1 _ I1 q1) fun u s2 ⟨x, H2, I2, r2, a, A, ex, T, ea, q⟩ => ?_) hs
  subst ex
  obtain rfl : u = Value.ref a := r2
  exact ost_L T I2 ea r1 fun dx s' n ne J => ⟨σ, _, J, q dx n ne⟩
/-- L.__init__(self, ..), L a class of one's own whose __init__ is at fI -/
theorem pe_clsinit {CX : CXT} {k : Nat} {L fI : Addr} {fd : FuncData} {ps : List Str} {sp : Sp} {E : XK} {m : Str} {pl : Sem Bool} {mc : Value} (hg : Gl X x) (hm : X.mg x = some (.ref L)) (rd : PySem.W.readsIn X.K L mc = true)
    (ga : PySem.W.specialIn X.K (.ref L) "__getattribute__" = some (some (.builtin "type.__getattribute__"))) (at_ : PySem.W.findCls X.K (.ref L) mc m = some (.val (.ref fI))) (hk : PySem.W.keepIn X.K (.ref fI) = true)
    (F : FnOk X.prog X.w X.K X.mg X.base CX k fI fd ps sp) (hr : Room k X.A) (hb : Binds X.K fd ps []) (hx : Passes CX X E) (ha : PA X (e :: es) ta)
    (hc : eval (.Call (.Attribute (.Name x p1) m p2) (e :: es) [] pos) X.env = (do
      let ov ← eval (.Name x p1) X.env
      standAt p2.atName
      let (f, first) ← holding [ov] (getMethod ov m pl)
      callWith pos f first (backTo pos (starEach (e :: es) X.env)) (backToKw pos (keywordEach [] X.env))) := by rfl)
    (hdb : (x == ("__debug__" : Str)) = false := by decide) (he : starEach (e :: es) X.env = (false, eval e X.env) :: starEach es X.env := by rfl) (hpl : (backTo pos (starEach es X.env)).any (·.1) = false := by rfl) :
    PE X (.Call (.Attribute (.Name x p1) m p2) (e :: es) [] pos) (fun σ H Q => ta σ H fun vs H1 => sp vs H1 Q E) := by
  refine ⟨fun pins s σ H Q I h => ?_⟩
  refine PySem.W.methodCall_KW (ld_glob I hg hm ?_ hdb) hc
  refine PySem.W.method_cls I.kIn ga (PySem.W.cls_value I.kIn rd at_ (by rfl) ?_)
  refine PySem.W.callWith_K (h₀ := X.base) I.ok.mod.kin hk (thn (ha.run pos pins _ σ H _ (I.tok _) h) fun us s1 ⟨vs, H1, I1, r, q⟩ => ⟨I1.kIn, ?_⟩) he hpl
  exact run_fn F hr hb .nil hx I1 r (by rw [List.append_nil]; exact q)
end
/-! isinstance of errors -/
/-- what a class of errors is known for -/
structure EcK (K : PySem.W.Frag) (A : Addr) : Prop where
  ic : PySem.W.isClsIn K A = true
  hg : PySem.W.findIn K (.ref A) "__getattribute__" = some (some (.builtin "BaseException.__getattribute__"))
  hk : PySem.W.findIn K (.ref A) "__getattr__" = some none
  hs : PySem.W.subIn K (.ref A) (.type "BaseException") = some true
  hd : PySem.W.hasDictIn K A = true
  ha : PySem.W.findIn K (.ref A) "__class__" = some (some (.builtin "object.__class__"))
  hm : PySem.W.mroIn K A (.type "object") = some true
section
variable {X : Cx} {U : Un} {C : Cz U} {e : Expr} {te : TE} {me : M D} {pins : List (Addr × Obj)} {σ : L2.St} {H : Hp} {s : Shared}
theorem erO_at {a A : Addr} {dv : Option Addr} {xs : List V} (I : Inv X pins σ H s) (e : H a = some (ErO (.ref A) dv a)) (ed : EdAt H dv xs) : ∃ oe od, PySem.W.InstAt s.heap a oe A od ∧ (∀ d v, dv = some d → xs = [v] → ∃ (oD : Obj) (mA : Str → Option Value), od = some oD ∧ PySem.W.lookIn "name" oD = some (mA "name") ∧ RelO (some v) (mA "name")) := by
  have q : ObjOk X.prog X.w H s.heap a (.ext fun h => ∃ oe, h.get? a = some oe ∧ Zc (.ref A) dv oe ∧ ∃ vs, oe.data = .fields vs) := I.hok a _ e
  obtain ⟨⟨oe, h1, h2, vs, h3⟩, _, _⟩ := q
  cases ed with
  | non =>
    exact ⟨oe, none, ⟨h1, h2.1, by unfold PySem.W.notCls; rw [h3] <;> rfl, by rw [h2.2]; exact True.intro⟩, fun d v z => nomatch z⟩
  | @one d v h =>
    have hx : ObjOk X.prog X.w H s.heap d (.xd [("name", v)]) := I.hok d _ h
    obtain ⟨mA, hns, hr⟩ := hx
    obtain ⟨od, ho, hl⟩ := lookIn_ns hns
    refine ⟨oe, some od, ⟨h1, h2.1, by unfold PySem.W.notCls; rw [h3] <;> rfl, by rw [h2.2]; exact ho⟩, fun d2 v2 z z2 => ⟨od, mA, rfl, hl _, ?_⟩⟩
    cases z
    cases z2
    exact hr "name"
theorem kit_E {a A : Addr} {dv : Option Addr} {xs : List V} (T : EcK X.K A) (hn : PySem.W.specialIn X.K (.builtin "object.__class__") "__get__" = some (some (.builtin "getset_descriptor.__get__"))) (ht : PySem.W.takesIn X.K (.builtin "object.__class__") = some true)
    (I : Inv X pins σ H s) (e : H a = some (ErO (.ref A) dv a)) (ed : EdAt H dv xs) : ∃ P : Heap → Prop, PySem.W.KitX X.K (.ref a) (.ref A) P ∧ P s.heap := by
  obtain ⟨oe, od, J, _⟩ := erO_at I e ed
  exact ⟨_, PySem.W.kitx_exc T.ic T.hg T.hk T.hs T.ha hn ht T.hm, J⟩
/-- isinstance(x, c), x an error, c a class, or a row of classes -/
def rIsE2 (U : Un) : List V → Hp → VK → Prop := fun xs H Q => ∃ (a A : Addr) (dv : Option Addr) (ys : List V) (k : V) (b : Bool), xs = [.ref a, k] ∧ H a = some (ErO (.ref A) dv a) ∧ EdAt H dv ys ∧ EcK U.K A ∧
  ((∃ u, ClsV k u ∧ PySem.W.kitOne U.K (.ref A) u = some b) ∨ ∃ tp cs us, k = .ref tp ∧ H tp = some (.tup cs) ∧ Paired ClsV cs us ∧ PySem.W.kitAny U.K (.ref A) us = some b) ∧ Q (.bl b) H
theorem call_isE2 (hU : HU X U) (hn : PySem.W.specialIn X.K (.builtin "object.__class__") "__get__" = some (some (.builtin "getset_descriptor.__get__"))) (ht : PySem.W.takesIn X.K (.builtin "object.__class__") = some true) : CallR X (.builtin "isinstance") (rIsE2 U) := by
  intro pins s σ H xs us Q I r h
  obtain ⟨a, A, dv, ys, k, b, rfl, ea, ed, T, h, q⟩ := h
  obtain ⟨u1, u2, rfl, r1, r2⟩ := vals2 r
  cases (show u1 = Value.ref a from r1)
  rw [hU.K] at T h
  obtain ⟨P, Z, p⟩ := kit_E T hn ht I ea ed
  rcases h with ⟨u, hc, e⟩ | ⟨tp, cs, ws, rfl, hT, hk, e⟩
  · have e2 := hc.eq r2
    subst e2
    exact PySem.W.kia_one Z I.kIn p e (fun z => nomatch z) fun tk => ⟨.bl _, H, I.tok tk, rfl, q⟩
  · cases (show u2 = Value.ref tp from r2)
    obtain ⟨_, its, rv, o, h1, h2, n, h3⟩ := (show ObjOk X.prog X.w H s.heap tp (.tup cs) from I.hok tp _ hT)
    have e3 := ClsV.all hk rv
    subst e3
    obtain ⟨oc, od, dt, sl⟩ := o
    simp only at h2 h3
    subst h2 h3
    exact PySem.W.kia_tup Z I.kIn p h1 e (fun z => nomatch z) fun tk => ⟨.bl b, H, I.tok tk, rfl, q⟩
/-- the errors' classes, told by name -/
def dIsE (f : Str → Option Bool) (d : D) : Option D := match d with
  | .dct (.str c :: _) [] => (f c).map .bl
  | _ => none
theorem DictAt.len {U : Un} {H : Hp} {a : Addr} {kv : List V} {ks : List D} {xs : List V} (e : DictAt U H a kv ks xs) : kv.length = xs.length := by cases e <;> simp
theorem Is.err_inv {U : Un} {A : Ad} {H : Hp} {v : V} {c : Str} {ks : List D} (h : Is U A H v (errD c ks)) : ∃ a dv xs, v = .ref a ∧ H a = some (ErO (.ref (U.ca c)) dv a) ∧ EdAt H dv xs ∧ IsAll U A H xs ks := by
  generalize hd : errD c ks = d at h
  unfold errD at hd
  cases h with
  | dct e hk h hp =>
    exfalso
    injection hd with h1 h2
    subst h1 h2
    have l1 := hk.length
    have l2 := h.length
    rw [e.len, l2] at l1
    simp at l1
  | err e ed h hd2 hp =>
    injection hd with h1 h2
    injection h1 with h3 h4
    injection h3 with h5
    subst h5 h4
    exact ⟨_, _, _, rfl, e, ed, h⟩
  | _ => cases hd
theorem dIsE_of {f : Str → Option Bool} {d r : D} (h : dIsE f d = some r) : ∃ c ks b, d = errD c ks ∧ f c = some b ∧ r = .bl b := by
  unfold dIsE at h
  split at h
  · rename_i c ks
    obtain ⟨b, h1, rfl⟩ := Option.map_eq_some_iff.mp h
    exact ⟨c, ks, b, rfl, h1, rfl⟩
  · cases h
theorem de_isE {k : Expr} {p pos : Pos} {f : Str → Option Bool} {u : Value} {kv : V} (hU : HU X U) (hn : PySem.W.specialIn X.K (.builtin "object.__class__") "__get__" = some (some (.builtin "getset_descriptor.__get__"))) (ht : PySem.W.takesIn X.K (.builtin "object.__class__") = some true)
    (hg : Gl X "isinstance") (hm : X.mg "isinstance" = none) (h : DE X C e te me) (hk : PE X k (tC kv)) (hc : ClsV kv u) (hf : ∀ c b, f c = some b → EcK U.K (U.ca c) ∧ PySem.W.kitOne U.K (.ref (U.ca c)) u = some b)
    (hv : bootBuiltins "isinstance" = some (.builtin "isinstance") := by decide +kernel) (he : starEach [e, k] X.env = (false, eval e X.env) :: starEach [k] X.env := by rfl) (he2 : starEach [k] X.env = (false, eval k X.env) :: starEach [] X.env := by rfl) (hpl : (backTo pos (starEach [k] X.env)).any (·.1) = false := by rfl) :
    DE X C (.Call (.Name "isinstance" p) [e, k] [] pos) (tCB (rIsE2 U) (tCons te (tCons (tC kv) tNil))) (mUn (dIsE f) me) := by
  refine ⟨pe_callB (call_isE2 hU hn ht) hg hm hv (pa_cons h.1 (pa_cons hk pa_nil he2) he) (by decide) (by decide) he hpl, fun σ H ρ r Q O e p => ?_⟩
  refine h.2.then O e p.ex fun d ρ1 v H1 O1 x1 i1 e1 => ?_
  obtain ⟨d2, e2, rfl⟩ := opt_ok e1
  obtain ⟨c, ks, b, rfl, hb, rfl⟩ := dIsE_of e2
  obtain ⟨a, dv, xs, rfl, ea, ed, _⟩ := i1.err_inv
  exact ⟨a, _, dv, xs, kv, b, rfl, ea, ed, (hf c b hb).1, .inl ⟨u, hc, (hf c b hb).2⟩, p _ H1 O1 x1 (.bl _)⟩
/-! e.name -/
def tNm (U : Un) (te : TE) : TE := fun σ H Q => te σ H fun x H1 => ∃ (a A d : Addr) (v : V), x = .ref a ∧ H1 a = some (ErO (.ref A) (some d) a) ∧ H1 d = some (.xd [("name", v)]) ∧ EcK U.K A ∧ PySem.W.findIn U.K (.ref A) "name" = some none ∧ Q v H1
theorem pe_nm {pos : Pos} (hU : HU X U) (he : PE X e te) (hb : attributeBase e "name" X.env (eval e X.env) = eval e X.env := by rfl) : PE X (.Attribute e "name" pos) (tNm U te) := by
  refine ⟨fun pins s σ H Q I h => ?_⟩
  refine attr_of hb (thn (he.run pins s σ H _ I h) fun u s1 hh => ?_)
  obtain ⟨x, H1, I1, rx, a, A, d, v, ex, ea, ed, T, hno, q⟩ := hh
  subst ex
  obtain rfl : u = Value.ref a := rx
  rw [hU.K] at T hno
  obtain ⟨oe, od, J, hn⟩ := erO_at I1 ea (.one ed)
  obtain ⟨oD, mA, rfl, hl, hr⟩ := hn d v rfl rfl
  obtain ⟨u, hu, ru⟩ := RelO.some_of (v := v) (o := mA "name") hr
  exact HandSPX.exc_get I1.kIn J T.hg T.hk T.hs (PySem.W.findObj_own T.hd hno rfl (by rw [hl, hu])) (handed_of ru) ⟨v, H1, I1.tok _, ru, q⟩
def dName (cs : List Str) (d : D) : Option D := match d with
  | .dct [.str c, x] [] => if c ∈ cs then some x else none
  | _ => none
theorem dName_of {cs : List Str} {d r : D} (h : dName cs d = some r) : ∃ c, d = errD c [r] ∧ c ∈ cs := by
  unfold dName at h
  split at h
  · rename_i c x
    by_cases hc : c ∈ cs
    · rw [if_pos hc] at h
      cases h
      exact ⟨c, rfl, hc⟩
    · rw [if_neg hc] at h
      cases h
  · cases h
theorem de_nm {pos : Pos} {cs : List Str} (hU : HU X U) (h : DE X C e te me) (hf : ∀ c, c ∈ cs → EcK U.K (U.ca c) ∧ PySem.W.findIn U.K (.ref (U.ca c)) "name" = some none) (hb : attributeBase e "name" X.env (eval e X.env) = eval e X.env := by rfl) :
    DE X C (.Attribute e "name" pos) (tNm U te) (mUn (dName cs) me) := by
  refine ⟨pe_nm hU h.1 hb, fun σ H ρ r Q O e p => ?_⟩
  refine h.2.then O e p.ex fun d ρ1 v H1 O1 x1 i1 e1 => ?_
  obtain ⟨d2, e2, rfl⟩ := opt_ok e1
  obtain ⟨c, rfl, hc⟩ := dName_of e2
  obtain ⟨a, dv, xs, rfl, ea, ed, i2⟩ := i1.err_inv
  cases ed with
  | non => cases i2
  | one ed => cases i2 with
    | cons i2 _ => exact ⟨a, _, _, _, rfl, ea, ed, (hf c hc).1, (hf c hc).2, p _ H1 O1 x1 i2⟩
end
end Bx
set_option maxHeartbeats 2000000
/-! A sign many times; the pot of numbers. -/
namespace Bx
open PySem PySem.Spec PyProof.Rows L2
def repS (x : Str) (n : Int) : Str := ⟨(List.replicate n.toNat x.cps).foldl (· ++ ·) #[]⟩
def dRep (x y : D) : Option D := match x, y with
  | .str z, .int n => if z.length = 1 ∧ 2 ≤ n ∧ n ≤ 1000 ∧ okS (repS z n) then some (.str (repS z n)) else none
  | _, _ => none
section
variable {X : Cx} {U : Un}
theorem o_rep : OpR X (binaryOp .Mult) (rD2 U dRep) := by
  intro pins s σ H x y v u Q I rx ry hq
  obtain ⟨A, dx, dy, d, al, ix, iy, hf, q⟩ := hq
  cases dx with
  | str z => cases dy with
    | int n =>
      obtain ⟨⟨h1, h2, h3, h4⟩, rfl⟩ := if_some hf
      obtain ⟨rfl, _⟩ := ix.str_inv
      rw [iy.int_inv] at ry
      obtain ⟨t, rfl⟩ := rx
      obtain ⟨t2, rfl⟩ := ry
      have e1 : (n == 1 || z.length == 0) = false := by rw [h1]; simp; omega
      refine PySem.P.mul_str (by rw [decide_eq_false (by omega), decide_eq_false (by omega)]; rfl) (fun _ _ => ?_) (fun _ _ => ?_) ?_
      · rw [h1]
        have : 1 ≤ (2 ^ 63 - 1 : Int) / n := Int.le_ediv_of_mul_le (by omega) (by omega)
        show ¬ ((1 : Int) > _)
        omega
      · have sz := sizeLine_eq
        show decide (z.length * n.toNat > sizeLine) = false
        rw [h1, sz]
        exact decide_eq_false (by omega)
      · rw [if_neg (by omega), e1, if_neg Bool.false_ne_true]
        refine ⟨?_, .str (repS z n), H, I.tok _, ⟨_, rfl⟩, q _ H Same.refl' (.str _ h4)⟩
        have := h4.1
        show (repS z n).length ≤ sizeLine
        rw [sizeLine_eq]
        have e : maxS = 100000 := rfl
        omega
    | _ => cases hf
  | _ => cases hf
end
/-! the pot: three numbers -/
def potOk (a b c : Int) : Prop := (0 ≤ a ∧ a < 2 ^ 2000) ∧ (0 ≤ b ∧ b < 2 ^ 61) ∧ 0 ≤ c ∧ c ≤ 100000
instance (a b c : Int) : Decidable (potOk a b c) := by unfold potOk; infer_instance
def tkO (b c : Int) : Int := (b + 104729 * (c + 1)) ^ (3 : Int).toNat % 2305843009213693921
def tkR (a b c many : Int) : Int := if 0 < a then a % many else (tkO b c + b % 65537 + 31 * (c + 1)) ^ (5 : Int).toNat % 2305843009213693907 / 1024 % many
def tkL (a b c many : Int) : List Int := if 0 < a then [a / many, b, c] else [a, b, c + 1]
def spTakeX : Sp := fun vs H Q _ => ∃ (p : Addr) (a b c many : Int), vs = [.ref p, .int many] ∧ H p = some (.lst [.int a, .int b, .int c]) ∧ potOk a b c ∧ 0 < many ∧ many < 2 ^ 64 ∧
  Q (.int (tkR a b c many)) (upd H p (.lst ((tkL a b c many).map V.int)))
def ptC (ns : List Int) (k : Int) : Int := if 0 ≤ k ∧ k < ns.length then (if (ns.getD k.toNat 0) < 0 then -(ns.getD k.toNat 0) else ns.getD k.toNat 0) % ((10 : Int) ^ (60 : Int).toNat) ^ (10 : Int).toNat else 0
def ptL (ns : List Int) (k : Int) : List Int := [ptC ns k * (if decide (ptC ns k ≥ 10 ^ 18) = true then 1 else 0), (ptC ns k % 2147483629 + 7919 * k + 1) ^ (5 : Int).toNat % 2305843009213693951, 0]
def spPotX (K : PySem.W.Frag) : Sp := fun vs H Q _ => ∃ (a : Addr) (ns : List Int) (k : Int), vs = [.ref a, .int k] ∧ SqL K H a (ns.map V.int) ∧ 0 ≤ k ∧ k < 1000 ∧ ∀ p, H p = none → Q (.ref p) (upd H p (.lst ((ptL ns k).map V.int)))
/-- as data -/
def takeF : List D → Option FR
  | [.lst [.int a, .int b, .int c], .int many] => if potOk a b c ∧ 0 < many ∧ many < 2 ^ 64 then some (.ok (.int (tkR a b c many)) (.lst ((tkL a b c many).map D.int))) else none
  | _ => none
theorem isAll_ints {U : Un} {A : Ad} {H : Hp} : ∀ (ns : List Int), IsAll U A H (ns.map V.int) (ns.map D.int)
  | [] => .nil
  | n :: r => .cons (.int n) (isAll_ints r)
theorem isAll_ints_inv {U : Un} {A : Ad} {H : Hp} : ∀ {xs : List V} {ns : List Int}, IsAll U A H xs (ns.map D.int) → xs = ns.map V.int
  | _, [], .nil => rfl
  | _, n :: r, .cons h t => by rw [h.int_inv, isAll_ints_inv t]; rfl
theorem take_imp {U : Un} {vs : List V} {H : Hp} {Q : VK} {E : XK} (h : spF U (some 0) 2 takeF vs H Q E) : spTakeX vs H Q E := by
  obtain ⟨A, ds, r, hl, al, ha, hf, q⟩ := h
  unfold takeF at hf
  split at hf
  · rename_i a b c many
    by_cases hp : potOk a b c ∧ 0 < many ∧ many < 2 ^ 64
    · rw [if_pos hp] at hf
      cases hf
      match vs, hl with
      | [v1, v2], _ =>
        obtain ⟨_, h1⟩ := ha.2 0 v1 _ rfl rfl
        obtain ⟨⟨p, rfl, h3⟩, hA⟩ := h1 rfl
        obtain ⟨h2, _⟩ := ha.2 1 v2 _ rfl rfl
        rw [(h2 (by simp)).int_inv]
        rcases h3 with ⟨xs, ds2, e, i, ed⟩ | ⟨kv, ks, xs, ws, _, _, _, ed⟩
        · cases ed
          have ex := isAll_ints_inv (ns := [a, b, c]) i
          subst ex
          refine ⟨p, a, b, c, many, rfl, e, hp.1, hp.2.1, hp.2.2, q _ _ (fun x o ho hn => ?_) (fun j hj => ?_) (fun x hx n => ?_) (.int _)⟩
          · rw [upd_ne (fun z => hn 0 rfl (by rw [z]; rfl))]
            exact ho
          · cases hj
            exact ⟨_, rfl, p, rfl, .inl ⟨_, _, upd_same, isAll_ints _, rfl⟩⟩
          · by_cases hx2 : x = p
            · rw [hx2, upd_same] at n; cases n
            · rw [upd_ne hx2] at n; exact al x hx n
        · cases ed
    · rw [if_neg hp] at hf
      cases hf
  · cases hf
/-- the numbers of a row -/
def asInts : List D → Option (List Int)
  | [] => some []
  | .int i :: r => (asInts r).map (i :: ·)
  | _ => none
theorem asInts_of : ∀ {ds : List D} {ns : List Int}, asInts ds = some ns → ds = ns.map D.int
  | [], _, h => by cases h; rfl
  | .int i :: r, ns, h => by
    obtain ⟨ms, h1, rfl⟩ := Option.map_eq_some_iff.mp (show (asInts r).map (i :: ·) = some ns from h)
    rw [asInts_of h1]; rfl
  | .non :: _, _, h => by cases h
  | .bl _ :: _, _, h => by cases h
  | .str _ :: _, _, h => by cases h
  | .tup _ :: _, _, h => by cases h
  | .lst _ :: _, _, h => by cases h
  | .dct _ _ :: _, _, h => by cases h
def dPot : List D → Option D
  | [.lst ds, .int k] => match asInts ds with
    | some ns => if 0 ≤ k ∧ k < 1000 then some (.lst ((ptL ns k).map D.int)) else none
    | none => none
  | _ => none
theorem Rd.sqL {K : PySem.W.Frag} {H : Hp} {a : Addr} {xs : List V} (h : Rd H a (.lst xs)) : SqL K H a xs := .inl h
section
variable {X : Cx} {U : Un} {C : Cz U} {CX : CXT} {f : Addr} {fd : FuncData} {ps : List Str} {k : Nat} {e : Expr} {es : List Expr} {tr : TA} {mr : M (List D)} {x : Str} {p pos : Pos}
theorem df_pot (ok : FnOk X.prog X.w X.K X.mg X.base CX0 k f fd ps (spPotX X.K)) (hr : Room k X.A) (hg : Gl X x) (hm : X.mg x = some (.ref f)) (hk : PySem.W.keepIn X.K (.ref f) = true) (hb : Binds X.K fd ps []) (h : DA X C (e :: es) tr mr)
    (hdb : (x == ("__debug__" : Str)) = false := by decide) (he : starEach (e :: es) X.env = (false, eval e X.env) :: starEach es X.env := by rfl) (hpl : (backTo pos (starEach es X.env)).any (·.1) = false := by rfl) :
    DF X C (.Call (.Name x p) (e :: es) [] pos) (tCall (spPotX X.K) [] E0 tr) (mFn dPot mr) := by
  refine ⟨pe_call ok hr hg hm hk hb .nil pass0 h.1 hdb he hpl, fun σ H ρ r Q O e q => ?_⟩
  refine h.2.then O e q.ex fun ds ρ1 vs H1 O1 x1 i1 e1 => ?_
  obtain ⟨d, e2, rfl⟩ := opt_ok e1
  unfold dPot at e2
  split at e2
  · rename_i ds kk
    split at e2
    · rename_i ns hns
      by_cases hk : 0 ≤ kk ∧ kk < 1000
      · rw [if_pos hk] at e2
        cases e2
        cases i1 with
        | cons i1 t => cases t with
          | cons i2 t =>
            cases t
            obtain ⟨a, xs, rfl, ea, ia, _⟩ := i1.lst_inv
            rw [asInts_of hns] at ia
            have ex := isAll_ints_inv ia
            subst ex
            rw [i2.int_inv]
            refine ⟨a, ns, kk, rfl, Rd.sqL ea, hk.1, hk.2, fun q0 hq => ?_⟩
            have s : Same H1 (upd H1 q0 (.lst ((ptL ns kk).map V.int))) := Same.new hq
            exact q q0 (.lst ((ptL ns kk).map V.int)) _ (O1.alloc x1 q0 hq) (O1.plus hq s upd_same) (x1.trans (O1.extPlus hq s)) ⟨q0, rfl, .inl ⟨_, _, upd_same, isAll_ints _, rfl⟩⟩
      · rw [if_neg hk] at e2
        cases e2
    · cases e2
  · cases e2
end
end Bx
/-! What a mirror answers: steps. -/
namespace Bx
open PySem PySem.Spec PyProof.Rows L2
/-- a run that ends well -/
def W {α : Type} (m : M α) (ρ : Env) (Q : α → Env → Prop) : Prop := ∃ a ρ', m ρ = some (.ok a ρ') ∧ Q a ρ'
section
variable {α β : Type}
theorem W.pure {a : α} {ρ : Env} {Q : α → Env → Prop} (h : Q a ρ) : W (M.pure a) ρ Q := ⟨a, ρ, rfl, h⟩
theorem W.bind {m : M α} {f : α → M β} {ρ : Env} {Q : β → Env → Prop} (h : W m ρ fun a ρ' => W (f a) ρ' Q) : W (M.bind m f) ρ Q := by
  obtain ⟨a, ρ', e, b, ρ2, e2, q⟩ := h
  exact ⟨b, ρ2, by rw [bind_ok e]; exact e2, q⟩
theorem W.opt {x : Option α} {a : α} {ρ : Env} {Q : α → Env → Prop} (e : x = some a) (h : Q a ρ) : W (M.opt x) ρ Q := ⟨a, ρ, by subst e; rfl, h⟩
theorem W.imp {m : M α} {ρ : Env} {Q R : α → Env → Prop} (h : W m ρ Q) (i : ∀ a ρ', Q a ρ' → R a ρ') : W m ρ R := by
  obtain ⟨a, ρ', e, q⟩ := h
  exact ⟨a, ρ', e, i _ _ q⟩
theorem W.of {m : M α} {a : α} {ρ ρ' : Env} {Q : α → Env → Prop} (e : m ρ = some (.ok a ρ')) (h : Q a ρ') : W m ρ Q := ⟨a, ρ', e, h⟩
theorem W.var {i : Nat} {d : D} {ρ : Env} {Q : D → Env → Prop} (e : ρ[i]? = some (some d)) (h : Q d ρ) : W (mVar i) ρ Q := ⟨d, ρ, by unfold mVar; rw [e], h⟩
theorem W.c {d : D} {ρ : Env} {Q : D → Env → Prop} (h : Q d ρ) : W (mC d) ρ Q := ⟨d, ρ, rfl, h⟩
theorem W.bin {f : D → D → Option D} {a b : M D} {ρ : Env} {Q : D → Env → Prop} (h : W a ρ fun x ρ1 => W b ρ1 fun y ρ2 => ∃ d, f x y = some d ∧ Q d ρ2) : W (mBin f a b) ρ Q :=
  W.bind (h.imp fun _ _ h1 => W.bind (h1.imp fun _ _ ⟨_, e, q⟩ => W.opt e q))
theorem W.un {f : D → Option D} {a : M D} {ρ : Env} {Q : D → Env → Prop} (h : W a ρ fun x ρ1 => ∃ d, f x = some d ∧ Q d ρ1) : W (mUn f a) ρ Q :=
  W.bind (h.imp fun _ _ ⟨_, e, q⟩ => W.opt e q)
theorem W.fn {f : List D → Option D} {a : M (List D)} {ρ : Env} {Q : D → Env → Prop} (h : W a ρ fun x ρ1 => ∃ d, f x = some d ∧ Q d ρ1) : W (mFn f a) ρ Q :=
  W.bind (h.imp fun _ _ ⟨_, e, q⟩ => W.opt e q)
theorem W.cons {a : M D} {r : M (List D)} {ρ : Env} {Q : List D → Env → Prop} (h : W a ρ fun x ρ1 => W r ρ1 fun xs ρ2 => Q (x :: xs) ρ2) : W (mCons a r) ρ Q :=
  W.bind (h.imp fun _ _ h1 => W.bind (h1.imp fun _ _ q => W.pure q))
theorem W.nil {ρ : Env} {Q : List D → Env → Prop} (h : Q [] ρ) : W mNil ρ Q := W.pure h
theorem W.lst {r : M (List D)} {ρ : Env} {Q : D → Env → Prop} (h : W r ρ fun xs ρ2 => xs.length ≤ maxL ∧ Q (.lst xs) ρ2) : W (mLst r) ρ Q :=
  W.bind (h.imp fun _ ρ2 ⟨l, q⟩ => ⟨_, ρ2, by rw [if_pos l], q⟩)
theorem W.tup {r : M (List D)} {ρ : Env} {Q : D → Env → Prop} (h : W r ρ fun xs ρ2 => xs.length ≤ maxL ∧ Q (.tup xs) ρ2) : W (mTup r) ρ Q :=
  W.bind (h.imp fun _ ρ2 ⟨l, q⟩ => ⟨_, ρ2, by rw [if_pos l], q⟩)
theorem W.b {m : M D} {ρ : Env} {Q : Bool → Env → Prop} (h : W m ρ fun x ρ2 => ∃ b, x = .bl b ∧ Q b ρ2) : W (mB m) ρ Q :=
  W.bind (h.imp fun _ ρ2 ⟨b, e, q⟩ => by subst e; exact W.pure q)
theorem W.ite {c : M Bool} {a b : M α} {ρ : Env} {Q : α → Env → Prop} (h : W c ρ fun t ρ1 => if t = true then W a ρ1 Q else W b ρ1 Q) : W (mIf c a b) ρ Q :=
  W.bind (h.imp fun t ρ1 h => by by_cases e : t = true <;> simp only [e, if_true, if_false] at h ⊢ <;> exact h)
theorem W.and {a b : M Bool} {ρ : Env} {Q : Bool → Env → Prop} (h : W a ρ fun t ρ1 => if t = true then W b ρ1 Q else Q false ρ1) : W (mAnd a b) ρ Q :=
  W.bind (h.imp fun t ρ1 h => by by_cases e : t = true <;> simp only [e, if_true, if_false] at h ⊢; exact h; exact W.pure h)
theorem W.or {a b : M Bool} {ρ : Env} {Q : Bool → Env → Prop} (h : W a ρ fun t ρ1 => if t = true then Q true ρ1 else W b ρ1 Q) : W (mOr a b) ρ Q :=
  W.bind (h.imp fun t ρ1 h => by by_cases e : t = true <;> simp only [e, if_true, if_false] at h ⊢; exact W.pure h; exact h)
theorem W.not {a : M Bool} {ρ : Env} {Q : Bool → Env → Prop} (h : W a ρ fun t ρ1 => Q (!t) ρ1) : W (mNot a) ρ Q :=
  W.bind (h.imp fun _ _ q => W.pure q)
theorem W.call {F : List D → Option FR} {r : M (List D)} {ρ : Env} {Q : D → Env → Prop} (h : W r ρ fun ds ρ1 => ∃ d o, F ds = some (.ok d o) ∧ Q d ρ1) : W (mCall F r) ρ Q :=
  W.bind (h.imp fun ds ρ1 ⟨d, o, e, q⟩ => ⟨d, ρ1, by simp only [e], q⟩)
theorem W.callO {F : List D → Option FR} {i : Nat} {r : M (List D)} {ρ : Env} {Q : D → Env → Prop} {p0 : D} (e0 : ρ[i]? = some (some p0)) (h : W r ρ fun ds ρ1 => ∃ p d o, ρ1[i]? = some (some p) ∧ F (p :: ds) = some (.ok d o) ∧ Q d (ρ1.set i (some o))) : W (mCallO F i r) ρ Q := by
  obtain ⟨ds, ρ1, e, p, d, o, e1, e2, q⟩ := h
  refine ⟨d, ρ1.set i (some o), ?_, q⟩
  unfold mCallO
  rw [e0]
  show M.bind r _ ρ = _
  rw [bind_ok e]
  simp only [e1, e2]
theorem W.set {i : Nat} {m : M D} {ρ : Env} {Q : Fl → Env → Prop} (h : W m ρ fun d ρ1 => Q .nx (ρ1.set i (some d))) : W (sSet i m) ρ Q :=
  W.bind (h.imp fun d ρ1 q => ⟨.nx, _, rfl, q⟩)
theorem W.seq {a b : M Fl} {ρ : Env} {Q : Fl → Env → Prop} (h : W a ρ fun f ρ1 => f = .nx ∧ W b ρ1 Q) : W (sSeq a b) ρ Q :=
  W.bind (h.imp fun f ρ1 ⟨e, q⟩ => by subst e; exact q)
theorem W.seqC {a b : M Fl} {ρ : Env} {Q : Fl → Env → Prop} (h : W a ρ fun f ρ1 => match f with | .nx => W b ρ1 Q | f => Q f ρ1) : W (sSeq a b) ρ Q :=
  W.bind (h.imp fun f ρ1 q => by cases f <;> first | exact q | exact W.pure q)
theorem W.ret {m : M D} {ρ : Env} {Q : Fl → Env → Prop} (h : W m ρ fun d ρ1 => Q (.rt d) ρ1) : W (sRet m) ρ Q :=
  W.bind (h.imp fun _ _ q => W.pure q)
theorem W.pass {ρ : Env} {Q : Fl → Env → Prop} (h : Q .nx ρ) : W sPass ρ Q := W.pure h
theorem W.seqL {m : M D} {ρ : Env} {Q : List D → Env → Prop} (h : W m ρ fun d ρ1 => ∃ xs, (d = .lst xs ∨ d = .tup xs) ∧ Q xs ρ1) : W (mSeq m) ρ Q :=
  W.bind (h.imp fun d ρ1 ⟨xs, e, q⟩ => by rcases e with e | e <;> subst e <;> exact W.pure q)
theorem W.range1 {m : M (List D)} {ρ : Env} {Q : List D → Env → Prop} (h : W m ρ fun ds ρ1 => ∃ j, ds = [.int j] ∧ small62 j = true ∧ Q (rangeD 0 j) ρ1) : W (mRange m) ρ Q :=
  W.bind (h.imp fun d ρ1 ⟨j, e, s, q⟩ => by subst e; exact ⟨_, ρ1, by simp only [s, if_true], q⟩)
theorem W.someI {m : M D} {ρ : Env} {Q : Option Int → Env → Prop} (h : W m ρ fun d ρ1 => ∃ i, d = .int i ∧ Q (some i) ρ1) : W (mSome m) ρ Q :=
  W.bind (h.imp fun d ρ1 ⟨i, e, q⟩ => by subst e; exact W.pure q)
theorem W.noneI {ρ : Env} {Q : Option Int → Env → Prop} (h : Q none ρ) : W mNone ρ Q := W.pure h
theorem W.sl {f : D → Option Int → Option Int → Option D} {m : M D} {lo hi : M (Option Int)} {ρ : Env} {Q : D → Env → Prop} (h : W m ρ fun d ρ1 => W lo ρ1 fun l ρ2 => W hi ρ2 fun u ρ3 => ∃ r, f d l u = some r ∧ Q r ρ3) : W (mSl f m lo hi) ρ Q :=
  W.bind (h.imp fun _ _ h1 => W.bind (h1.imp fun _ _ h2 => W.bind (h2.imp fun _ _ ⟨_, e, q⟩ => W.opt e q)))
/-- a loop that goes to its end -/
theorem forL_all {b : Bd} {body : M Fl} (I : Nat → Env → Prop) : ∀ (ds : List D) (n : Nat) (ρ : Env), I n ρ → (∀ j d ρ, ds[j]? = some d → I (n + j) ρ → ∃ ρ1, b d ρ = some ρ1 ∧ W body ρ1 fun f ρ2 => (f = .nx ∨ f = .ct) ∧ I (n + j + 1) ρ2) → W (forL b body ds) ρ fun f ρ' => f = .nx ∧ I (n + ds.length) ρ'
  | [], n, ρ, h0, _ => W.pure ⟨rfl, h0⟩
  | d :: ds, n, ρ, h0, h => by
    obtain ⟨ρ1, e1, f, ρ2, e2, hf, i2⟩ := h 0 d ρ rfl h0
    obtain ⟨f3, ρ3, e3, hf3, i3⟩ := forL_all I ds (n + 1) ρ2 i2 fun j d' ρ' hj hi => by
      have := h (j + 1) d' ρ' (by simpa using hj) (by rw [Nat.add_comm j 1, ← Nat.add_assoc]; exact hi)
      rw [Nat.add_comm j 1, ← Nat.add_assoc] at this
      exact this
    refine ⟨f3, ρ3, ?_, hf3, by rw [List.length_cons, Nat.add_comm ds.length 1, ← Nat.add_assoc]; exact i3⟩
    rw [forL]
    simp only [e1, e2]
    rcases hf with rfl | rfl <;> exact e3
theorem W.for' {b : Bd} {body : M Fl} {mi : M (List D)} {ρ : Env} {Q : Fl → Env → Prop} (I : Nat → Env → Prop) (h : W mi ρ fun ds ρ1 => I 0 ρ1 ∧ (∀ j d ρ, ds[j]? = some d → I j ρ → ∃ ρ1, b d ρ = some ρ1 ∧ W body ρ1 fun f ρ2 => (f = .nx ∨ f = .ct) ∧ I (j + 1) ρ2) ∧ ∀ ρ2, I ds.length ρ2 → Q .nx ρ2) : W (sFor b mi body) ρ Q :=
  W.bind (h.imp fun ds ρ1 ⟨i0, st, q⟩ => (forL_all I ds 0 ρ1 i0 (by simpa using st)).imp fun f ρ2 ⟨e, i⟩ => by subst e; exact q ρ2 (by simpa using i))
/-- comprehensions of one name that leave the slots as they were -/
theorem set_back {ρ : Env} {i : Nat} (hi : i < ρ.length) (x : Option D) : (ρ.set i x).set i (ρ.getD i none) = ρ := by
  rw [List.set_set]
  have : ρ.getD i none = ρ[i] := by rw [List.getD_eq_getElem?_getD, List.getElem?_eq_getElem hi]; rfl
  rw [this]
  exact List.set_getElem_self hi
theorem comp1 {i : Nat} {c : M Bool} {e : M D} {ρ : Env} (hi : i < ρ.length) (g : D → Bool) (f : D → D) : ∀ (ds acc : List D), (∀ d ∈ ds, c (ρ.set i (some d)) = some (.ok (g d) (ρ.set i (some d))) ∧ (g d = true → e (ρ.set i (some d)) = some (.ok (f d) (ρ.set i (some d))))) → acc.length + ds.length ≤ maxL →
    compL [i] (bName i) c e ds acc ρ = some (acc ++ (ds.filter g).map f, ρ)
  | [], acc, _, _ => by simp [compL]
  | d :: ds, acc, h, hl => by
    have h1 := h d (by simp)
    have hw : wipeE ρ [i] = ρ.set i none := rfl
    have hb : bName i d (ρ.set i none) = some (ρ.set i (some d)) := by unfold bName; rw [List.set_set]
    have hp : putBack ρ [i] (ρ.set i (some d)) = ρ := set_back hi _
    have hl2 : acc.length + (ds.length + 1) ≤ maxL := hl
    rw [compL, hw, hb]
    simp only [h1.1]
    cases hg : g d with
    | false =>
      simp only [hp]
      rw [comp1 hi g f ds acc (fun d' m => h d' (by simp [m])) (by omega), List.filter_cons_of_neg (by simp [hg])]
    | true =>
      simp only [h1.2 hg, hp]
      rw [if_pos (by omega), comp1 hi g f ds _ (fun d' m => h d' (by simp [m])) (by simp; omega), List.filter_cons_of_pos (by simp [hg])]
      simp
theorem W.comp1 {i : Nat} {c : M Bool} {e : M D} {mi : M (List D)} {ρ : Env} {Q : D → Env → Prop} (h : W mi ρ fun ds ρ1 => i < ρ1.length ∧ ds.length ≤ maxL ∧ ∃ (g : D → Bool) (f : D → D), (∀ d ∈ ds, W c (ρ1.set i (some d)) (fun b ρ2 => b = g d ∧ ρ2 = ρ1.set i (some d)) ∧ (g d = true → W e (ρ1.set i (some d)) fun x ρ2 => x = f d ∧ ρ2 = ρ1.set i (some d))) ∧ Q (.lst ((ds.filter g).map f)) ρ1) : W (mComp [i] (bName i) c e mi) ρ Q :=
  W.bind (h.imp fun ds ρ1 ⟨hi, hl, g, f, hh, q⟩ => ⟨_, ρ1, by
    show (match compL [i] (bName i) c e ds [] ρ1 with | some (acc, ρ') => some (Rs.ok (D.lst acc) ρ') | none => none) = _
    rw [Bx.comp1 hi g f ds [] (fun d m => ?_) (by simpa using hl)]
    · rfl
    · obtain ⟨⟨b, ρ2, e1, rfl, rfl⟩, h2⟩ := hh d m
      refine ⟨e1, fun hg => ?_⟩
      obtain ⟨b, ρ2, e2, rfl, rfl⟩ := h2 hg
      exact e2, q⟩)
theorem fn_rt {n : Nat} {m : M Fl} {ds : List D} {d : D} (h : W m (startE n ds) fun f _ => f = .rt d) : fnOf n none m ds = some (.ok d .non) := by
  obtain ⟨f, ρ', e, rfl⟩ := h
  unfold fnOf
  rw [e]; rfl
/-- with what stands behind in a slot of the caller's -/
theorem fn_io {n j : Nat} {m : M Fl} {ds : List D} {Q : D → D → Prop} (h : W m (startE n ds) fun f ρ => ∃ d o, f = .rt d ∧ ρ[j]? = some (some o) ∧ Q d o) : ∃ d o, fnOf n (some j) m ds = some (.ok d o) ∧ Q d o := by
  obtain ⟨f, ρ', e, d, o, rfl, eo, q⟩ := h
  refine ⟨d, o, ?_, q⟩
  unfold fnOf
  rw [e]
  show (match ρ'[j]? with | some (some d) => some d | _ => none).map _ = _
  rw [eo]; rfl
/-- an index within a row -/
theorem atI_in {γ : Type} {ds : List γ} {r : Int} (h0 : 0 ≤ r) (h1 : r < ds.length) : ∃ d, atI ds r = some d ∧ d ∈ ds ∧ ds[r.toNat]? = some d := by
  obtain ⟨j, rfl⟩ := Int.eq_ofNat_of_zero_le h0
  have hj : j < ds.length := by omega
  exact ⟨ds[j], atI_nat (List.getElem?_eq_getElem hj), List.getElem_mem hj, by simpa using List.getElem?_eq_getElem hj⟩
theorem rangeD_get {N : Int} {j : Nat} {d : D} (h : (rangeD 0 N)[j]? = some d) : d = .int (j : Int) ∧ (j : Int) < N := by
  unfold rangeD at h
  rw [List.getElem?_map] at h
  cases hq : (List.range (N - 0).toNat)[j]? with
  | none => rw [hq] at h; cases h
  | some q =>
    rw [hq] at h
    cases h
    obtain ⟨hj, e⟩ := List.getElem?_eq_some_iff.mp hq
    rw [List.length_range] at hj
    rw [List.getElem_range] at e
    subst e
    refine ⟨?_, by omega⟩
    show D.int (0 + (j : Nat)) = _
    rw [Int.zero_add]
theorem rangeD_len {N : Int} : (rangeD 0 N).length = N.toNat := by
  unfold rangeD
  rw [List.length_map, List.length_range, Int.sub_zero]
theorem asInts_map : ∀ ns : List Int, asInts (ns.map D.int) = some ns
  | [] => rfl
  | n :: r => by
    show (asInts (r.map D.int)).map (n :: ·) = _
    rw [asInts_map r]; rfl
theorem big_pow : ((10 : Int) ^ (60 : Int).toNat) ^ (10 : Int).toNat < 2 ^ 2000 ∧ 0 < ((10 : Int) ^ (60 : Int).toNat) ^ (10 : Int).toNat := by decide +kernel
theorem dPot_ok {ns : List Int} {k : Int} (h0 : 0 ≤ k) (h1 : k < 1000) : ∃ a b : Int, dPot [.lst (ns.map .int), .int k] = some (.lst [.int a, .int b, .int 0]) ∧ potOk a b 0 := by
  have e : dPot [.lst (ns.map .int), .int k] = some (.lst ((ptL ns k).map D.int)) := by
    show (match asInts (ns.map D.int) with | some ns => _ | none => _) = _
    rw [asInts_map]
    exact if_pos ⟨h0, h1⟩
  refine ⟨_, _, e, ⟨?_, ?_⟩, ⟨Int.emod_nonneg _ (by decide), Int.lt_trans (Int.emod_lt_of_pos _ (by decide)) (by decide)⟩, by decide, by decide⟩
  · have hc : 0 ≤ ptC ns k := by
      unfold ptC
      split
      · exact Int.emod_nonneg _ (Int.ne_of_gt big_pow.2)
      · decide
    refine Int.mul_nonneg hc ?_
    split <;> decide
  · have hc : 0 ≤ ptC ns k ∧ ptC ns k < 2 ^ 2000 := by
      unfold ptC
      split
      · exact ⟨Int.emod_nonneg _ (Int.ne_of_gt big_pow.2), Int.lt_trans (Int.emod_lt_of_pos _ big_pow.2) big_pow.1⟩
      · exact ⟨by decide, by decide⟩
    split
    · rw [Int.mul_one]; exact hc.2
    · rw [Int.mul_zero]; decide
/-- a draw -/
theorem takeF_ok {a b c many : Int} (h : potOk a b c) (hc : c < 100000) (h0 : 0 < many) (h1 : many < 2 ^ 64) :
    ∃ r a' b' c' : Int, takeF [.lst [.int a, .int b, .int c], .int many] = some (.ok (.int r) (.lst [.int a', .int b', .int c'])) ∧ 0 ≤ r ∧ r < many ∧ potOk a' b' c' ∧ c' ≤ c + 1 := by
  have e : takeF [.lst [.int a, .int b, .int c], .int many] = some (.ok (.int (tkR a b c many)) (.lst ((tkL a b c many).map D.int))) := by
    show (if potOk a b c ∧ 0 < many ∧ many < 2 ^ 64 then _ else none) = _
    rw [if_pos ⟨h, h0, h1⟩]
  obtain ⟨⟨ha, ha2⟩, ⟨hb, hb2⟩, hc0, hc2⟩ := h
  by_cases hp : 0 < a
  · refine ⟨a % many, a / many, b, c, ?_, Int.emod_nonneg _ (by omega), Int.emod_lt_of_pos _ h0, ⟨⟨Int.ediv_nonneg ha (by omega), Int.lt_of_le_of_lt (Int.ediv_le_self many ha) ha2⟩, ⟨hb, hb2⟩, hc0, hc2⟩, by omega⟩
    rw [e]
    unfold tkR tkL
    rw [if_pos hp, if_pos hp]
    rfl
  · refine ⟨(tkO b c + b % 65537 + 31 * (c + 1)) ^ (5 : Int).toNat % 2305843009213693907 / 1024 % many, a, b, c + 1, ?_, Int.emod_nonneg _ (by omega), Int.emod_lt_of_pos _ h0, ⟨⟨ha, ha2⟩, ⟨hb, hb2⟩, by omega, by omega⟩, by omega⟩
    rw [e]
    unfold tkR tkL
    rw [if_neg hp, if_neg hp]
    rfl
/-- what a pot is, with how much may be drawn yet -/
def isPot (n : Int) (d : D) : Prop := ∃ a b c : Int, d = .lst [.int a, .int b, .int c] ∧ potOk a b c ∧ c ≤ n
theorem isPot.mono {m n : Int} {d : D} (h : isPot m d) (l : m ≤ n) : isPot n d := by
  obtain ⟨a, b, c, e, p, q⟩ := h
  exact ⟨a, b, c, e, p, by omega⟩
theorem isPot.take {n many : Int} {d : D} (h : isPot n d) (hn : n < 100000) (h0 : 0 < many) (h1 : many < 2 ^ 64) : ∃ r o, takeF [d, .int many] = some (.ok (.int r) o) ∧ 0 ≤ r ∧ r < many ∧ isPot (n + 1) o := by
  obtain ⟨a, b, c, rfl, p, l⟩ := h
  obtain ⟨r, a', b', c', e, r0, r1, p', l'⟩ := takeF_ok p (by omega) h0 h1
  exact ⟨r, _, e, r0, r1, a', b', c', rfl, p', by omega⟩
/-- a draw in a body: i the pot's slot -/
theorem W.take {i : Nat} {m : M (List D)} {ρ : Env} {Q : D → Env → Prop} {p0 : D} (e0 : ρ[i]? = some (some p0)) (h : W m ρ fun ds ρ1 => ∃ many n p, ds = [.int many] ∧ ρ1[i]? = some (some p) ∧ isPot n p ∧ n < 100000 ∧ 0 < many ∧ many < 2 ^ 64 ∧ ∀ r o, 0 ≤ r → r < many → isPot (n + 1) o → Q (.int r) (ρ1.set i (some o))) : W (mCallO takeF i m) ρ Q :=
  W.callO e0 (h.imp fun ds ρ1 ⟨many, n, p, e, e1, hp, hn, h0, h1, q⟩ => by
    subst e
    obtain ⟨r, o, et, r0, r1, po⟩ := hp.take hn h0 h1
    exact ⟨p, .int r, o, e1, et, q r o r0 r1 po⟩)
end
end Bx
set_option maxHeartbeats 2000000
/-! What the written part says of classes of errors, as one truth each. -/
namespace Bx
open PySem PySem.Spec PyProof.Rows L2
abbrev bmV : List Value := [.type "ValueError", .type "Exception", .type "BaseException", .type "object"]
def ecB (K : PySem.W.Frag) (A : Addr) : Bool :=
  PySem.W.isClsIn K A && (decide (PySem.W.findIn K (.ref A) "__getattribute__" = some (some (.builtin "BaseException.__getattribute__"))) && (decide (PySem.W.findIn K (.ref A) "__getattr__" = some none) &&
  (decide (PySem.W.subIn K (.ref A) (.type "BaseException") = some true) && (PySem.W.hasDictIn K A && (decide (PySem.W.findIn K (.ref A) "__class__" = some (some (.builtin "object.__class__"))) && decide (PySem.W.mroIn K A (.type "object") = some true))))))
theorem ecB_ok {K : PySem.W.Frag} {A : Addr} (h : ecB K A = true) : EcK K A := by
  unfold ecB at h
  simp only [Bool.and_eq_true, decide_eq_true_eq] at h
  obtain ⟨h1, h2, h3, h4, h5, h6, h7⟩ := h
  exact ⟨h1, h2, h3, h4, h5, h6, h7⟩
/-- its line of classes -/
def mroB (K : PySem.W.Frag) (A : Addr) (l : List Value) : Bool := match PySem.W.clsIn K A with
  | some cd => decide (cd.mro = l)
  | none => false
/-- it may be asked for by isinstance -/
def asB (K : PySem.W.Frag) (A : Addr) : Bool := (PySem.W.clsIn K A).isSome && PySem.W.typeIn K (.ref A) == some (.type "type")
def rollB (K : PySem.W.Frag) (A R : Addr) : Bool := ecB K A && (PySem.W.excIn K A bmV "ValueError.__new__" && (PySem.W.keepIn K (.ref A) && (mroB K A (.ref A :: .ref R :: bmV) && asB K A)))
structure RollC (K : PySem.W.Frag) (A R : Addr) : Prop where
  ec : EcK K A
  x : PySem.W.excIn K A bmV "ValueError.__new__" = true
  k : PySem.W.keepIn K (.ref A) = true
  m : mroB K A (.ref A :: .ref R :: bmV) = true
  as : asB K A = true
theorem rollB_ok {K : PySem.W.Frag} {A R : Addr} (h : rollB K A R = true) : RollC K A R := by
  unfold rollB at h
  simp only [Bool.and_eq_true] at h
  obtain ⟨h1, h2, h3, h4, h5⟩ := h
  exact ⟨ecB_ok h1, h2, h3, h4, h5⟩
/-- LookupError's own: L the one above (or A itself), fI its __init__ -/
def lackB (K : PySem.W.Frag) (A fI : Addr) (l : List Value) : Bool := ecB K A && (PySem.W.excInitIn K A PySem.LkX.bmL "LookupError.__new__" && (PySem.W.excOver K A PySem.LkX.bmL && (decide (PySem.W.takerIn K A "name" = some none) &&
  (decide (PySem.W.findIn K (.ref A) "__setattr__" = some (some (.builtin "object.__setattr__"))) && (PySem.W.keepIn K (.ref A) && (decide (PySem.W.findIn K (.ref A) "__init__" = some (some (.ref fI))) &&
  (decide (PySem.W.typeIn K (.ref fI) = some (.type "function")) && (decide (PySem.W.findIn K (.ref A) "name" = some none) && (mroB K A l && asB K A)))))))))
structure LackC (K : PySem.W.Frag) (A fI : Addr) (l : List Value) : Prop where
  ec : EcK K A
  lk : LkC K A
  k : PySem.W.keepIn K (.ref A) = true
  i : PySem.W.findIn K (.ref A) "__init__" = some (some (.ref fI))
  ti : PySem.W.typeIn K (.ref fI) = some (.type "function")
  nm : PySem.W.findIn K (.ref A) "name" = some none
  m : mroB K A l = true
  as : asB K A = true
theorem lackB_ok {K : PySem.W.Frag} {A fI : Addr} {l : List Value} (h : lackB K A fI l = true) : LackC K A fI l := by
  unfold lackB at h
  simp only [Bool.and_eq_true, decide_eq_true_eq] at h
  obtain ⟨h1, h2, h3, h4, h5, h6, h7, h8, h9, h10, h11⟩ := h
  have e := ecB_ok h1
  exact ⟨e, ⟨h2, h3, h4, e.hd, h5⟩, h6, h7, h8, h9, h10, h11⟩
theorem mroB_in {K : PySem.W.Frag} {A : Addr} {l : List Value} {v : Value} (h : mroB K A l = true) (n : l ≠ []) : PySem.W.mroIn K A v = some (l.contains v) := by
  unfold mroB at h
  unfold PySem.W.mroIn
  cases e : PySem.W.clsIn K A with
  | none => rw [e] at h; cases h
  | some cd =>
    rw [e] at h
    have h2 : cd.mro = l := of_decide_eq_true h
    cases l with
    | nil => exact absurd rfl n
    | cons a r => rw [Option.bind_some, h2, if_neg (by simp)]
/-- isinstance by a class of one's own -/
theorem kit_own {K : PySem.W.Frag} {A T : Addr} {l : List Value} (h : mroB K A (.ref A :: l) = true) (ht : asB K T = true) : PySem.W.kitOne K (.ref A) (.ref T) = some (decide (T = A) || l.contains (.ref T)) := by
  unfold PySem.W.kitOne
  by_cases e : T = A
  · subst e
    rw [if_pos (by simp), decide_eq_true rfl, Bool.true_or]
  · have e2 : ¬ ((Value.ref A == Value.ref T) = true) := fun z => e (Value.ref.inj (beq_iff_eq.mp z)).symm
    rw [if_neg e2, decide_eq_false e, Bool.false_or]
    unfold PySem.W.kitCls
    unfold asB at ht
    dsimp only
    rw [if_pos ht]
    show PySem.W.mroIn K A (.ref T) = _
    rw [mroB_in h (by simp), List.contains_cons]
    have e3 : (Value.ref T == Value.ref A) = false := Bool.eq_false_iff.mpr fun z => e (Value.ref.inj (beq_iff_eq.mp z))
    rw [e3, Bool.false_or]
/-- by a built-in one -/
theorem kit_bi {K : PySem.W.Frag} {A : Addr} {l : List Value} {T : String} (h : mroB K A (.ref A :: l) = true) (ht : PySem.W.kitMeta T = true) : PySem.W.kitOne K (.ref A) (.type T) = some (l.contains (.type T)) := by
  unfold PySem.W.kitOne
  rw [if_neg (by intro z; cases beq_iff_eq.mp z)]
  unfold PySem.W.kitCls
  dsimp only
  rw [if_pos ht]
  show PySem.W.mroIn K A (.type T) = _
  rw [mroB_in h (by simp), List.contains_cons]
  rfl
theorem room200 {k : Nat} {A : Around} (hr : Room k A) : A.units + 200 < cLine := by have := hr.un; omega
theorem nio {U : Un} {C : Cz U} {i : Nat} (h : C.io = []) : ∀ b, (i, b) ∉ C.io := fun b z => by rw [h] at z; cases z
end Bx
/-! Tables of classes by name. -/
namespace Bx
open PySem PySem.Spec PyProof.Rows L2
def ZA (P : Str → Addr → Addr → Prop) : List Str → List (Addr × Addr) → Prop
  | c :: cs, a :: as => P c a.1 a.2 ∧ ZA P cs as
  | [], [] => True
  | _, _ => False
def tbA (cs : List Str) (as : List (Addr × Addr)) (c : Str) : Addr := (as.getD (cs.idxOf c) (0, 0)).1
def tbB (cs : List Str) (as : List (Addr × Addr)) (c : Str) : Addr := (as.getD (cs.idxOf c) (0, 0)).2
theorem za_get {P : Str → Addr → Addr → Prop} : ∀ {cs : List Str} {as : List (Addr × Addr)}, ZA P cs as → ∀ c ∈ cs, P c (tbA cs as c) (tbB cs as c)
  | c :: cs, a :: as, h, d, hd => by
    unfold tbA tbB
    by_cases e : c = d
    · subst e
      rw [List.idxOf_cons_self]
      exact h.1
    · rw [List.idxOf_cons, beq_false_of_ne e]
      exact za_get h.2 d (by rcases List.mem_cons.mp hd with z | z; exact absurd z.symm e; exact z)
  | [], [], _, d, hd => by cases hd
  | _ :: _, [], h, _, _ => h.elim
  | [], _ :: _, h, _, _ => h.elim
theorem za_len {P : Str → Addr → Addr → Prop} : ∀ {cs : List Str} {as : List (Addr × Addr)}, ZA P cs as → cs.length = as.length
  | c :: cs, a :: as, h => by rw [List.length_cons, List.length_cons, za_len h.2]
  | [], [], _ => rfl
  | _ :: _, [], h => h.elim
  | [], _ :: _, h => h.elim
theorem tb_inj {cs : List Str} {as : List (Addr × Addr)} (hl : cs.length = as.length) (nd : (as.map (·.1)).Nodup) {a b : Str} (ha : a ∈ cs) (hb : b ∈ cs) (e : tbA cs as a = tbA cs as b) : a = b := by
  have h1 := List.idxOf_lt_length_iff.mpr ha
  have h2 := List.idxOf_lt_length_iff.mpr hb
  unfold tbA at e
  have g : ∀ i, (hi : i < as.length) → (as.getD i (0, 0)).1 = (as.map (·.1))[i]'(by rw [List.length_map]; exact hi) := fun i hi => by
    rw [List.getD_eq_getElem?_getD, List.getElem?_eq_getElem hi, List.getElem_map]; rfl
  rw [g _ (hl ▸ h1), g _ (hl ▸ h2)] at e
  have e2 : cs.idxOf a = cs.idxOf b := by
    rcases Nat.lt_trichotomy (cs.idxOf a) (cs.idxOf b) with z | z | z
    · exact absurd e (List.pairwise_iff_getElem.mp nd _ _ _ _ z)
    · exact z
    · exact absurd e.symm (List.pairwise_iff_getElem.mp nd _ _ _ _ z)
  have x1 := List.getElem_idxOf h1
  have x2 := List.getElem_idxOf h2
  rw [← x1, ← x2]
  congr 1
/-- what stands apart of it by k_exc, kx_is -/
def rollB2 (K : PySem.W.Frag) (A R : Addr) : Bool := ecB K A && (PySem.W.keepIn K (.ref A) && (mroB K A (.ref A :: .ref R :: bmV) && asB K A))
theorem rollB2_ok {K : PySem.W.Frag} {A R : Addr} (x : PySem.W.excIn K A bmV "ValueError.__new__" = true) (h : rollB2 K A R = true) : RollC K A R := by
  unfold rollB2 at h
  simp only [Bool.and_eq_true] at h
  obtain ⟨h1, h3, h4, h5⟩ := h
  exact ⟨ecB_ok h1, x, h3, h4, h5⟩
def lackB2 (K : PySem.W.Frag) (A fI : Addr) (l : List Value) : Bool := ecB K A && (decide (PySem.W.takerIn K A "name" = some none) &&
  (decide (PySem.W.findIn K (.ref A) "__setattr__" = some (some (.builtin "object.__setattr__"))) && (PySem.W.keepIn K (.ref A) && (decide (PySem.W.findIn K (.ref A) "__init__" = some (some (.ref fI))) &&
  (decide (PySem.W.typeIn K (.ref fI) = some (.type "function")) && (decide (PySem.W.findIn K (.ref A) "name" = some none) && (mroB K A l && asB K A)))))))
theorem lackB2_ok {K : PySem.W.Frag} {A fI : Addr} {l : List Value} (h2 : PySem.W.excInitIn K A PySem.LkX.bmL "LookupError.__new__" = true) (h3 : PySem.W.excOver K A PySem.LkX.bmL = true) (h : lackB2 K A fI l = true) : LackC K A fI l := by
  unfold lackB2 at h
  simp only [Bool.and_eq_true, decide_eq_true_eq] at h
  obtain ⟨h1, h4, h5, h6, h7, h8, h9, h10, h11⟩ := h
  have e := ecB_ok h1
  exact ⟨e, ⟨h2, h3, h4, e.hd, h5⟩, h6, h7, h8, h9, h10, h11⟩
end Bx
/-! Methods of texts, a join, a constant row of texts, two names at once. -/
namespace Bx
open PySem PySem.Spec PyProof.Rows L2
section
variable {X : Cx} {U : Un} {C : Cz U} {a b o e : Expr} {ta tb to te : TE} {ma mb mo me : M D} {pos apos : Pos}
def dTx (f : Str → Bool) : D → Option D
  | .str z => some (.bl (f z))
  | _ => none
def dIsascii := dTx Txt.isascii
def dIsalpha := dTx Txt.isalpha
def dIslower := dTx Txt.islower
def rM0 (U : Un) (f : D → Option D) : V → List V → Hp → VK → Prop := fun x xs H Q => xs = [] ∧ rD1 U f x H Q
theorem o_tx {id : String} {f : Str → Bool} (h : MtR X id (fun x xs H Q => ∃ a, x = .str a ∧ xs = [] ∧ True ∧ Q (.bl (f a)) H)) : MtR X id (rM0 U (dTx f)) := by
  intro pins s σ H x xs v us Q I rx rxs hq
  obtain ⟨rfl, A, dx, d, al, ix, hf, q⟩ := hq
  cases dx with
  | str z =>
    cases hf
    obtain ⟨rfl, hz⟩ := ix.str_inv
    exact h pins s σ H _ _ v us Q I rx rxs ⟨z, rfl, rfl, trivial, q _ H Same.refl' (.bl _)⟩
  | _ => cases hf
theorem o_isascii : MtR X "str.isascii" (rM0 U dIsascii) := o_tx mt_isascii
theorem o_isalpha : MtR X "str.isalpha" (rM0 U dIsalpha) := o_tx mt_isalpha
theorem o_islower : MtR X "str.islower" (rM0 U dIslower) := o_tx mt_islower
theorem dTx_inv {f : Str → Bool} {d z : D} (h : dTx f d = some z) : ∃ s, d = .str s := by
  cases d with
  | str s => exact ⟨s, rfl⟩
  | _ => cases h
/-- a method of a text, no argument -/
theorem de_m0 {id : String} {name : Str} {f : D → Option D} (slot : Slot "str" name id) (ty : typeOf (.builtin id) = pure (.type "method_descriptor")) (rule : MtR X id (rM0 U f)) (hf : ∀ d z, f d = some z → ∃ s, d = .str s) (ho : DE X C o to mo)
    (hbase : attributeBase o name X.env (eval o X.env) = eval o X.env := by rfl) (hline : (apos.endLine == pos.line) = true := by rfl) :
    DE X C (.Call (.Attribute o name apos) [] [] pos) (tM0 (rM0 U f) to) (mUn f mo) := by
  refine ⟨pe_m0 slot ty rule ho.1 hbase hline, fun σ H ρ r Q O e p => ?_⟩
  refine ho.2.then O e p.ex fun d ρ1 v H1 O1 x1 i1 e1 => ?_
  obtain ⟨z, hz, rfl⟩ := opt_ok e1
  refine ⟨?_, rfl, Av C σ, d, z, O1.al, i1, hz, fun w H3 s3 i3 => p w H3 (O1.same s3) (x1.trans (Ext.same s3)) i3⟩
  obtain ⟨s, rfl⟩ := hf d z hz
  exact ⟨s, i1.str_inv.1⟩
theorem dIsascii_s (d z : D) (h : dIsascii d = some z) : ∃ s, d = .str s := dTx_inv h
theorem dIsalpha_s (d z : D) (h : dIsalpha d = some z) : ∃ s, d = .str s := dTx_inv h
theorem dIslower_s (d z : D) (h : dIslower d = some z) : ∃ s, d = .str s := dTx_inv h
/-- a.join(row of texts) -/
def dJoin (a : Str) : D → Option D
  | .lst ds => match strsD ds with
    | some ys => if (ys.map (·.length)).sum + ys.length * a.length ≤ 16777216 ∧ okS (Txt.join a ys) then some (.str (Txt.join a ys)) else none
    | none => none
  | _ => none
def mJoin (ma mb : M D) : M D := M.bind ma fun x => match x with
  | .str a => M.bind mb fun y => M.opt (dJoin a y)
  | _ => mFail
theorem strsD_of : ∀ {ds : List D} {ys : List Str}, strsD ds = some ys → ds = ys.map D.str
  | [], _, h => by cases h; rfl
  | .str i :: r, ns, h => by
    obtain ⟨ms, h1, rfl⟩ := Option.map_eq_some_iff.mp (show (strsD r).map (i :: ·) = some ns from h)
    rw [strsD_of h1]; rfl
  | .non :: _, _, h => by cases h
  | .bl _ :: _, _, h => by cases h
  | .int _ :: _, _, h => by cases h
  | .tup _ :: _, _, h => by cases h
  | .lst _ :: _, _, h => by cases h
  | .dct _ _ :: _, _, h => by cases h
theorem isAll_strs_inv {A : Ad} {H : Hp} : ∀ {xs : List V} {ys : List Str}, IsAll U A H xs (ys.map D.str) → xs = ys.map V.str
  | _, [], .nil => rfl
  | _, n :: r, .cons h t => by rw [h.str_inv.1, isAll_strs_inv t]; rfl
theorem de_join (ho : DE X C o to mo) (he : DE X C e te me) (hs : starEach [e] X.env = [(false, eval e X.env)] := by rfl) (hbase : attributeBase o "join" X.env (eval o X.env) = eval o X.env := by rfl) (hline : (apos.endLine == pos.line) = true := by rfl) :
    DE X C (.Call (.Attribute o "join" apos) [e] [] pos) (tM1 (fun x xs H Q => ∃ a p, ∃ ys : List Str, x = .str a ∧ xs = [.ref p] ∧ (SqL X.K H p (ys.map V.str) ∨ SqT X.K H p (ys.map V.str)) ∧
      (ys.map (·.length)).sum + ys.length * a.length ≤ 16777216 ∧ Q (.str (Txt.join a ys)) H) to te) (mJoin mo me) := by
  refine ⟨pe_join ho.1 he.1 hs hbase hline, fun σ H ρ r Q O e p => ?_⟩
  refine ho.2.then O e p.ex fun d ρ1 v H1 O1 x1 i1 e1 => ?_
  cases d with
  | str a =>
    obtain ⟨rfl, ha⟩ := i1.str_inv
    refine ⟨⟨a, rfl⟩, ?_⟩
    refine he.2.then O1 e1 (p.later x1).ex fun d2 ρ2 v2 H2 O2 x2 i2 e2 => ?_
    obtain ⟨z, hz, rfl⟩ := opt_ok e2
    unfold dJoin at hz
    split at hz
    · rename_i ds
      split at hz
      · rename_i ys hy
        obtain ⟨⟨h1, h2⟩, rfl⟩ := if_some hz
        obtain ⟨q, xs, rfl, eq, h, nq⟩ := i2.lst_inv
        rw [strsD_of hy] at h
        have := isAll_strs_inv h
        subst this
        exact ⟨a, q, ys, rfl, rfl, .inl (.inl eq), h1, p _ H2 O2 (x1.trans x2) (.str _ h2)⟩
      · cases hz
    · cases hz
  | _ => cases e1
/-- in a row of texts that stands in the written part -/
def dInC (zs : List Str) (x : D) : Option D := if eqokA x (zs.map D.str) = true then some (.bl (inD x (zs.map D.str))) else none
theorem isAll_strs {A : Ad} {H : Hp} : ∀ {zs : List Str}, (∀ z ∈ zs, okS z) → IsAll U A H (zs.map V.str) (zs.map D.str)
  | [], _ => .nil
  | z :: r, h => .cons (.str z (h z (by simp))) (isAll_strs fun y hy => h y (by simp [hy]))
def rInC2 (U : Un) (zs : List Str) : R2 := fun x y H Q => ∃ A dx p, y = .ref p ∧ SqT U.K H p (zs.map V.str) ∧ Is U A H x dx ∧ eqokA dx (zs.map D.str) = true ∧ Q (.bl (inD dx (zs.map D.str))) H
theorem o_inC (hU : HU X U) (hu : X.A.units + 200 < cLine) {zs : List Str} (hz : ∀ z ∈ zs, okS z) : OpR X (compareOp .In) (rInC2 U zs) := by
  intro pins s σ H x y v u Q I rx ry hq
  obtain ⟨A, dx, p, rfl, hp, ix, ho, q⟩ := hq
  have hu' : X.A.in1.units + 100 < cLine := by show X.A.units + 1 + 100 < cLine; omega
  cases ry
  rw [hU.K] at hp
  obtain ⟨its, r, pl, hzz⟩ := I.tuple hp
  obtain ⟨h1, h2⟩ := mem_eq hU I rx ix hu' r (isAll_strs (A := A) (H := H) hz) ho
  have h3 : its.toArray.any (eqVal U A H dx) = inD dx (zs.map D.str) := by rw [← h2]; simp
  exact SeqAt.in_tupleAt (eqVal U A H dx) pl (fun w hw => h1 w (by simpa using hw)) (by rw [h3]; exact ⟨.bl _, H, I, rfl, q⟩)
theorem de_inC {x : Str} {f : Addr} {zs : List Str} {p : Pos} (hu : X.A.units + 200 < cLine) (hg : Gl X x) (hm : X.mg x = some (.ref f)) (hs : ∀ H, SqT U.K H f (zs.map V.str)) (ha : DE X C a ta ma) (hU : HU X U := by exact ⟨rfl, rfl, rfl⟩) (hz : ∀ z ∈ zs, okS z := by decide +kernel) (hd : (x == ("__debug__" : Str)) = false := by decide) (hmk : behindInMarks .In (.Name x p) = false := by rfl) :
    DE X C (.Compare a [.In] [.Name x p] pos) (tOp (rInC2 U zs) ta (tC (.ref f))) (mUn (dInC zs) ma) := by
  refine ⟨pe_cmpR (o_inC hU hu hz) ha.1 (pe_glob hg hm rfl hd) hmk, fun σ H ρ r Q O e p => ?_⟩
  refine ha.2.then O e p.ex fun d ρ1 v H1 O1 x1 i1 e1 => ?_
  obtain ⟨z, hz, rfl⟩ := opt_ok e1
  obtain ⟨h1, rfl⟩ := if_some hz
  exact ⟨Av C σ, d, f, rfl, hs H1, i1, h1, p _ H1 O1 x1 (.bl _)⟩
/-- x, y = e, f -/
def sPar (i j : Nat) (ma mb : M D) : M Fl := M.bind ma fun x => M.bind mb fun y => fun ρ => some (.ok .nx ((ρ.set i (some x)).set j (some y)))
theorem ds_par {i j : Nat} {x y : Str} {px py pt : Pos} {kt k2 pt2} (hN : X.N.Nodup) (ha : DE X C a ta ma) (hb : DE X C b tb mb) (hc : X.calm = true := by rfl) (hi : X.N[i]? = some x := by rfl) (hj : X.N[j]? = some y := by rfl) (hij : i ≠ j := by decide)
    (ni : i ∉ C.own := by exact of_decide_eq_false rfl) (nj : j ∉ C.own := by exact of_decide_eq_false rfl)
    (hx : X.env.scope.names.lookup x = some .local := by rfl) (hy : X.env.scope.names.lookup y = some .local := by rfl) (he : starEach (a :: [b]) X.env = (false, eval a X.env) :: starEach [b] X.env := by rfl) (he2 : starEach [b] X.env = (false, eval b X.env) :: starEach [] X.env := by rfl)
    (hw : swappedStores [.Tuple [.Name x px, .Name y py] kt pt] (.Tuple [a, b] k2 pt2) X.env = pure (some [x, y]) := by rfl)
    (hs : swapsWithSole [.Tuple [.Name x px, .Name y py] kt pt] (.Tuple [a, b] k2 pt2) pos.line X.env = pure false := by rfl) :
    DS X C (.Assign [.Tuple [.Name x px, .Name y py] kt pt] (.Tuple [a, b] k2 pt2) pos) (tPar i j (tCons ta (tCons tb tNil))) (sPar i j ma mb) := by
  refine ⟨ps_par hc hN hi hj hij hx hy (pa_cons ha.1 (pa_cons hb.1 pa_nil he2) he) hw hs, fun σ H ρ r Dn O e p => ?_⟩
  refine ha.2.then O e p.ex fun d ρ1 v H1 O1 x1 i1 e1 => ?_
  refine hb.2.then O1 e1 (p.later x1).ex fun d2 ρ2 v2 H2 O2 x2 i2 e2 => ?_
  cases e2
  refine ⟨v, v2, rfl, ?_⟩
  have O3 := O2.set ni (i1.ext x2)
  have O4 := O3.set nj (by rw [av_set ni]; exact i2)
  exact p _ H2 O4 (by rw [av_set nj, av_set ni]; exact x1.trans x2)
end
end Bx
/-! Dicts whose keys are rows of data. -/
namespace Bx
open PySem PySem.Spec PyProof.Rows L2
mutual
theorem rd_nested {h : Heap} : ∀ (d : D) {u : Value}, Rds h u d → NestedIs h (nk d) u
  | .tup ds, u, r => by
    obtain ⟨a, o, vs, n, rfl, h1, h2, h3, r1⟩ := r.tup
    rw [nk]
    exact .tup h1 h2 h3 (rdAll_nested ds r1)
  | .int i, u, r => by
    obtain ⟨t, rfl⟩ := r.int
    rw [nk]
    exact .int i t
  | .str x, u, r => by
    obtain ⟨t, rfl⟩ := r.str
    rw [nk]
    exact .text x t
  | .bl b, u, r => by
    obtain ⟨⟨as, r⟩, _⟩ := r
    rw [toPy] at r
    cases r
    rw [nk]
    exact .bool rfl
  | .non, u, r => by
    obtain ⟨⟨as, r⟩, _⟩ := r
    rw [toPy] at r
    cases r
    rw [nk]
    exact .none
  | .lst _, u, r => by
    have := r.2.2
    rw [plain] at this
    cases this
  | .dct _ _, u, r => by
    have := r.2.2
    rw [plain] at this
    cases this
theorem rdAll_nested {h : Heap} : ∀ (ds : List D) {us : List Value}, RdAll h us ds → NestedAll h (nks ds) us
  | [], us, r => by
    cases r
    rw [nks]
    exact .nil
  | d :: ds, us, r => by
    cases r with
    | cons r t =>
      rw [nks]
      exact .cons (rd_nested d r) (rdAll_nested ds t)
end
mutual
theorem nk_depth : ∀ d : D, (nk d).depth ≤ dep d
  | .tup ds => by rw [nk, dep, NestedKey.depth]; exact Nat.succ_le_succ (nks_depth ds)
  | .int i => by rw [nk, NestedKey.depth]; exact Nat.zero_le _
  | .str x => by rw [nk, NestedKey.depth]; exact Nat.zero_le _
  | .bl b => by rw [nk, NestedKey.depth]; exact Nat.zero_le _
  | .non => by rw [nk, NestedKey.depth]; exact Nat.zero_le _
  | .lst _ => by rw [nk, NestedKey.depth]; exact Nat.zero_le _
  | .dct _ _ => by rw [nk, NestedKey.depth]; exact Nat.zero_le _
theorem nks_depth : ∀ ds : List D, NestedKey.depthAll (nks ds) ≤ deps ds
  | [] => by rw [nks, NestedKey.depthAll]; exact Nat.zero_le _
  | d :: r => by
    rw [nks, deps, NestedKey.depthAll]
    have h1 := nk_depth d
    have h2 := nks_depth r
    omega
end
def valE (es : List Ent) (k : D) : Option V := (es.find? fun e => decide (nk e.2.1 = nk k)).map (·.2.2)
theorem Pairs.val {es : List Ent} {xs : List (NestedKey × Addr × Value)} (r : Pairs es xs) (k : D) : RelO (valE es k) (valueAt (pairsH xs) (nk k)) := by
  unfold Pairs at r
  induction r with
  | nil => exact True.intro
  | @cons e q es xs hq t ih =>
    obtain ⟨h1, h2, h3⟩ := hq
    obtain ⟨q1, q2, q3⟩ := q
    simp only at h1 h2 h3
    subst h1
    by_cases h : nk e.2.1 = nk k
    · have e1 : valE (e :: es) k = some e.2.2 := by unfold valE; rw [List.find?_cons_of_pos (by simpa using h)]; rfl
      have e2 : valueAt (pairsH ((nk e.2.1, q2, q3) :: xs)) (nk k) = some q3 := by simp [pairsH, valueAt, h]
      rw [e1, e2]
      exact h3
    · have e1 : valE (e :: es) k = valE es k := by unfold valE; rw [List.find?_cons_of_neg (by simpa using h)]
      have e2 : valueAt (pairsH ((nk e.2.1, q2, q3) :: xs)) (nk k) = valueAt (pairsH xs) (nk k) := by simp [pairsH, valueAt, h]
      rw [e1, e2]
      exact ih
def putD (es : List Ent) (k : D) (c : Addr) (v : V) : List Ent := if (valE es k).isSome then es.map (fun e => if nk e.2.1 = nk k then (e.1, e.2.1, v) else e) else es ++ [(c, k, v)]
def dropD (es : List Ent) (k : D) : List Ent := es.filter fun e => decide (nk e.2.1 ≠ nk k)
theorem Pairs.some_ {es : List Ent} {xs : List (NestedKey × Addr × Value)} (r : Pairs es xs) (k : D) : (atKey xs (nk k)).isSome = (valE es k).isSome := by
  have q := r.val k
  rw [valueAt_pairsH] at q
  cases e1 : valE es k with
  | none =>
    cases e2 : atKey xs (nk k) with
    | none => rfl
    | some y => rw [e1, e2] at q; exact q.elim
  | some z =>
    cases e2 : atKey xs (nk k) with
    | none => rw [e1, e2] at q; exact q.elim
    | some y => rfl
theorem Pairs.map_ {es : List Ent} {xs : List (NestedKey × Addr × Value)} (r : Pairs es xs) {v : V} {u : Value} (rv : RelV v u) (k : D) : Pairs (es.map fun e => if nk e.2.1 = nk k then (e.1, e.2.1, v) else e) (xs.map (putAt (nk k) u)) := by
  unfold Pairs at r ⊢
  induction r with
  | nil => exact .nil
  | @cons e q es xs hq t ih =>
    refine .cons ?_ ih
    obtain ⟨h1, h2, h3⟩ := hq
    unfold putAt
    show nk (if nk e.2.1 = nk k then (e.1, e.2.1, v) else e).2.1 = _ ∧ (if nk e.2.1 = nk k then (e.1, e.2.1, v) else e).1 = _ ∧ RelV (if nk e.2.1 = nk k then (e.1, e.2.1, v) else e).2.2 _
    by_cases h : nk e.2.1 = nk k
    · rw [if_pos h, if_pos (by rw [← h1]; exact h)]
      exact ⟨h1, h2, rv⟩
    · rw [if_neg h, if_neg (by rw [← h1]; exact h)]
      exact ⟨h1, h2, h3⟩
theorem Pairs.app {es : List Ent} {xs : List (NestedKey × Addr × Value)} (r : Pairs es xs) {v : V} {u : Value} (rv : RelV v u) (k : D) (c : Addr) : Pairs (es ++ [(c, k, v)]) (xs ++ [(nk k, c, u)]) := by
  unfold Pairs at r ⊢
  induction r with
  | nil => exact .cons ⟨rfl, rfl, rv⟩ .nil
  | cons hq t ih => exact .cons hq ih
theorem Pairs.put {es : List Ent} {xs : List (NestedKey × Addr × Value)} (r : Pairs es xs) {v : V} {u : Value} (rv : RelV v u) (k : D) (c : Addr) : Pairs (putD es k c v) (storedH xs (nk k) c u) := by
  unfold putD storedH
  rw [r.some_ k]
  cases (valE es k).isSome with
  | true => exact r.map_ rv k
  | false => exact r.app rv k c
theorem Pairs.drop {es : List Ent} {xs : List (NestedKey × Addr × Value)} (r : Pairs es xs) (k : D) : Pairs (dropD es k) (withoutH xs (nk k)) := by
  unfold Pairs at r ⊢
  unfold dropD withoutH
  induction r with
  | nil => exact .nil
  | @cons e q es xs hq t ih =>
    have h1 := hq.1
    by_cases h : nk e.2.1 = nk k
    · rw [List.filter_cons_of_neg (by simpa using h), List.filter_cons_of_neg (by rw [← h1]; simpa using h)]
      exact ih
    · rw [List.filter_cons_of_pos (by simpa using h), List.filter_cons_of_pos (by rw [← h1]; simpa using h)]
      exact .cons hq ih
theorem putD_length {es : List Ent} {k : D} {c : Addr} {v : V} : (putD es k c v).length ≤ es.length + 1 := by
  unfold putD
  split
  · rw [List.length_map]; omega
  · rw [List.length_append]; exact Nat.le_refl _
theorem ndo_ok {P : Program} {w : World} {H : Hp} {h : Heap} {a : Addr} {es : List Ent} {xs : List (NestedKey × Addr × Value)} (hz : es.length ≤ sizeLine) (hd : (a == sysModules) = false) (r : Pairs es xs) (D : h.DictOfH (nestedKind P w) a xs) : ObjOk P w H h a (NDo P w a es) := by
  obtain ⟨o, ds, ep, h1, h2, h3, h4, _, h5⟩ := D
  refine ⟨⟨hz, hd, xs, r, o, ds, ep, h1, h2, h3, h4, h5⟩, ⟨o, h1⟩, fun g g2 q k => ?_⟩
  obtain ⟨z, d1, xs2, r2, o2, ds2, ep2, e1, e2⟩ := q
  exact ⟨z, d1, xs2, r2, o2, ds2, ep2, k _ e1, e2⟩

section
variable {X : Cx} {U : Un} {A : Ad} {pins : List (Addr × Obj)} {σ : L2.St} {H : Hp} {s : Shared} {a : Addr}
theorem rds_of (I : Inv X pins σ H s) {v : V} {u : Value} {d : D} (r : RelV v u) (i : Is U A H v d) (hp : plain d = true) : Rds s.heap u d := by
  obtain ⟨as, q⟩ := Dp.reads I _ v u (i.dp hp) r
  exact ⟨⟨as, q⟩, i.lay hp, hp⟩
def isTup : D → Bool
  | .tup _ => true
  | _ => false
/-- a row that may be a key -/
def okKey (k : D) : Bool := isTup k && (plain k && decide (dep k ≤ 8))
theorem key_is (I : Inv X pins σ H s) {c : Addr} {d : D} (i : Is U A H (.ref c) d) (hp : plain d = true) (hd : dep d ≤ 8) : (nestedKind X.prog X.w).is s.heap (nk d) c :=
  ⟨rd_nested d (rds_of I (show RelV (.ref c) (.ref c) from rfl) i hp), Nat.le_trans (nk_depth d) hd⟩
theorem okKey_ref {v : V} {d : D} (i : Is U A H v d) (h : okKey d = true) : ∃ c, v = .ref c ∧ plain d = true ∧ dep d ≤ 8 := by
  unfold okKey at h
  rw [Bool.and_eq_true, Bool.and_eq_true] at h
  obtain ⟨h1, h2, h3⟩ := h
  cases d with
  | tup ds => obtain ⟨c, _, rfl, _⟩ := i.tup_inv; exact ⟨c, rfl, h2, of_decide_eq_true h3⟩
  | _ => cases h1
/-- the dict, as the heap has it -/
structure NH (X : Cx) (s : Shared) (a : Addr) (es : List Ent) : Prop where
  z : es.length ≤ sizeLine
  lo : (a == sysModules) = false
  ex : ∃ xs, Pairs es xs ∧ s.heap.DictOfH (nestedKind X.prog X.w) a xs
theorem pairs_all {es : List Ent} {xs : List (NestedKey × Addr × Value)} (r : Pairs es xs) : ∀ x ∈ xs, ∃ e ∈ es, nk e.2.1 = x.1 ∧ e.1 = x.2.1 := by
  unfold Pairs at r
  induction r with
  | nil => intro x hx; cases hx
  | @cons e q es xs hq t ih =>
    intro x hx
    rcases List.mem_cons.mp hx with rfl | hx
    · exact ⟨e, List.mem_cons_self, hq.1, hq.2.1⟩
    · obtain ⟨e2, m, z⟩ := ih x hx
      exact ⟨e2, List.mem_cons_of_mem _ m, z⟩
theorem isAll_mem : ∀ {xs : List V} {ds : List D} {d : D}, IsAll U A H xs ds → d ∈ ds → ∃ v ∈ xs, Is U A H v d
  | _, _, _, .nil, h => by cases h
  | _, _, d, .cons i t, h => by
    rcases List.mem_cons.mp h with rfl | h
    · exact ⟨_, List.mem_cons_self, i⟩
    · obtain ⟨v, m, q⟩ := isAll_mem t h
      exact ⟨v, List.mem_cons_of_mem _ m, q⟩
theorem isAll_ents : ∀ {es : List Ent}, IsAll U A H (es.map fun e => V.ref e.1) (es.map (·.2.1)) → ∀ e ∈ es, Is U A H (.ref e.1) e.2.1
  | e :: es, .cons i t, f, h => by
    rcases List.mem_cons.mp h with rfl | h
    · exact i
    · exact isAll_ents t f h
theorem dictAt_N (hU : HU X U) (I : Inv X pins σ H s) {kv : List V} {ks : List D} {xs : List V} (e : DictAt U H a kv ks xs) (hk : IsAll U A H kv ks) (hN : ∀ k ∈ ks, okKey k = true) :
    ∃ es : List Ent, kv = es.map (fun e => V.ref e.1) ∧ ks = es.map (·.2.1) ∧ xs = es.map (·.2.2) ∧ NH X s a es ∧ Mut (H a) := by
  cases e with
  | k kvs h =>
    match kvs, h, hN, hk with
    | [], h, _, _ =>
      obtain ⟨z, lo, vs, rel, dd⟩ := dk_of I.hok h
      cases rel
      obtain ⟨o, es, ep, h1, h2, h3, h4, h5, h6⟩ := dd
      have he : es.toList = [] := by
        cases hq : es.toList with
        | nil => rfl
        | cons x r => rw [hq] at h5; cases h5
      exact ⟨[], rfl, rfl, rfl, ⟨z, lo, [], .nil, o, es, ep, h1, h2, h3, he, (fun x hx => nomatch hx), List.nodup_nil⟩, by rw [h]; exact True.intro⟩
    | p :: r, _, hN, hk =>
      exfalso
      have h1 := hN (keyD p.1) (by simp)
      cases hp : p.1 with
      | inl i => rw [hp] at h1; cases h1
      | inr z => rw [hp] at h1; cases h1
  | n es h =>
    refine ⟨es, rfl, rfl, rfl, ?_, by rw [h]; exact True.intro⟩
    have q : ObjOk U.P U.w H s.heap a (NDo U.P U.w a es) := by
      rw [hU.P, hU.w]
      exact I.hok a _ (by rw [← hU.P, ← hU.w]; exact h)
    obtain ⟨⟨hz, hd, xs, r, o, ds, ep, h1, h2, h3, h4, h5⟩, _, _⟩ := q
    rw [hU.P, hU.w] at h4
    refine ⟨hz, hd, xs, r, o, ds, ep, h1, h2, h3, h4, fun x hx => ?_, h5⟩
    obtain ⟨f, m, e1, e2⟩ := pairs_all r x hx
    have hi := isAll_ents hk f m
    obtain ⟨c, ec, k2, k3⟩ := okKey_ref hi (hN _ (List.mem_map.mpr ⟨f, m, rfl⟩))
    rw [← e1, ← e2]
    exact key_is I hi k2 k3
/-- what a dict has at a key -/
def valKD : List D → List D → D → Option D
  | k0 :: ks, v :: vs, k => if nk k0 = nk k then some v else valKD ks vs k
  | _, _, _ => none
theorem valE_is {k : D} : ∀ {es : List Ent} {vs : List D}, IsAll U A H (es.map (·.2.2)) vs → (valE es k = none ∧ valKD (es.map (·.2.1)) vs k = none) ∨ ∃ v d, valE es k = some v ∧ valKD (es.map (·.2.1)) vs k = some d ∧ Is U A H v d
  | [], _, .nil => .inl ⟨rfl, rfl⟩
  | e :: es, d :: vs, .cons i t => by
    by_cases h : nk e.2.1 = nk k
    · right
      refine ⟨e.2.2, d, ?_, ?_, i⟩
      · unfold valE; rw [List.find?_cons_of_pos (by simpa using h)]; rfl
      · rw [List.map_cons, valKD, if_pos h]
    · have e1 : valE (e :: es) k = valE es k := by unfold valE; rw [List.find?_cons_of_neg (by simpa using h)]
      rw [e1, List.map_cons, valKD, if_neg h]
      exact valE_is t
/-- d[k], d a dict of rows -/
def okKeys (ks : List D) : Bool := ks.all okKey
def dIxN (x y : D) : Option D := match x with
  | .dct ks vs => if okKeys ks && okKey y then valKD ks vs y else none
  | _ => none
theorem okKeys_of {ks : List D} (h : okKeys ks = true) : ∀ k ∈ ks, okKey k = true := fun k hk => List.all_eq_true.mp h k hk
/-- an error is no dict of rows -/
theorem Is.dctN {v : V} {ks vs : List D} (h : Is U A H v (.dct ks vs)) (ho : okKeys ks = true) : ∃ a kv xs, v = .ref a ∧ DictAt U H a kv ks xs ∧ IsAll U A H kv ks ∧ IsAll U A H xs vs ∧ ¬ A a := by
  cases h with
  | dct e hk h hp => exact ⟨_, _, _, rfl, e, hk, h, hp⟩
  | err e ed h hd hp => have := okKeys_of ho _ List.mem_cons_self; cases this
theorem subD_tail {value slice : Expr} {ov iv : Value} {Q : Value → Shared → Prop} {T id : String} {prog : Program} {w : World} {Ar : Around} {E : Value → Shared → Prop} (hl : typeLookup (.type T) "__getitem__" = pure (some (.builtin id))) (hT : s.TypeIs ov T) (hs : subscripted slice false ov iv = operate [ov, iv] (getItem ov iv)) (h : wpAny (model prog w) Ar (getItem ov iv) Q E s) :
    wpAny (model prog w) Ar (subscriptTail value slice ov iv) Q E s := by
  unfold subscriptTail
  refine wpAny_bind ?_
  rw [getitemInPython_of_ne hT.not_modules]
  refine wpAny_bind (wpAny_specialOf hT hl ?_)
  have fin : wpAny (model prog w) Ar (subscripted slice false ov iv) (fun r s₃ => wpAny (model prog w) Ar (letTemporaryGo value ov r >>= fun _ => pure r) Q E s₃) E s := by
    rw [hs]
    exact wpAny_operating (wpAny_mono h (fun r s₃ h₃ => wpAny_bind (wpAny_letTemporaryGo (wpAny_pure h₃))) fun _ _ x => x)
  first
    | exact wpAny_pure (wpAny_bind fin)
    | exact wpAny_bind (wpAny_pure (wpAny_bind fin))
    | exact wpAny_bind fin
theorem o_ixN (hU : HU X U) (hu : X.A.units + 200 < cLine) : IxR X (rD2 U dIxN) := by
  intro value slice pins s σ H x y v u Q I rx ry hq hs
  obtain ⟨A, dx, dy, d, al, ix, iy, hf, q⟩ := hq
  unfold dIxN at hf
  cases dx with
  | dct ks vs =>
    simp only at hf
    by_cases ho : (okKeys ks && okKey dy) = true
    case neg => rw [if_neg ho] at hf; cases hf
    rw [if_pos ho] at hf
    rw [Bool.and_eq_true] at ho
    obtain ⟨a, kv, xs, rfl, e, hk, h, na⟩ := ix.dctN ho.1
    obtain ⟨es, e1, e2, e3, N, _⟩ := dictAt_N hU I e hk (okKeys_of ho.1)
    subst e1 e2 e3
    obtain ⟨c, rfl, k2, k3⟩ := okKey_ref iy ho.2
    cases rx
    cases ry
    obtain ⟨ys, r, dd⟩ := N.ex
    rcases valE_is (k := dy) h with ⟨_, z⟩ | ⟨w, d', z1, z2, z3⟩
    · rw [z] at hf; cases hf
    · rw [z2] at hf
      cases hf
      have rv := r.val dy
      rw [z1, valueAt_pairsH] at rv
      cases hat : atKey ys (nk dy) with
      | none => rw [hat] at rv; exact rv.elim
      | some p =>
        rw [hat] at rv
        refine subD_tail PySem.F.slot_dict_getitem.lookup dd.typeIs hs (wpAny_getItem_heap (knd := nestedKind X.prog X.w) (by show X.A.units + 1 + 8 < cLine; omega) (key_is I iy k2 k3) dd hat ?_)
        exact ⟨w, H, I.tok _, rv, q _ H Same.refl' z3⟩
  | _ => cases hf
end
end Bx
/-! Dicts of rows: put, sorted. -/
namespace Bx
open PySem PySem.Spec PyProof.Rows L2
def hasKD (ks : List D) (k : D) : Bool := ks.any fun k0 => decide (nk k0 = nk k)
def putVs : List D → List D → D → D → List D
  | k0 :: ks, v0 :: vs, k, v => (if nk k0 = nk k then v else v0) :: putVs ks vs k v
  | _, _, _, _ => []
/-- d[k] = v, as data -/
def dPut (ks vs : List D) (k v : D) : D := if hasKD ks k = true then .dct ks (putVs ks vs k v) else .dct (ks ++ [k]) (vs ++ [v])
section
variable {X : Cx} {U : Un} {A : Ad} {pins : List (Addr × Obj)} {σ : L2.St} {H : Hp} {s : Shared} {a : Addr}
theorem valE_some {k : D} : ∀ {es : List Ent}, (valE es k).isSome = hasKD (es.map (·.2.1)) k
  | [] => rfl
  | e :: es => by
    unfold hasKD
    rw [List.map_cons, List.any_cons]
    by_cases h : nk e.2.1 = nk k
    · have e1 : valE (e :: es) k = some e.2.2 := by unfold valE; rw [List.find?_cons_of_pos (by simpa using h)]; rfl
      rw [e1, decide_eq_true h]; rfl
    · have e1 : valE (e :: es) k = valE es k := by unfold valE; rw [List.find?_cons_of_neg (by simpa using h)]
      rw [e1, decide_eq_false h, Bool.false_or]
      exact valE_some
theorem putVs_is {k v : D} {x : V} (ix : Is U A H x v) : ∀ {es : List Ent} {vs : List D}, IsAll U A H (es.map (·.2.2)) vs → IsAll U A H ((es.map fun e => if nk e.2.1 = nk k then (e.1, e.2.1, x) else e).map (·.2.2)) (putVs (es.map (·.2.1)) vs k v)
  | [], _, .nil => .nil
  | e :: es, d :: vs, .cons i t => by
    rw [List.map_cons, List.map_cons, List.map_cons, putVs]
    refine .cons ?_ (putVs_is ix t)
    by_cases h : nk e.2.1 = nk k
    · rw [if_pos h, if_pos h]; exact ix
    · rw [if_neg h, if_neg h]; exact i
theorem putKeys {es : List Ent} {k : D} {x : V} : ((es.map fun e => if nk e.2.1 = nk k then (e.1, e.2.1, x) else e).map (·.2.1)) = es.map (·.2.1) ∧ ((es.map fun e => if nk e.2.1 = nk k then (e.1, e.2.1, x) else e).map fun e => V.ref e.1) = es.map fun e => V.ref e.1 := by
  constructor
  · rw [List.map_map]; exact List.map_congr_left fun e _ => by show (if nk e.2.1 = nk k then (e.1, e.2.1, x) else e).2.1 = _; split <;> rfl
  · rw [List.map_map]; exact List.map_congr_left fun e _ => by show V.ref (if nk e.2.1 = nk k then (e.1, e.2.1, x) else e).1 = _; split <;> rfl
/-- what stands behind a put -/
theorem put_is {es : List Ent} {ks vs : List D} {k v : D} {c : Addr} {x : V} (e2 : ks = es.map (·.2.1)) (hk : IsAll U A H (es.map fun e => V.ref e.1) ks) (h : IsAll U A H (es.map (·.2.2)) vs) (ic : Is U A H (.ref c) k) (ix : Is U A H x v) :
    ∃ ks' vs', dPut ks vs k v = .dct ks' vs' ∧ ks' = (putD es k c x).map (·.2.1) ∧ IsAll U A H ((putD es k c x).map fun e => V.ref e.1) ks' ∧ IsAll U A H ((putD es k c x).map (·.2.2)) vs' := by
  subst e2
  unfold dPut putD
  rw [valE_some]
  by_cases hh : hasKD (es.map (·.2.1)) k = true
  · rw [if_pos hh, if_pos hh]
    exact ⟨_, _, rfl, putKeys.1.symm, by rw [putKeys.2]; exact hk, putVs_is ix h⟩
  · rw [if_neg hh, if_neg hh]
    refine ⟨_, _, rfl, by rw [List.map_append]; rfl, ?_, ?_⟩
    · rw [List.map_append]; exact hk.append (.cons ic .nil)
    · rw [List.map_append]; exact h.append (.cons ix .nil)
def rSetD (U : Un) : V → V → V → Hp → (Hp → Prop) → Prop := fun o i v H Q => ∃ (A : Ad) (a : Addr) (kv : List V) (ks : List D) (xs : List V) (k : D), o = .ref a ∧ DictAt U H a kv ks xs ∧ IsAll U A H kv ks ∧ okKeys ks = true ∧ Is U A H i k ∧ okKey k = true ∧ ks.length < maxL ∧
  ∀ (es : List Ent) (c : Addr), kv = es.map (fun e => V.ref e.1) → ks = es.map (·.2.1) → xs = es.map (·.2.2) → i = .ref c → Q (upd H a (NDo U.P U.w a (putD es k c v)))
theorem set_D (hU : HU X U) (hu : X.A.units + 200 < cLine) : PSet X (rSetD U) := by
  intro pins s σ H o i v ov iv u Q I ro ri rv h
  obtain ⟨A, a, kv, ks, xs, k, rfl, e, hk, ho, ik, pk, hl, q⟩ := h
  obtain ⟨es, e1, e2, e3, N, mu⟩ := dictAt_N hU I e hk (okKeys_of ho)
  obtain ⟨c, rfl, k2, k3⟩ := okKey_ref ik pk
  obtain rfl : ov = Value.ref a := ro
  obtain rfl : iv = Value.ref c := ri
  obtain ⟨ys, r, D⟩ := N.ex
  have hll : ys.length = es.length := (Paired.length r).symm
  have hle : es.length < maxL := by rw [e2, List.length_map] at hl; exact hl
  refine wpAny_setItem_heap (knd := nestedKind X.prog X.w) (k := nk k) (by show X.A.units + 1 + 8 < cLine; omega) (key_is I ik k2 k3) D (fun h' D' hs => ?_) (by rw [hll]; exact smallL (Nat.le_of_lt hle))
  have hz2 : (putD es k c v).length ≤ sizeLine := Nat.le_trans putD_length (smallLt (Nat.le_of_lt hle))
  obtain ⟨o2, ds2, ep2, g1, _⟩ := id D'
  have q2 := q es c e1 e2 e3 rfl
  rw [hU.P, hU.w] at q2
  exact ⟨_, d_write I mu hs ⟨_, g1⟩ (ndo_ok hz2 N.lo (r.put rv k c) D'), q2⟩
theorem mem_ref {es : List Ent} {j : Nat} {v : V} (h : (es.map fun e => V.ref e.1)[j]? = some v) : ∃ e, es[j]? = some e ∧ v = .ref e.1 := by
  rw [List.getElem?_map] at h
  obtain ⟨e, h1, rfl⟩ := Option.map_eq_some_iff.mp h
  exact ⟨e, h1, rfl⟩
def rSortedK (U : Un) : List V → Hp → VK → Prop := fun vs H Q => ∃ (A : Ad) (a : Addr) (kv : List V) (ks : List D) (xs : List V), vs = [.ref a] ∧ DictAt U H a kv ks xs ∧ IsAll U A H kv ks ∧ okKeys ks = true ∧ Sorts ks ∧
  ∀ (ys : List V) (es : List D) (b : Addr), ys.Perm kv → es.Perm ks → IsAll U A H ys es → Rising es → H b = none → Q (.ref b) (upd H b (.lst ys))
theorem cr_sortedK (hc : X.calm = true) (hU : HU X U) (hu : X.A.units + 200 < cLine) : CallR X (.builtin "sorted") (rSortedK U) := by
  intro pins s σ H vs us Q I r h
  obtain ⟨A, a, kv, ks, xs, rfl, e, hk, ho, hS, q⟩ := h
  obtain ⟨es, e1, e2, e3, N, mu⟩ := dictAt_N hU I e hk (okKeys_of ho)
  rw [Vals.ref1 r]
  obtain ⟨ys, pr, o, ds, ep, h1, h2, h3, h4, h5, h6⟩ := N.ex
  have hsz : ds.size = es.length := by rw [← Array.length_toList, h4, List.length_map, ← Paired.length pr]
  refine Calls.call_function_entry PyProof.Rows.kind_sorted PyProof.Rows.plain_sorted PyProof.Rows.entry_sorted (PyProof.Rows.args_sorted1 _) ?_
  unfold Builtin.«sorted»
  refine wpAny_bind (m := checkCount "sorted" 1 1 _) (wpAny_pure ?_)
  refine wpAny_bind (PySem.W.kdu_collect (A := X.A.in1) (L2.kdl_raw (es := ds) (ep := ep) N.lo h2 h3) (I.ok.hd hc) h1 (by rw [hsz]; exact N.z) fun h' tk acc hkp hacc => ?_)
  have hal : acc.toList.length = es.length := by rw [Array.length_toList, hacc.1, hsz]
  have hat : ∀ (j : Nat) (v : Value), acc.toList[j]? = some v → ∃ f, es[j]? = some f ∧ v = .ref f.1 := fun j v hv => by
    obtain ⟨en, g1, g2⟩ := hacc.2 j v (by rw [← Array.getElem?_toList]; exact hv)
    rw [← Array.getElem?_toList, h4, List.getElem?_map] at g1
    obtain ⟨y, y1, y2⟩ := Option.map_eq_some_iff.mp g1
    have hj : j < es.length := by
      have := (List.getElem?_eq_some_iff.mp hv).1
      omega
    have key : ∀ {es : List Ent} {ys : List (NestedKey × Addr × Value)}, Pairs es ys → ∀ {j : Nat} {f : Ent} {y : NestedKey × Addr × Value}, es[j]? = some f → ys[j]? = some y → f.1 = y.2.1 := by
      intro es ys pr
      unfold Pairs at pr
      induction pr with
      | nil => intro j f y h; simp at h
      | cons hq t ih =>
        intro j f y hf hy
        cases j with
        | zero => cases hf; cases hy; exact hq.2.1
        | succ j => exact ih (by simpa using hf) (by simpa using hy)
    refine ⟨es[j], List.getElem?_eq_getElem hj, ?_⟩
    rw [g2, ← y2, key pr (List.getElem?_eq_getElem hj) y1]
    rfl
  have rv : Vals kv acc.toList := by
    rw [e1]
    refine vals_of_at (by rw [List.length_map, hal]) fun j x u hx hu' => ?_
    obtain ⟨f, f1, rfl⟩ := mem_ref hx
    obtain ⟨g, g1, rfl⟩ := hat j u hu'
    rw [f1] at g1
    cases g1
    rfl
  have I1 : Inv X pins σ H { s with heap := h', toks := tk } := I.kept hkp
  obtain ⟨L, l1, l2, l3, hL⟩ := triples rv hk
  have small : acc.toList.length ≤ sizeLine := by rw [hal]; exact N.z
  refine wpAny_bind (wpAny_newList ?_ small)
  have hoL : (h'.push (seqObj "list" acc.toList.toArray 0)).get? h'.objs.size = some (seqObj "list" acc.toList.toArray 0) := Heap.get?_push_size _ rfl
  have hpk : ∀ b o, h'.get? b = some o → b ≠ h'.objs.size ∧ (h'.push (seqObj "list" acc.toList.toArray 0)).get? b = some o := fun b o e => ⟨Nat.ne_of_lt (Heap.lt_size e), Heap.get?_push_of_some _ e⟩
  have hRd : ∀ t ∈ L, Rds h' t.2.1 t.2.2 := fun t ht => by
    have hd : t.2.2 ∈ ks := by rw [← l3]; exact List.mem_map.mpr ⟨t, ht, rfl⟩
    exact rds_of I1 (hL t ht).1 (hL t ht).2 (hS.pl _ hd).1
  have hkO : ∀ t ∈ L, kOf h' t.2.1 = t.2.2 := fun t ht => kOf_is (hRd t ht)
  have hv : ∀ v ∈ acc.toList, ∃ t ∈ L, t.2.1 = v := fun v hv => by
    rw [← l2] at hv
    exact List.mem_map.mp hv
  have hm : ∀ t ∈ L, t.2.2 ∈ ks := fun t ht => by rw [← l3]; exact List.mem_map.mpr ⟨t, ht, rfl⟩
  show wpAny _ _ _ _ _ { s with heap := h'.push (seqObj "list" acc.toList.toArray 0), toks := tk }
  refine wpAny_bind (wpAny_holding (wpAny_call_entry PyProof.Rows.slot_list_sort ⟨_, hoL, rfl⟩ PyProof.Rows.entry_list_sort
    (SrtO.list_sort_ord (s := { s with heap := h'.push (seqObj "list" acc.toList.toArray 0), toks := tk }) (swo_ltT (kOf h')) hoL small (fun two => sortableD (s := { s with heap := h'.push (seqObj "list" acc.toList.toArray 0), toks := tk }) two (fun v hm1 => ?_) ?_ (fun v m1 u m2 => ?_) (fun v m1 => ?_) (by show X.A.units + 1 + 1 + 190 < _; omega) (fun o e => ?_)) fun out o1 o2 => ⟨.none, rfl, ?_⟩)
    (PyProof.Rows.args_list_sort _)))
  · obtain ⟨t, ht, rfl⟩ := hv v hm1
    rw [hkO t ht]
    exact rd_but (a := h'.objs.size) (fun c o _ e => (hpk c o e).2) (fun o e => absurd rfl (hpk _ o e).1) _ (hRd t ht)
  · rcases hS.kd with g | g | ⟨T, g⟩
    · exact .inl fun v m => by obtain ⟨t, ht, rfl⟩ := hv v m; rw [hkO t ht]; exact g _ (hm t ht)
    · exact .inr (.inl fun v m => by obtain ⟨t, ht, rfl⟩ := hv v m; rw [hkO t ht]; exact g _ (hm t ht))
    · exact .inr (.inr ⟨T, fun v m => by obtain ⟨t, ht, rfl⟩ := hv v m; rw [hkO t ht]; exact g _ (hm t ht)⟩)
  · obtain ⟨t, ht, rfl⟩ := hv v m1
    obtain ⟨t2, ht2, rfl⟩ := hv u m2
    rw [hkO t ht, hkO t2 ht2]
    exact hS.ok _ (hm t ht) _ (hm t2 ht2)
  · obtain ⟨t, ht, rfl⟩ := hv v m1
    rw [hkO t ht]
    exact (hS.pl _ (hm t ht)).2
  · have e' : some o = some (seqObj "list" acc.toList.toArray 0) := e.symm.trans hoL
    cases e'
    intro c
    exact absurd (Value.type.inj c) (by decide)
  · obtain ⟨L', p1, p2⟩ := perm_lift (fun t : V × Value × D => t.2.1) o2.perm L l2.symm
    have hL' : ∀ t ∈ L', RelV t.1 t.2.1 ∧ Is U A H t.1 t.2.2 := fun t ht => hL t (p1.mem_iff.mp ht)
    obtain ⟨b1, b2⟩ := triples_back hL'
    rw [p2] at b1
    obtain ⟨ep2, he'⟩ := PyProof.Rows.sortedHeap_at (vs := acc.toList) (out := out.toArray) hoL
    have hlen : (L'.map (·.1)).length ≤ sizeLine := by
      rw [List.length_map, p1.length_eq]
      have := congrArg List.length l2
      rw [List.length_map] at this
      rw [this]
      exact small
    refine wpAny_pure ⟨_, rfl, .ref h'.objs.size, upd H h'.objs.size (.lst (L'.map (·.1))), I1.laid (t' := tk) (fun b u e => ?_) (Nat.le_refl _) (show ObjOk X.prog X.w _ _ _ (.lst (L'.map (·.1))) from ⟨hlen, out, ep2, b1, he'⟩), rfl, q (L'.map (·.1)) (L'.map (·.2.2)) _ ?_ ?_ b2 ?_ (I1.hok.fresh (Nat.le_refl _))⟩
    · have hb : b < h'.objs.size := Heap.lt_size e
      rw [PyProof.Rows.sortedHeap_old (Nat.ne_of_lt hb) (by rw [size_push']; exact Nat.lt_succ_of_lt hb)]
      exact Heap.get?_push_of_some _ e
    · rw [← l1]
      exact p1.map _
    · rw [← l3]
      exact p1.map _
    · have hs3 : out.Pairwise fun u v => ltT (kOf h' v) (kOf h' u) = false := o1
      rw [← p2, List.pairwise_map] at hs3
      refine List.pairwise_map.mpr (hs3.imp_of_mem fun {t1 t2} m1 m2 z => ?_)
      rw [hkO t1 (p1.mem_iff.mp m1), hkO t2 (p1.mem_iff.mp m2)] at z
      exact z
end
end Bx
/-! Owned dicts, own things read, dicts of texts. -/
namespace Bx
open PySem PySem.Spec PyProof.Rows L2
section
variable {X : Cx} {U : Un} {C : Cz U} {a b e : Expr} {ta tb te tk : TE} {ma mb me mk : M D} {pos : Pos}
/-- {} -/
theorem df_dnew : DF X C (.Dict [] [] pos) tDNewK (mC (.dct [] [])) := by
  refine ⟨pe_dnewK, fun σ H ρ r Q O e p => ?_⟩
  cases e
  intro q hq
  have s : Same H (upd H q (.dK [])) := Same.new hq
  exact p q (.dK []) _ hq (O.plus hq s upd_same) (O.extPlus hq s) ⟨q, rfl, .inr ⟨[], [], [], [], .k [] upd_same, .nil, .nil, rfl⟩⟩
def ownD (i : Nat) {α : Type} (k : List D → List D → M α) : M α := fun ρ => match ρ[i]? with
  | some (some (.dct ks vs)) => k ks vs ρ
  | _ => none
theorem ownD_ok {i : Nat} {α : Type} {k : List D → List D → M α} {ρ : Env} {r : Rs α} (h : ownD i k ρ = some r) : ∃ ks vs, ρ[i]? = some (some (.dct ks vs)) ∧ k ks vs ρ = some r := by
  unfold ownD at h
  split at h
  · rename_i ks vs hd; exact ⟨ks, vs, hd, h⟩
  · cases h
theorem Ok.ownD {σ : L2.St} {H : Hp} {ρ : Env} {i : Nat} {ks vs : List D} (O : Ok C σ H ρ) (hi : i ∈ C.own) (e : ρ[i]? = some (some (.dct ks vs))) : ∃ a kv xs, σ[i]? = some (some (.ref a)) ∧ DictAt U H a kv ks xs ∧ IsAll U (Av C σ) H kv ks ∧ IsAll U (Av C σ) H xs vs := by
  obtain ⟨v, h1, a, rfl, h2⟩ := O.owned e hi
  rcases h2 with ⟨xs, ds2, e1, h, q⟩ | ⟨kv, ks2, xs, vs2, e1, hk, h, q⟩
  · cases q
  · cases q; exact ⟨a, kv, xs, h1, e1, hk, h⟩
/-- x[k] = e of an owned dict of rows -/
def sSetN (i : Nat) (me mk : M D) : M Fl := M.bind me fun d => ownD i fun _ _ => M.bind mk fun k => ownD i fun ks vs ρ => if okKeys ks = true ∧ okKey k = true ∧ ks.length < maxL then some (.ok .nx (ρ.set i (some (dPut ks vs k d)))) else none
theorem ds_setN {i : Nat} {x : Str} {p0 p1 : Pos} {k : Expr} (hU : HU X U) (hu : X.A.units + 200 < cLine) (h : DE X C e te me) (hk : DE X C k tk mk) (hN : X.N[i]? = some x := by rfl) (hv : Vis X.env.scope x := by first | exact Or.inl rfl | exact Or.inr (Or.inl rfl) | exact Or.inr (Or.inr rfl)) (n : i ∈ C.own := by exact of_decide_eq_true rfl)
    (hd : (x == ("__debug__" : Str)) = false := by decide) (hcd : (x == ("__classdict__" : Str)) = false := by decide)
    (hs : swapsWithSole [.Subscript (.Name x p0) k p1] e pos.line X.env = pure false := by rfl) (hw : swappedStores [.Subscript (.Name x p0) k p1] e X.env = pure none := by rfl) (h1 : (assignEach [.Subscript (.Name x p0) k p1] X.env).map (·.2) = [assign (.Subscript (.Name x p0) k p1) X.env] := by rfl)
    (ha : ∀ v, assign (.Subscript (.Name x p0) k p1) X.env v = (do
      let ov ← holding [v] (eval (.Name x p0) X.env)
      let iv ← holding [v, ov] (eval k X.env)
      standAt p1
      holding [v, ov, iv] (setItem ov iv v)
      release [v, ov, iv] []) := by intro _; rfl) :
    DS X C (.Assign [.Subscript (.Name x p0) k p1] e pos) (tAsg te (gSub (tVar i) tk (rSetD U))) (sSetN i me mk) := by
  refine ⟨ps_asg h.1 (pg_sub (pe_var hN hv hd hcd) hk.1 (set_D hU hu) ha) hs hw h1, fun σ H ρ r Dn O e p => ?_⟩
  refine h.2.then O e p.ex fun d ρ1 v H1 O1 x1 i1 e1 => ?_
  obtain ⟨ks0, vs0, h0, e1⟩ := ownD_ok e1
  obtain ⟨a, kv0, xs0, ea, _⟩ := O1.ownD n h0
  refine ⟨.ref a, ea, ?_⟩
  refine hk.2.then O1 e1 (p.later x1).ex fun kd ρ2 kx H2 O2 x2 i2 e2 => ?_
  obtain ⟨ks, vs, h2, e3⟩ := ownD_ok e2
  obtain ⟨a', kv, xs, ea', eh, ik, ix⟩ := O2.ownD n h2
  rw [ea] at ea'
  cases ea'
  by_cases ho : okKeys ks = true ∧ okKey kd = true ∧ ks.length < maxL
  case neg => rw [if_neg ho] at e3; cases e3
  rw [if_pos ho] at e3
  cases e3
  refine ⟨Av C σ, a, kv, ks, xs, kd, rfl, eh, ik, ho.1, i2, ho.2.1, ho.2.2, fun es c q1 q2 q3 q4 => ?_⟩
  subst q1 q3 q4
  obtain ⟨ks', vs', d1, d2, d3, d4⟩ := put_is (v := d) (x := v) q2 ik ix i2 (i1.ext x2)
  have av : Av C σ a := .inr ⟨i, n, ea⟩
  have kp : ∀ b o, H2 b = some o → b ≠ a → upd H2 a (NDo U.P U.w a (putD es kd c v)) b = some o := fun b o e n => by rw [upd_ne n]; exact e
  have xx : Ext (Av C σ) H2 (Av C σ) (upd H2 a (NDo U.P U.w a (putD es kd c v))) := fun b o e n => ⟨kp b o e (fun z => n (by rw [z]; exact av)), n⟩
  obtain ⟨O3, x3⟩ := O2.changed (H' := upd H2 a (NDo U.P U.w a (putD es kd c v))) (d := dPut ks vs kd d) n ea kp (fun b z => by
    by_cases e : b = a
    · subst e; rw [upd_same]; nofun
    · rw [upd_ne e]; exact O2.al b z) ⟨a, rfl, .inr ⟨_, ks', _, vs', by rw [d2]; exact .n _ upd_same, d3.ext xx, d4.ext xx, d1⟩⟩
  exact p σ _ O3 ((x1.trans x2).trans x3)
/-- x[k] of an own row or dict of rows -/
def ixOwn (o : D) (k : D) : Option D := match o with
  | .lst ds => (match k with
    | .int j => atI ds j
    | _ => none)
  | .dct ks vs => if okKeys ks = true ∧ okKey k = true then valKD ks vs k else none
  | _ => none
def mOwnIx (i : Nat) (mk : M D) : M D := fun ρ0 => match ρ0[i]? with
  | some (some _) => M.bind mk (fun k ρ => match ρ[i]? with
    | some (some o) => M.opt (ixOwn o k) ρ
    | _ => none) ρ0
  | _ => none
def rIxO (U : Un) : R2 := fun x y H Q => ∃ (A : Ad) (a : Addr) (kv : List V) (ks : List D) (xs : List V) (vs : List D) (dy d : D), x = .ref a ∧ DictAt U H a kv ks xs ∧ IsAll U A H kv ks ∧ IsAll U A H xs vs ∧ okKeys ks = true ∧ Is U A H y dy ∧ okKey dy = true ∧ valKD ks vs dy = some d ∧ ∀ v, Is U A H v d → Q v H
theorem o_ixO (hU : HU X U) (hu : X.A.units + 200 < cLine) : IxR X (rIxO U) := by
  intro value slice pins s σ H x y v u Q I rx ry hq hs
  obtain ⟨A, a, kv, ks, xs, vs, dy, d, rfl, e, hk, h, ho1, iy, ho2, hf, q⟩ := hq
  obtain ⟨es, e1, e2, e3, N, _⟩ := dictAt_N hU I e hk (okKeys_of ho1)
  subst e1 e2 e3
  obtain ⟨c, rfl, k2, k3⟩ := okKey_ref iy ho2
  cases rx
  cases ry
  obtain ⟨ys, r, dd⟩ := N.ex
  rcases valE_is (k := dy) h with ⟨_, z⟩ | ⟨w, d', z1, z2, z3⟩
  · rw [z] at hf; cases hf
  · rw [z2] at hf
    cases hf
    have rv := r.val dy
    rw [z1, valueAt_pairsH] at rv
    cases hat : atKey ys (nk dy) with
    | none => rw [hat] at rv; exact rv.elim
    | some p =>
      rw [hat] at rv
      refine subD_tail PySem.F.slot_dict_getitem.lookup dd.typeIs hs (wpAny_getItem_heap (knd := nestedKind X.prog X.w) (by show X.A.units + 1 + 8 < cLine; omega) (key_is I iy k2 k3) dd hat ?_)
      exact ⟨w, H, I.tok _, rv, q w z3⟩
theorem de_ownIx {i : Nat} {x : Str} {p0 : Pos} {k : Expr} (hU : HU X U) (hu : X.A.units + 200 < cLine) (hk : DE X C k tk mk) (hpl : PlainIx k) (hN : X.N[i]? = some x := by rfl) (hv : Vis X.env.scope x := by first | exact Or.inl rfl | exact Or.inr (Or.inl rfl) | exact Or.inr (Or.inr rfl)) (n : i ∈ C.own := by exact of_decide_eq_true rfl)
    (hd : (x == ("__debug__" : Str)) = false := by decide) (hcd : (x == ("__classdict__" : Str)) = false := by decide) :
    DE X C (.Subscript (.Name x p0) k pos) (tOp (fun x y H Q => rIxL U.K x y H Q ∨ rIxO U x y H Q) (tVar i) tk) (mOwnIx i mk) := by
  refine ⟨pe_ix (IxR.or (hU.K ▸ ix_list) (o_ixO hU hu)) (pe_var hN hv hd hcd) hk.1 hpl, fun σ H ρ r Q O e p => ?_⟩
  unfold mOwnIx at e
  cases h0 : ρ[i]? with
  | none => rw [h0] at e; cases e
  | some d0 =>
    cases d0 with
    | none => rw [h0] at e; cases e
    | some d0 =>
      rw [h0] at e
      obtain ⟨v, ev, ow⟩ := O.owned h0 n
      refine ⟨v, ev, ?_⟩
      refine hk.2.then O e p.ex fun kd ρ1 kx H1 O1 x1 i1 e1 => ?_
      split at e1
      · rename_i o h1
        obtain ⟨z, hz, rfl⟩ := opt_ok e1
        unfold ixOwn at hz
        cases o with
        | lst ds =>
          cases kd with
          | int j =>
            obtain ⟨a, xs, ea, eh, ix⟩ := O1.ownL n h1
            rw [ev] at ea
            cases ea
            obtain ⟨w, hw, iw⟩ := atI_all ix hz
            exact .inl ⟨a, xs, j, w, rfl, i1.int_inv, .inl (.inl eh), hw, p w H1 O1 x1 iw⟩
          | _ => cases hz
        | dct ks vs =>
          simp only at hz
          by_cases ho : okKeys ks = true ∧ okKey kd = true
          case neg => rw [if_neg ho] at hz; cases hz
          rw [if_pos ho] at hz
          obtain ⟨a, kv, xs, ea, eh, ik, ix⟩ := O1.ownD n h1
          rw [ev] at ea
          cases ea
          exact .inr ⟨Av C σ, a, kv, ks, xs, vs, kd, z, rfl, eh, ik, ix, ho.1, i1, ho.2, hz, fun w iw => p w H1 O1 x1 iw⟩
        | _ => cases hz
      · cases e1
/-- tuple(x), list(x) of an own row -/
def mOwnTuple (i : Nat) : M D := ownAt i fun ds ρ => some (.ok (.tup ds) ρ)
theorem de_ownTuple {i : Nat} {x y : Str} {p0 p1 : Pos} (hg : Gl X y) (hm : X.mg y = none) (hb : bootBuiltins y = some (.type "tuple") := by decide +kernel) (hN : X.N[i]? = some x := by rfl) (hv : Vis X.env.scope x := by first | exact Or.inl rfl | exact Or.inr (Or.inl rfl) | exact Or.inr (Or.inr rfl)) (n : i ∈ C.own := by exact of_decide_eq_true rfl)
    (hd : (x == ("__debug__" : Str)) = false := by decide) (hcd : (x == ("__classdict__" : Str)) = false := by decide) (hn : y ≠ "__name__" := by decide) (hdb : (y == ("__debug__" : Str)) = false := by decide)
    (he : starEach (.Name x p0 :: []) X.env = (false, eval (.Name x p0) X.env) :: starEach [] X.env := by rfl) (hpl : (backTo pos (starEach [] X.env)).any (·.1) = false := by rfl) :
    DE X C (.Call (.Name y p1) [.Name x p0] [] pos) (tCB (fun xs H Q => ∃ p ys, xs = [.ref p] ∧ ((SqL X.K H p ys ∧ ∀ l, H l = none → Q (.ref l) (upd H l (.tup ys))) ∨ (SqT X.K H p ys ∧ Q (.ref p) H))) (tCons (tVar i) tNil)) (mOwnTuple i) := by
  refine ⟨pe_callTy call_tuple_of hg hm hb (pa_cons (pe_var hN hv hd hcd) pa_nil he) hn hdb he hpl, fun σ H ρ r Q O e p => ?_⟩
  obtain ⟨ds, h0, e⟩ := ownAt_ok e
  cases e
  obtain ⟨a, xs, ea, eh, ix⟩ := O.ownL n h0
  exact ⟨.ref a, ea, a, xs, rfl, .inl ⟨.inl (.inl eh), fun l hl => p _ _ (O.same (Same.new hl)) (Ext.same (Same.new hl)) (Is.newT O.al hl ix)⟩⟩
open Classical in
/-- sorted(x) of an own dict of rows -/
noncomputable def mOwnSortedK (i : Nat) : M D := ownD i fun ks _ ρ => if okKeys ks = true ∧ Sorts ks ∧ Tight ks then some (.ok (.lst (sortD ks)) ρ) else none
theorem de_ownSortedK {i : Nat} {x y : Str} {p0 p1 : Pos} (hc : X.calm = true) (hU : HU X U) (hu : X.A.units + 200 < cLine) (hg : Gl X y) (hm : X.mg y = none) (hb : bootBuiltins y = some (.builtin "sorted") := by decide +kernel) (hN : X.N[i]? = some x := by rfl) (hv : Vis X.env.scope x := by first | exact Or.inl rfl | exact Or.inr (Or.inl rfl) | exact Or.inr (Or.inr rfl)) (n : i ∈ C.own := by exact of_decide_eq_true rfl)
    (hd : (x == ("__debug__" : Str)) = false := by decide) (hcd : (x == ("__classdict__" : Str)) = false := by decide) (hn : y ≠ "__name__" := by decide) (hdb : (y == ("__debug__" : Str)) = false := by decide)
    (he : starEach (.Name x p0 :: []) X.env = (false, eval (.Name x p0) X.env) :: starEach [] X.env := by rfl) (hpl : (backTo pos (starEach [] X.env)).any (·.1) = false := by rfl) :
    DE X C (.Call (.Name y p1) [.Name x p0] [] pos) (tCB (rSortedK U) (tCons (tVar i) tNil)) (mOwnSortedK i) := by
  refine ⟨pe_callB (cr_sortedK hc hU hu) hg hm hb (pa_cons (pe_var hN hv hd hcd) pa_nil he) hn hdb he hpl, fun σ H ρ r Q O e p => ?_⟩
  obtain ⟨ks, vs, h0, e⟩ := ownD_ok e
  by_cases ho : okKeys ks = true ∧ Sorts ks ∧ Tight ks
  case neg => rw [if_neg ho] at e; cases e
  rw [if_pos ho] at e
  cases e
  obtain ⟨a, kv, xs, ea, eh, ik, ix⟩ := O.ownD n h0
  refine ⟨.ref a, ea, Av C σ, a, kv, ks, xs, rfl, eh, ik, ho.1, ho.2.1, fun ys es b q1 q2 q3 q4 hb => ?_⟩
  rw [sortD_of q2 q4 ho.2.2] at p
  exact p _ _ (O.same (Same.new hb)) (Ext.same (Same.new hb)) (Is.newL O.al hb q3)
end
end Bx
/-! Dicts of texts; two places exchanged. -/
namespace Bx
open PySem PySem.Spec PyProof.Rows L2
/-- a reading that hands back one value, whatever stands -/
def CEt (X : Cx) (e : Expr) (t : TE) (v : V) : Prop := PE X e t ∧ ∀ σ H (Q : VK), (∀ H', Same H H' → Q v H') → t σ H Q
structure CPs (X : Cx) (pos : Pos) (keys : List (Option Expr)) (values : List Expr) (trs : List (TE × TE)) (kvs : List (Key × V)) : Prop where
  p : PPs X pos keys values trs
  r : ∀ σ H (Q : List (V × V) → Hp → Prop), (∀ H', Same H H' → Q (kvs.map fun kv => (kV kv.1, kv.2)) H') → tPairs trs σ H Q
section
variable {X : Cx} {U : Un} {C : Cz U} {a b e o : Expr} {ta tb te tk td ty : TE} {ma mb me mk : M D} {pos apos cpos : Pos}
theorem ce_int {i j} : CEt X (.Constant (.int i) j pos) (tC (.int i)) (.int i) := ⟨pe_int, fun _ H _ q => q H Same.refl'⟩
theorem ce_str {z : Str} {j} : CEt X (.Constant (.str z) j pos) (tC (.str z)) (.str z) := ⟨pe_str, fun _ H _ q => q H Same.refl'⟩
theorem ce_pow {i j r : Int} {x y} {p1 p2 : Pos} (h : dPow (.int i) (.int j) = some (.int r)) : CEt X (.BinOp (.Constant (.int i) x p1) .Pow (.Constant (.int j) y p2) pos) (tOp (rD2 ⟨X.prog, X.w, X.K, fun _ => 0⟩ dPow) (tC (.int i)) (tC (.int j))) (.int r) :=
  ⟨pe_op o_pow pe_int pe_int, fun σ H Q q => ⟨fun _ => False, _, _, _, (fun _ z => z.elim), .int i, .int j, h, fun v H' s i => by rw [i.int_inv]; exact q H' s⟩⟩
theorem cps_nil : CPs X pos [] [] [] [] := ⟨pps_nil, fun _ H _ q => q H Same.refl'⟩
theorem cps_cons {k v : Expr} {ks : List (Option Expr)} {vs : List Expr} {tk tv : TE} {trs : List (TE × TE)} {key : Key} {val : V} {kvs : List (Key × V)} (hk : CEt X k tk (kV key)) (hv : CEt X v tv val) (r : CPs X pos ks vs trs kvs) :
    CPs X pos (some k :: ks) (v :: vs) ((tk, tv) :: trs) ((key, val) :: kvs) :=
  ⟨pps_cons hk.1 hv.1 r.p, fun σ H Q q => hk.2 σ H _ fun H1 s1 => hv.2 σ H1 _ fun H2 s2 => r.r σ H2 _ fun H3 s3 => q H3 (Same.trans' (Same.trans' s1 s2) s3)⟩
theorem same_put {H H2 : Hp} {p : Addr} {o o2 : HO} (hp : H p = none) (s : Same (upd H p o) H2) : Same H (upd H2 p o2) := fun b x e => by
  have n : b ≠ p := ne_of_none e hp
  rw [upd_ne n]
  exact s b x (by rw [upd_ne n]; exact e)
theorem df_disp {keys : List (Option Expr)} {values : List Expr} {trs : List (TE × TE)} {kvs : List (Key × V)} {ks vs : List D} (h : CPs X pos keys values trs kvs) (hks : ks = kvs.map fun e => keyD e.1) (hik : ∀ A H, IsAll U A H (kvs.map fun e => kV e.1) ks) (hiv : ∀ A H, IsAll U A H (kvs.map (·.2)) vs)
    (hm : mergeK [] kvs = kvs := by rfl) (hall : keys.all (·.isSome) = true := by rfl) (hl : keys.length = values.length := by rfl) (h0 : keys ≠ [] := by exact fun z => nomatch z) (h15 : keys.length ≤ 15 := by decide) (h15' : kvs.length ≤ 15 := by decide) :
    DF X C (.Dict keys values pos) (tDisp trs) (mC (.dct ks vs)) := by
  subst hks
  refine ⟨pe_disp h.p hall hl h0 h15, fun σ H ρ r Q O e p => ?_⟩
  cases e
  intro q hq
  refine h.r _ _ _ fun H2 s2 => ⟨s2 _ _ upd_same, kvs, rfl, h15', ?_⟩
  rw [hm]
  have s : Same H (upd H2 q (.dK kvs)) := same_put hq s2
  exact p q (.dK kvs) _ hq (O.plus hq s upd_same) (O.extPlus hq s) ⟨q, rfl, .inr ⟨_, _, _, vs, .k kvs upd_same, hik _ _, hiv _ _, rfl⟩⟩
/-! ### read -/
theorem nk_text {d : D} {z : Str} (h : nk d = .text z) : d = .str z := by
  cases d with
  | str y => rw [nk] at h; cases h; rfl
  | non => rw [nk] at h; cases h
  | bl b => rw [nk] at h; cases h
  | int i => rw [nk] at h; cases h
  | tup ds => rw [nk] at h; cases h
  | lst ds => rw [nk] at h; cases h
  | dct ks vs => rw [nk] at h; cases h
theorem valV_is {A : Ad} {H : Hp} {z : Str} : ∀ {kvs : List (Key × V)} {vs : List D}, IsAll U A H (kvs.map (·.2)) vs → (valV kvs (.inr z) = none ∧ valKD (kvs.map fun e => keyD e.1) vs (.str z) = none) ∨ ∃ v d, valV kvs (.inr z) = some v ∧ valKD (kvs.map fun e => keyD e.1) vs (.str z) = some d ∧ Is U A H v d
  | [], _, .nil => .inl ⟨rfl, rfl⟩
  | p :: kvs, d :: vs, .cons i t => by
    by_cases h : p.1 = .inr z
    · refine .inr ⟨p.2, d, valV_pos h, ?_, i⟩
      rw [List.map_cons, h, valKD]
      exact if_pos rfl
    · have h2 : ¬ nk (keyD p.1) = nk (.str z) := fun q => h (by
        have q2 := nk_text (q.trans (by rw [nk]))
        cases hp : p.1 with
        | inl i => rw [hp] at q2; cases q2
        | inr y => rw [hp] at q2; cases q2; rfl)
      rw [valV_neg h, List.map_cons, valKD, if_neg h2]
      exact valV_is t
theorem valKD_mem {k d : D} : ∀ {ks vs : List D}, valKD ks vs k = some d → ∃ k0 ∈ ks, nk k0 = nk k
  | k0 :: ks, v :: vs, h => by
    rw [valKD] at h
    by_cases q : nk k0 = nk k
    · exact ⟨k0, List.mem_cons_self, q⟩
    · rw [if_neg q] at h
      obtain ⟨k1, m, e⟩ := valKD_mem h
      exact ⟨k1, List.mem_cons_of_mem _ m, e⟩
  | [], _, h => by rw [valKD] at h <;> first | cases h | nofun
  | _ :: _, [], h => by rw [valKD] at h <;> first | cases h | nofun
/-- a dict that has a text as a key is one of texts and numbers -/
theorem Is.dctK {A : Ad} {H : Hp} {v : V} {ks vs : List D} {z : Str} {d : D} (h : Is U A H v (.dct ks vs)) (ho : valKD ks vs (.str z) = some d) : ∃ a kvs, v = .ref a ∧ H a = some (.dK kvs) ∧ ks = kvs.map (fun e => keyD e.1) ∧ IsAll U A H (kvs.map (·.2)) vs ∧ IsAll U A H (kvs.map fun e => kV e.1) ks := by
  cases h with
  | dct e hk h hp =>
    cases e with
    | k kvs e => exact ⟨_, kvs, rfl, e, rfl, h, hk⟩
    | n es e =>
      obtain ⟨k0, m, q⟩ := valKD_mem ho
      have := nk_text (q.trans (by rw [nk]))
      subst this
      obtain ⟨w, mw, iw⟩ := isAll_mem hk m
      obtain ⟨f, _, rfl⟩ := List.mem_map.mp mw
      cases iw
  | err e ed h hd hp => rw [valKD] at ho <;> first | cases ho | nofun
def dIxK (x y : D) : Option D := match x, y with
  | .dct ks vs, .str z => valKD ks vs (.str z)
  | _, _ => none
theorem o_ixK (hu : X.A.units + 200 < cLine) : IxR X (rD2 U dIxK) := by
  intro value slice pins s σ H x y v u Q I rx ry hq hs
  obtain ⟨A, dx, dy, d, al, ix, iy, hf, q⟩ := hq
  unfold dIxK at hf
  split at hf
  · rename_i ks vs z
    obtain ⟨a, kvs, rfl, e, e2, h, _⟩ := ix.dctK hf
    subst e2
    obtain ⟨rfl, _⟩ := iy.str_inv
    cases rx
    rcases valV_is (z := z) h with ⟨_, q2⟩ | ⟨w, d', z1, z2, z3⟩
    · rw [q2] at hf; cases hf
    · rw [z2] at hf
      cases hf
      have g : DGet H a (.str z) (some w) := by
        have := DGet.k (k := .inr z) e
        rw [z1] at this
        exact this
      exact subD_tail PySem.F.slot_dict_getitem.lookup (dict_typeIs I g) hs (d_getItem (by omega) I g ry fun w' s' I' r' => ⟨w, H, I', r', q _ H Same.refl' z3⟩)
  · cases hf
/-- in a dict of texts, not an empty one -/
def dInK (x y : D) : Option D := match x, y with
  | .str z, .dct (.str k0 :: ks) (v0 :: vs) => some (.bl (valKD (.str k0 :: ks) (v0 :: vs) (.str z)).isSome)
  | _, _ => none
def dNotInK (x y : D) : Option D := match dInK x y with
  | some (.bl b) => some (.bl (!b))
  | _ => none
theorem dInK_of {A : Ad} {H : Hp} {dx dy d : D} {x y : V} (hf : dInK dx dy = some d) (ix : Is U A H x dx) (iy : Is U A H y dy) : ∃ a z o, x = .str z ∧ y = .ref a ∧ DGet H a (.str z) o ∧ d = .bl o.isSome := by
  unfold dInK at hf
  split at hf
  · rename_i z k0 ks v0 vs
    cases hf
    have h0 : valKD (.str k0 :: ks) (v0 :: vs) (.str k0) = some v0 := by rw [valKD]; exact if_pos rfl
    obtain ⟨a, kvs, rfl, e, e2, h, _⟩ := iy.dctK h0
    obtain ⟨rfl, _⟩ := ix.str_inv
    refine ⟨a, z, _, rfl, rfl, DGet.k (k := .inr z) e, ?_⟩
    rw [e2]
    rcases valV_is (z := z) h with ⟨q1, q2⟩ | ⟨w, d', z1, z2, z3⟩
    · rw [q1, q2]; rfl
    · rw [z1, z2]; rfl
  · cases hf
theorem o_inK (hu : X.A.units + 200 < cLine) : OpR X (compareOp .In) (rD2 U dInK) := by
  intro pins s σ H x y v u Q I rx ry hq
  obtain ⟨A, dx, dy, d, al, ix, iy, hf, q⟩ := hq
  obtain ⟨a, z, o, rfl, rfl, g, rfl⟩ := dInK_of hf ix iy
  cases ry
  exact d_in (by omega) I g rx fun s' I' => ⟨.bl o.isSome, H, I', rfl, q _ H Same.refl' (.bl _)⟩
theorem o_notInK (hu : X.A.units + 200 < cLine) : OpR X (compareOp .NotIn) (rD2 U dNotInK) := by
  intro pins s σ H x y v u Q I rx ry hq
  obtain ⟨A, dx, dy, d, al, ix, iy, hf, q⟩ := hq
  unfold dNotInK at hf
  split at hf
  · rename_i b0 hb
    cases hf
    obtain ⟨a, z, o, rfl, rfl, g, e⟩ := dInK_of hb ix iy
    cases e
    cases ry
    exact d_notIn (by omega) I g rx fun s' I' => ⟨.bl (!o.isSome), H, I', rfl, q _ H Same.refl' (.bl _)⟩
  · cases hf
/-- list(d), not an empty one -/
def dListK : List D → Option D
  | [.dct (.str k0 :: ks) (_ :: _)] => some (.lst (.str k0 :: ks))
  | _ => none
theorem o_listK (hc : X.calm = true) : CallR X (.type "list") (rDN U dListK) := by
  intro pins s σ H xs us Q I r hq
  obtain ⟨A, ds, d, al, ix, hf, q⟩ := hq
  unfold dListK at hf
  split at hf
  · rename_i k0 ks v0 vs
    cases hf
    obtain ⟨v, rfl, i1⟩ := isAll_one ix
    have h0 : valKD (.str k0 :: ks) (v0 :: vs) (.str k0) = some v0 := by rw [valKD]; exact if_pos rfl
    obtain ⟨a, kvs, rfl, e, e2, h, hk⟩ := i1.dctK h0
    exact call_listD hc pins s σ H _ us Q I r ⟨a, kvs, rfl, .inl e, fun p hp => q _ _ (Same.new hp) (Is.newL al hp hk)⟩
  · cases hf
/-! ### d.update(other) -/
def tDUpd (td ty : TE) : TE := fun σ H Q => td σ H fun x H1 => ∃ a, x = .ref a ∧ IsD H1 a ∧ ty σ H1 fun y H2 => ∃ b kvs more, y = .ref b ∧ a ≠ b ∧ H2 a = some (.dK kvs) ∧ H2 b = some (.dK more) ∧ kvs.length + more.length ≤ 1000 ∧ Q .non (upd H2 a (.dK (mergeK kvs more)))
theorem pe_dupd (ho : PE X o td) (he : PE X e ty) (m : M1 X o "update" apos e cpos) : PE X (.Call (.Attribute o "update" apos) [e] [] cpos) (tDUpd td ty) := by
  refine ⟨fun pins s σ H Q I h => ?_⟩
  refine wpAny_Call_method m.base m.few m.line PySem.F.plainAttrs_dict PySem.F.slot_dict_update PySem.F.type_dict_update (thn (ho.run pins s σ H _ I h) fun u s1 ⟨x, H1, I1, rx, a, ex, d, q1⟩ => ?_)
  subst ex
  obtain rfl : u = Value.ref a := rx
  obtain ⟨t1, t2, _⟩ := isD_at I1 d
  refine ⟨t1, t2, ?_⟩
  rw [m.trees]
  refine Calls.callWith_builtin rfl (Calls.evalArgs_plain (Calls.spliced_cons (thn (he.run pins s1 σ H1 _ I1 q1) fun iv s2 ⟨y, H2, I2, ry, b, kvs, more, ey, hab, ea, eb, hl, q2⟩ => Calls.spliced_nil ?_)))
  subst ey
  obtain rfl : iv = Value.ref b := ry
  obtain ⟨z, hd, vs, rel, dd⟩ := dk_of I2.hok ea
  obtain ⟨z2, hd2, ws, rel2, dd2⟩ := dk_of I2.hok eb
  have l1 := rel.length
  have l2 := rel2.length
  have hml := length_mergeK more kvs
  have sz : sizeLine = 16777216 := sizeLine_eq
  refine call_meetsIn PySem.F.slot_dict_update dd.typeIs PySem.F.entry_dict_update (PySem.F.args_dict_update_2 _ _) (meets_dict_update (mixKind X.prog X.w) a b hab hd2) ⟨vs, ws, dd, dd2, by omega, fun h' d1 d2 hs => ?_⟩
  have he2 : ∃ q, h'.get? a = some q := let ⟨q, _, _, hq, _⟩ := d1; ⟨q, hq⟩
  exact ⟨.non, _, d_write (t' := s2.toks) I2 (by rw [ea]; exact True.intro) hs he2 (dk_new (by omega) hd (rel2.merge rel) d1), rfl, q2⟩
end
end Bx
/-! zip of a text and a row; two places of an own row exchanged. -/
namespace Bx
open PySem PySem.Spec PyProof.Rows L2
/-- the text's signs, the row's items, in new pairs -/
def ItzS (K : PySem.W.Frag) (z : Str) (b : Addr) : It :=
  ⟨fun i H => ∃ (ys : List V) (y : V) (c : Nat), SqT K H b ys ∧ z.cps.toList[i]? = some c ∧ ys[i]? = some y,
    fun i H v H' => ∃ T y c, v = .ref T ∧ H T = none ∧ H' = upd H T (.tup [.str (oneS c), y]) ∧ z.cps.toList[i]? = some c ∧ ∀ ys, SqT K H b ys → ys[i]? = some y,
    fun i H => ∃ ys : List V, SqT K H b ys ∧ i ≤ z.cps.size ∧ i ≤ ys.length ∧ (i = z.cps.size ∨ i = ys.length)⟩
theorem turn_zipS {P : Program} {w : World} {K : PySem.W.Frag} {elts : List Expr} {kk : Nat} {tpos : Pos} {zz : Str} {tt : Tok} {b z TI TO i1 i2 : Addr} (S : ZipSep2 z TI TO i1 i2 [i1] [i2, b]) (hb : b ≠ i2) :
    Turn P w K (.Tuple elts kk tpos) (ItzS K zz b) [z, TI, TO, i1, i2] z (fun i h => IsZip h z TI TO .none ∧ IsTupOf2 h TI (.ref i1) (.ref i2) ∧ (∃ x y, IsTupOf2 h TO x y) ∧ h.IsStrIter i1 (strIterType zz) zz tt i ∧ h.IsTupleIter i2 b i) where
  mem := by simp
  obj := fun i h st c hc => by
    obtain ⟨hz, hTI, ⟨x, y, hTO⟩, ⟨o1, e1, _, d1⟩, ⟨o2, e2, _, d2⟩⟩ := st
    have e' : c = z ∨ c = TI ∨ c = TO ∨ c = i1 ∨ c = i2 := by simpa using hc
    rcases e' with q | q | q | q | q
    · rw [q]; exact ⟨_, hz, fun v q => nomatch q⟩
    · rw [q]; exact ⟨_, hTI, fun v q => nomatch q⟩
    · rw [q]; exact ⟨_, hTO, fun v q => nomatch q⟩
    · rw [q]; exact ⟨o1, e1, fun v q => by rw [d1] at q; cases q⟩
    · rw [q]; exact ⟨o2, e2, fun v q => by rw [d2] at q; cases q⟩
  keep := fun i h h' st k => by
    obtain ⟨hz, hTI, ⟨x, y, hTO⟩, h1, h2⟩ := st
    exact ⟨k z (by simp) _ hz, k TI (by simp) _ hTI, ⟨x, y, k TO (by simp) _ hTO⟩, (let ⟨o, e, r⟩ := h1; ⟨o, k i1 (by simp) o e, r⟩), h2.at fun o q => k i2 (by simp) o q⟩
  item := by
    intro X hP hw hK hc i pins s σ H E I hf st hg
    subst hP hw hK
    obtain ⟨hz, hTI, ⟨x0, y0, hTO⟩, h1, h2⟩ := st
    obtain ⟨ys, y, c, hqy, hx, hy⟩ := hg
    obtain ⟨its2, rv2, p2, _⟩ := I.tuple hqy
    obtain ⟨u2, hu2, ru2⟩ := rv2.get hy
    have hzl : z < s.heap.objs.size := Heap.lt_size hz
    have hi1 : i < zz.cps.size := by
      have := (List.getElem?_eq_some_iff.mp hx).1
      rwa [Array.length_toList] at this
    have hi2 : i < its2.toArray.size := by
      have := (List.getElem?_eq_some_iff.mp hu2).1
      simpa using this
    have D1 := Draws.text (prog := X.prog) (w := X.w) (A := X.A.in1) (I.ok.hd hc) i1 zz tt
    have D2 := Draws.tuple (prog := X.prog) (w := X.w) (A := X.A.in1) (I.ok.hd hc) i2 b hb its2.toArray
    refine wpAny_pyNext_zipD2_item S D1 D2 hz hTI hTO h1 ⟨h2, p2⟩ hi1 hi2 fun x1 x2 h' tk g1 g2 z' TO' h1' h2' hT hsz hk => ?_
    obtain ⟨c', u', q1, rfl⟩ := g1
    have ec : c' = c := by
      rw [← Array.getElem?_toList, hx] at q1
      exact (Option.some.inj q1).symm
    subst ec
    have e2 : x2 = u2 := by
      have g2' : its2.toArray[i]? = some x2 := g2
      have : its2[i]? = some x2 := by simpa using g2'
      rw [hu2] at this
      exact (Option.some.inj this).symm
    subst e2
    refine ⟨_, rfl, wpAny_letOwnedTupleGo_zip (s := { s with heap := h', toks := tk }) z' fun h'' z'' sb => ?_⟩
    have hT2 : h''.get? s.heap.objs.size = some { cls := .type "tuple", data := .seq #[.str (oneS c') u', x2] } := (sb.2 _ (Nat.ne_of_gt hzl)).trans hT
    have new : ObjOk X.prog X.w (upd H s.heap.objs.size (.tup [.str (oneS c'), y])) h'' s.heap.objs.size (.tup [.str (oneS c'), y]) :=
      ⟨by show 2 ≤ sizeLine; decide, [.str (oneS c') u', x2], .cons ⟨u', rfl⟩ (.cons ru2 .nil), ⟨_, hT2, rfl, _, rfl⟩⟩
    have I1 : Inv X pins σ (upd H s.heap.objs.size (.tup [.str (oneS c'), y])) { s with heap := h'', toks := tk } :=
      I.turnedNew (t' := tk) (ch := [z, TI, TO, i1, i2]) (fun c o hb q => (sb.2 c (fun q' => hb (by simp [q']))).trans (hk c o (fun q' => hb (by simp [q'])) (fun q' => hb (by simp [q'])) (fun q' => hb (by simp [q'])) (fun q' => hb (by simp [q'])) q)) hf (Nat.le_refl _) new
    refine ⟨.ref s.heap.objs.size, _, I1, rfl, ⟨_, y, c', rfl, I.hok.fresh (Nat.le_refl _), rfl, hx, fun l hl => by rw [I.tuple_inj hl hqy]; exact hy⟩, ⟨z'', ?_, ⟨.str (oneS c') u', x2, ?_⟩, ?_, ?_⟩, fun c hcm => ?_⟩
    · exact (sb.2 _ S.TIz).trans (hk _ _ S.TIz S.TITO S.TIi1 S.TIi2 hTI)
    · exact (sb.2 _ S.TOz).trans TO'
    · obtain ⟨o, e, r⟩ := h1'
      exact ⟨o, (sb.2 _ (fun e => S.zi1 e.symm)).trans e, r⟩
    · exact h2'.1.at fun o q => (sb.2 _ (fun e => S.zi2 e.symm)).trans q
    · have hlt : c < s.heap.objs.size := by
        have e' : c = z ∨ c = TI ∨ c = TO ∨ c = i1 ∨ c = i2 := by simpa using hcm
        rcases e' with q | q | q | q | q
        · rw [q]; exact hzl
        · rw [q]; exact Heap.lt_size hTI
        · rw [q]; exact Heap.lt_size hTO
        · rw [q]; obtain ⟨_, e1, _⟩ := h1; exact Heap.lt_size e1
        · rw [q]; obtain ⟨_, e2, _⟩ := h2; exact Heap.lt_size e2
      rw [upd_ne (Nat.ne_of_lt hlt)]
      exact (hf c hcm).1
  done := by
    intro X hP hw hK hc i pins s σ H E I hf st hg
    subst hP hw hK
    obtain ⟨hz, hTI, ⟨x0, y0, hTO⟩, h1, h2⟩ := st
    obtain ⟨ys, hqy, l1, l2, hend⟩ := hg
    obtain ⟨its2, rv2, p2, _⟩ := I.tuple hqy
    have l3 := rv2.length
    have D1 := Draws.text (prog := X.prog) (w := X.w) (A := X.A.in1) (I.ok.hd hc) i1 zz tt
    have D2 := Draws.tuple (prog := X.prog) (w := X.w) (A := X.A.in1) (I.ok.hd hc) i2 b hb its2.toArray
    have hl : its2.toArray.size = ys.length := by simp; omega
    exact wpAny_pyNext_zipD2_end S D1 D2 hz hTI hTO h1 ⟨h2, p2⟩ l1 (by omega) (by omega) fun h' tk hk => ⟨rfl, I.turnedL (t' := tk) (ch := [z, TI, TO, i1, i2]) (fun c o hb q =>
      hk c o (fun q' => hb (by simp [q'])) (fun q' => hb (by simp [q'])) (fun q' => hb (by simp [q'])) (fun q' => hb (by simp [q'])) q) hf⟩
  self := fun A i s Q E st h => wpAny_pyIter_zip st.1 h
theorem zipLe {n c : Nat} (h : c = n + 4 ∨ c = n + 2 ∨ c = n + 3 ∨ c = n ∨ c = n + 1) : n ≤ c := by omega
theorem zipNe {n b : Nat} (h : b < n) : b ≠ n + 1 := by omega
theorem zipSep (n b : Nat) (h : b < n) : ZipSep2 (n + 4) (n + 2) (n + 3) n (n + 1) [n] [n + 1, b] := by
  have h1 : n + 2 ≠ n + 4 := by omega
  have h2 : n + 3 ≠ n + 4 := by omega
  have h3 : n + 2 ≠ n + 3 := by omega
  have h4 : n + 2 ≠ n := by omega
  have h5 : ¬ (n + 4 : Nat) ∈ ([n] : List Nat) := by simp
  have h6 : ¬ (n + 3 : Nat) ∈ ([n] : List Nat) := by simp
  have h7 : n + 2 ≠ n + 1 := by omega
  have h8 : ¬ (n + 4 : Nat) ∈ ([n + 1, b] : List Nat) := by simp; omega
  have h9 : ¬ (n + 3 : Nat) ∈ ([n + 1, b] : List Nat) := by simp; omega
  have h10 : ¬ (n : Nat) ∈ ([n + 1, b] : List Nat) := by simp; omega
  have h11 : ¬ (n + 1 : Nat) ∈ ([n] : List Nat) := by simp
  exact ⟨h1, h2, h3, h4, List.mem_cons_self, h5, h6, h7, List.mem_cons_self, h8, h9, h10, h11⟩
def iZipS (K : PySem.W.Frag) (ta : TA) : TI := fun σ H R => ta σ H fun vs H1 => ∃ (z : Str) (b : Addr) (ys : List V), vs = [.str z, .ref b] ∧ SqT K H1 b ys ∧ R (ItzS K z b) H1
theorem pi_zipS {X : Cx} {e e2 : Expr} {ta : TA} {p pos tpos : Pos} {elts : List Expr} {kk : Nat} (hg : Gl X "zip") (hm : X.mg "zip" = none) (ha : PA X [e, e2] ta)
    (hs : starEach [e, e2] X.env = (false, eval e X.env) :: starEach [e2] X.env := by rfl) (hpl : (backTo pos (starEach [e2] X.env)).any (·.1) = false := by rfl) :
    PI X (.Tuple elts kk tpos) (.Call (.Name "zip" p) [e, e2] [] pos) (iZipS X.K ta) := by
  refine ⟨fun pins s σ H R I h => ?_⟩
  refine Call_ (ld_blt I hg hm PyProof.Rows.boot_zip (PyProof.Rows.callWith_type1 (thn (ha.run pos pins s σ H _ I h) fun us s1 ⟨vs, H1, I1, r1, q1⟩ => ?_) hs hpl))
  obtain ⟨z, b, ys, ex, hqy, q1⟩ := q1
  subst ex
  cases r1 with
  | cons r rr =>
    cases rr with
    | cons r' rr =>
      cases rr
      obtain ⟨t, rfl⟩ := r
      cases r'
      obtain ⟨its2, rv2, p2, _⟩ := I1.tuple hqy
      obtain ⟨o2, ho2, _⟩ := id p2
      have hbl : b < s1.heap.objs.size := Heap.lt_size ho2
      refine zip_begins2 (begins_text z t) (begins_tuple b its2.toArray) trivial p2 fun h' hz hTI hTO g1 g2 hsz hk => wpAny_pyIter_zip hz ?_
      have I2 : Inv X pins σ H1 { s1 with heap := h' } := I1.kept (t' := s1.toks) hk
      have S := zipSep s1.heap.objs.size b hbl
      refine ⟨s1.heap.objs.size + 4, [s1.heap.objs.size + 4, s1.heap.objs.size + 2, s1.heap.objs.size + 3, s1.heap.objs.size, s1.heap.objs.size + 1], _, _, H1, rfl, I2, turn_zipS (zz := z) (tt := t) S (zipNe hbl), ⟨hz, hTI, ⟨_, _, hTO⟩, ⟨_, g1, rfl, rfl⟩, ⟨_, g2, rfl, ?_⟩⟩, fun c hcm => ?_, q1⟩
      · first | rfl | exact ⟨0, rfl⟩
      · have e' : c = s1.heap.objs.size + 4 ∨ c = s1.heap.objs.size + 2 ∨ c = s1.heap.objs.size + 3 ∨ c = s1.heap.objs.size ∨ c = s1.heap.objs.size + 1 := by simpa using hcm
        have hle : s1.heap.objs.size ≤ c := zipLe e'
        exact I1.fpOk hle (I1.hok.fresh hle)
def YZs (z : Str) (ys : List V) : Nat → Hp → V → Hp → Prop := fun i H v H' => ∃ T y c, v = .ref T ∧ H T = none ∧ H' = upd H T (.tup [.str (oneS c), y]) ∧ z.cps.toList[i]? = some c ∧ ys[i]? = some y
theorem walk_zipS {K : PySem.W.Frag} {z : Str} {b : Addr} {ys : List V} {n : Nat} (hn : n = min z.cps.toList.length ys.length) : Walk (ItzS K z b) n (fun H => SqT K H b ys) (YZs z ys) := by
  subst hn
  have hl : z.cps.toList.length = z.cps.size := Array.length_toList ..
  refine ⟨fun i _ hi q => ?_, fun _ q => ⟨ys, q, by omega, by omega, by omega⟩, fun i H v H' _ q y => ?_⟩
  · have h1 : i < z.cps.toList.length := by omega
    have h2 : i < ys.length := by omega
    exact ⟨ys, ys[i], z.cps.toList[i], q, List.getElem?_eq_getElem h1, List.getElem?_eq_getElem h2⟩
  · obtain ⟨T, y, c, h1, h2, h3, h4, h5⟩ := y
    exact ⟨T, y, c, h1, h2, h3, h4, h5 ys q⟩
theorem oneS_ok {z : Str} (hz : okS z) {c : Nat} (hm : c ∈ z.cps.toList) : okS (oneS c) := by
  refine ⟨by show 1 ≤ maxS; decide, ?_⟩
  have := Pr.strOk_iff.mp hz.2 c hm
  refine Pr.strOk_iff.mpr fun d hd => ?_
  rw [List.mem_singleton.mp hd]
  exact this
theorem walkD_zipS {U : Un} {A : Ad} {H : Hp} {K : PySem.W.Frag} {z : Str} {b : Addr} {ys : List V} {es : List D} (hz : okS z) (e2 : H b = some (.tup ys)) (n2 : ¬ A b) (h2 : IsAll U A H ys es) : WalkD U A H (ItzS K z b) (zipD (z.cps.toList.map fun c => .str (oneS c)) es) := by
  refine ⟨_, _, walk_zipS (z := z) (ys := ys) (by unfold zipD; rw [List.length_map, List.length_zip, List.length_map, h2.length]), fun A' H' x al => ⟨SqT.of (x _ _ e2 n2).1, fun i v H'' hi y => ?_⟩⟩
  obtain ⟨T, y1, c, rfl, hT, rfl, hx, hy⟩ := y
  obtain ⟨e, he, i2⟩ := (h2.ext x).getV hy
  obtain ⟨s, i3⟩ := newPair al hT (.str (oneS c) (oneS_ok hz (List.mem_of_getElem? hx))) i2
  exact ⟨s, _, zipD_get (by rw [List.getElem?_map, hx]; rfl) he, i3⟩
/-- zip(text, row) -/
def mZipS (m : M (List D)) : M (List D) := M.bind m fun ds => match ds with
  | [.str z, .tup ys] => M.pure (zipD (z.cps.toList.map fun c => .str (oneS c)) ys)
  | _ => mFail
section
variable {X : Cx} {U : Un} {C : Cz U} {pos : Pos} {e : Expr} {te : TE} {me : M D}
theorem di_zipS {elts : List Expr} {kk : Nat} {e2 : Expr} {te2 : TE} {me2 : M D} {p tpos : Pos} (hg : Gl X "zip") (hm : X.mg "zip" = none) (h : DE X C e te me) (h2 : DE X C e2 te2 me2) (hs : starEach [e, e2] X.env = (false, eval e X.env) :: starEach [e2] X.env := by rfl) (hs2 : starEach [e2] X.env = (false, eval e2 X.env) :: starEach [] X.env := by rfl) (hpl : (backTo pos (starEach [e2] X.env)).any (·.1) = false := by rfl) :
    DI X C (.Tuple elts kk tpos) (.Call (.Name "zip" p) [e, e2] [] pos) (iZipS X.K (tCons te (tCons te2 tNil))) (mZipS (mCons me (mCons me2 mNil))) := by
  refine ⟨pi_zipS hg hm (da_cons h (da_cons h2 da_nil hs2) hs).1 hs hpl, fun σ H ρ r R O e p => ?_⟩
  refine h.2.then O (k := fun d => M.bind me2 fun d2 => mZipS (M.pure [d, d2])) (by
    rw [← e]; unfold mZipS mCons mNil M.bind
    cases me ρ with
    | none => rfl
    | some q => cases q with
      | ex c x ρ => rfl
      | ok d ρ1 => cases h3 : me2 ρ1 with
        | none => simp only [h3]
        | some q => cases q <;> simp only [h3]) p.ex fun d ρ1 v H1 O1 x1 i1 e1 => ?_
  refine h2.2.then O1 e1 (p.later x1).ex fun d2 ρ2 v2 H2 O2 x2 i2 e2 => ?_
  cases d with
  | str z => cases d2 with
    | tup ys =>
      cases e2
      obtain ⟨rfl, hz⟩ := i1.str_inv
      obtain ⟨b, ws, rfl, eb, hb, nb⟩ := i2.tup_inv
      exact ⟨z, b, ws, rfl, SqT.of eb, p _ H2 O2 (x1.trans x2) (walkD_zipS hz eb nb hb)⟩
    | _ => cases e2
  | _ => cases e2
/-- x[j], x[k] = x[k], x[j], x an own row, j and k names of numbers -/
def sSwap (i j k : Nat) : M Fl := fun ρ => match ρ[i]?, ρ[j]?, ρ[k]? with
  | some (some (.lst ds)), some (some (.int a)), some (some (.int b)) => match ixN ds.length a, ixN ds.length b with
    | some s, some t => match ds[t]?, ds[s]? with
      | some u, some v => some (.ok .nx (ρ.set i (some (.lst ((ds.set s u).set t v)))))
      | _, _ => none
    | _, _ => none
  | _, _, _ => none
theorem ds_swap {i j k : Nat} {x y w : Str} {p1 p2 p3 p4 p5 p6 p7 p8 q1 q2 q3 q4 pt pt2 : Pos} {kt k2 : Nat} (hc : X.calm = true)
    (hN : X.N[i]? = some x := by rfl) (hv : Vis X.env.scope x := by first | exact Or.inl rfl | exact Or.inr (Or.inl rfl) | exact Or.inr (Or.inr rfl)) (n : i ∈ C.own := by exact of_decide_eq_true rfl) (hd : (x == ("__debug__" : Str)) = false := by decide) (hcd : (x == ("__classdict__" : Str)) = false := by decide)
    (hNj : X.N[j]? = some y := by rfl) (hvj : Vis X.env.scope y := by first | exact Or.inl rfl | exact Or.inr (Or.inl rfl) | exact Or.inr (Or.inr rfl)) (nj : j ∉ C.own := by exact of_decide_eq_false rfl) (hdj : (y == ("__debug__" : Str)) = false := by decide) (hcdj : (y == ("__classdict__" : Str)) = false := by decide)
    (hNk : X.N[k]? = some w := by rfl) (hvk : Vis X.env.scope w := by first | exact Or.inl rfl | exact Or.inr (Or.inl rfl) | exact Or.inr (Or.inr rfl)) (nk : k ∉ C.own := by exact of_decide_eq_false rfl) (hdk : (w == ("__debug__" : Str)) = false := by decide) (hcdk : (w == ("__classdict__" : Str)) = false := by decide)
    (hpe : PE X (.Tuple [.Subscript (.Name x p5) (.Name w p6) q3, .Subscript (.Name x p7) (.Name y p8) q4] k2 pt2) (tTup (tCons (tOp (rIxL X.K) (tVar i) (tVar k)) (tCons (tOp (rIxL X.K) (tVar i) (tVar j)) tNil))))
    (hg : PG X (.Tuple [.Subscript (.Name x p1) (.Name y p2) q1, .Subscript (.Name x p3) (.Name w p4) q2] kt pt) (gTup X.K 2 (gCons (gSub (tVar i) (tVar j) rSetL) (gCons (gSub (tVar i) (tVar k) rSetL) gNil))))
    (hs : swapsWithSole [.Tuple [.Subscript (.Name x p1) (.Name y p2) q1, .Subscript (.Name x p3) (.Name w p4) q2] kt pt] (.Tuple [.Subscript (.Name x p5) (.Name w p6) q3, .Subscript (.Name x p7) (.Name y p8) q4] k2 pt2) pos.line X.env = pure false := by rfl)
    (hw : swappedStores [.Tuple [.Subscript (.Name x p1) (.Name y p2) q1, .Subscript (.Name x p3) (.Name w p4) q2] kt pt] (.Tuple [.Subscript (.Name x p5) (.Name w p6) q3, .Subscript (.Name x p7) (.Name y p8) q4] k2 pt2) X.env = pure none := by rfl)
    (h1 : (assignEach [.Tuple [.Subscript (.Name x p1) (.Name y p2) q1, .Subscript (.Name x p3) (.Name w p4) q2] kt pt] X.env).map (·.2) = [assign (.Tuple [.Subscript (.Name x p1) (.Name y p2) q1, .Subscript (.Name x p3) (.Name w p4) q2] kt pt) X.env] := by rfl) :
    DS X C (.Assign [.Tuple [.Subscript (.Name x p1) (.Name y p2) q1, .Subscript (.Name x p3) (.Name w p4) q2] kt pt] (.Tuple [.Subscript (.Name x p5) (.Name w p6) q3, .Subscript (.Name x p7) (.Name y p8) q4] k2 pt2) pos)
      (tAsg (tTup (tCons (tOp (rIxL X.K) (tVar i) (tVar k)) (tCons (tOp (rIxL X.K) (tVar i) (tVar j)) tNil))) (gTup X.K 2 (gCons (gSub (tVar i) (tVar j) rSetL) (gCons (gSub (tVar i) (tVar k) rSetL) gNil)))) (sSwap i j k) := by
  refine ⟨ps_asg hpe hg hs hw h1, fun σ H ρ r Dn O e p => ?_⟩
  unfold sSwap at e
  split at e
  · rename_i ds a b h0 hj hk
    split at e
    · rename_i s t hsi hti
      split at e
      · rename_i u v hu hv'
        cases e
        obtain ⟨c, xs, ea, eh, ix⟩ := O.ownL n h0
        obtain ⟨vj, ej, ij⟩ := O.var hj nj
        obtain ⟨vk, ek, ik⟩ := O.var hk nk
        rw [ij.int_inv] at ej
        rw [ik.int_inv] at ek
        obtain ⟨wu, ewu, iu⟩ := ix.get hu
        obtain ⟨wv, ewv, iv⟩ := ix.get hv'
        have hat : ∀ {m : Int} {l : Nat} {z : V}, ixN ds.length m = some l → xs[l]? = some z → atI xs m = some z := fun {m l z} g1 g2 => by
          unfold atI
          rw [ix.length, g1]
          exact g2
        refine ⟨.ref c, ea, .int b, ek, c, xs, b, wu, rfl, rfl, .inl (.inl eh), hat hti ewu, ?_⟩
        refine ⟨.ref c, ea, .int a, ej, c, xs, a, wv, rfl, rfl, .inl (.inl eh), hat hsi ewv, ?_⟩
        refine ⟨by show 2 ≤ sizeLine; decide, fun T hT => ?_⟩
        have sT : Same H (upd H T (.tup [wu, wv])) := Same.new hT
        have OT := O.same sT
        have xT := Ext.same (A := Av C σ) sT
        refine ⟨T, [wu, wv], rfl, SqT.of upd_same, rfl, ?_⟩
        refine ⟨wu, [wv], rfl, .ref c, ea, .int a, ej, c, xs, a, s, rfl, rfl, sT _ _ eh, by rw [ix.length]; exact hsi, ?_⟩
        obtain ⟨O2, x2⟩ := OT.put n ea ((ix.ext xT).set s (iu.ext xT))
        refine ⟨wv, [], rfl, .ref c, ea, .int b, ek, c, xs.set s wu, b, t, rfl, rfl, upd_same, by rw [List.length_set, ix.length]; exact hti, rfl, ?_⟩
        have hlen : i < ρ.length := (List.getElem?_eq_some_iff.mp h0).1
        obtain ⟨O3, x3⟩ := O2.put n ea (((ix.ext (xT.trans x2)).set s (iu.ext (xT.trans x2))).set t (iv.ext (xT.trans x2)))
        rw [List.set_set] at O3
        exact p σ _ O3 ((xT.trans x2).trans x3)
      · cases e
    · cases e
  · cases e
end
theorem nio2 {U : Un} {C : Cz U} {i j : Nat} {pa : Addr} (h : C.io = [(j, pa)]) (n : i ≠ j) : ∀ b, (i, b) ∉ C.io := fun b z => by
  rw [h] at z
  cases List.mem_singleton.mp z
  exact n rfl
/-- a call at no depth is never asked for -/
theorem fn_never {P : Program} {w : World} {K : PySem.W.Frag} {mg : Str → Option Value} {base : Heap} {x qual : Str} {st : Stmt} {f : Addr} {fd : FuncData} {N ps : List Str} {k : Nat} {U : Un} {io : Option Nat} (F : Fun K x qual st f fd) (S : FnScope N ps (defScope st)) :
    FnOk P w K mg base CX0 (k + 1) f fd ps (spF U io ps.length fun _ => none) :=
  F.ok S (fun vs H Q E h => by obtain ⟨_, _, _, hl, _⟩ := h; exact hl) fun cdv A outer s H vs Q E hr h => by
    obtain ⟨_, _, _, _, _, _, hf, _⟩ := h
    cases hf
end Bx
namespace K37
open PySem PySem.Spec PyProof.Rows L2 Bx
def topS (i : Nat) : Stmt := PySem.Challenge.pw_forkrolls_k37_forms_of_deeds.main.body.getD i (.Pass ⟨0, 0, 0, 0⟩)
abbrev s_is_whole : Stmt := topS 7
abbrev N_is_whole : List Str := ["thing", "low", "high"]
theorem sc_is_whole : FnScope N_is_whole ["thing", "low", "high"] (defScope s_is_whole) := ⟨rfl, rfl, rfl, by decide +kernel, rfl, by decide +kernel, by decide +kernel⟩
abbrev s_is_word : Stmt := topS 8
abbrev N_is_word : List Str := ["thing"]
theorem sc_is_word : FnScope N_is_word ["thing"] (defScope s_is_word) := ⟨rfl, rfl, rfl, by decide +kernel, rfl, by decide +kernel, by decide +kernel⟩
abbrev s_is_name : Stmt := topS 9
abbrev N_is_name : List Str := ["thing"]
theorem sc_is_name : FnScope N_is_name ["thing"] (defScope s_is_name) := ⟨rfl, rfl, rfl, by decide +kernel, rfl, by decide +kernel, by decide +kernel⟩
abbrev s_is_key : Stmt := topS 10
abbrev N_is_key : List Str := ["thing"]
theorem sc_is_key : FnScope N_is_key ["thing"] (defScope s_is_key) := ⟨rfl, rfl, rfl, by decide +kernel, rfl, by decide +kernel, by decide +kernel⟩
abbrev s_is_value : Stmt := topS 11
abbrev N_is_value : List Str := ["thing"]
theorem sc_is_value : FnScope N_is_value ["thing"] (defScope s_is_value) := ⟨rfl, rfl, rfl, by decide +kernel, rfl, by decide +kernel, by decide +kernel⟩
abbrev s_is_hand : Stmt := topS 12
abbrev N_is_hand : List Str := ["thing"]
theorem sc_is_hand : FnScope N_is_hand ["thing"] (defScope s_is_hand) := ⟨rfl, rfl, rfl, by decide +kernel, rfl, by decide +kernel, by decide +kernel⟩
abbrev s_is_kind : Stmt := topS 13
abbrev N_is_kind : List Str := ["thing"]
theorem sc_is_kind : FnScope N_is_kind ["thing"] (defScope s_is_kind) := ⟨rfl, rfl, rfl, by decide +kernel, rfl, by decide +kernel, by decide +kernel⟩
abbrev s_is_id : Stmt := topS 14
abbrev N_is_id : List Str := ["thing", "hand", "name", "number"]
theorem sc_is_id : FnScope N_is_id ["thing"] (defScope s_is_id) := ⟨rfl, rfl, rfl, by decide +kernel, rfl, by decide +kernel, by decide +kernel⟩
abbrev s_rises : Stmt := topS 15
abbrev N_rises : List Str := ["things", "low", "high"]
theorem sc_rises : FnScope N_rises ["things"] (defScope s_rises) := ⟨rfl, rfl, rfl, by decide +kernel, rfl, by decide +kernel, by decide +kernel⟩
abbrev s_is_deed_name : Stmt := topS 17
abbrev N_is_deed_name : List Str := ["thing", "table", "hand", "branch", "number"]
theorem sc_is_deed_name : FnScope N_is_deed_name ["thing"] (defScope s_is_deed_name) := ⟨rfl, rfl, rfl, by decide +kernel, rfl, by decide +kernel, by decide +kernel⟩
abbrev s_is_deed : Stmt := topS 20
abbrev N_is_deed : List Str := ["thing", "word", "rest"]
theorem sc_is_deed : FnScope N_is_deed ["thing"] (defScope s_is_deed) := ⟨rfl, rfl, rfl, by decide +kernel, rfl, by decide +kernel, by decide +kernel⟩
abbrev s__is_of_one : Stmt := topS 21
abbrev N__is_of_one : List Str := ["word", "part"]
theorem sc__is_of_one : FnScope N__is_of_one ["word", "part"] (defScope s__is_of_one) := ⟨rfl, rfl, rfl, by decide +kernel, rfl, by decide +kernel, by decide +kernel⟩
abbrev s__is_of_two : Stmt := topS 22
abbrev N__is_of_two : List Str := ["word", "one", "two"]
theorem sc__is_of_two : FnScope N__is_of_two ["word", "one", "two"] (defScope s__is_of_two) := ⟨rfl, rfl, rfl, by decide +kernel, rfl, by decide +kernel, by decide +kernel⟩
abbrev s__is_column : Stmt := topS 23
abbrev N__is_column : List Str := ["name", "kind", "value"]
theorem sc__is_column : FnScope N__is_column ["name", "kind", "value"] (defScope s__is_column) := ⟨rfl, rfl, rfl, by decide +kernel, rfl, by decide +kernel, by decide +kernel⟩
abbrev s__may_be_else : Stmt := topS 24
abbrev N__may_be_else : List Str := ["thing"]
theorem sc__may_be_else : FnScope N__may_be_else ["thing"] (defScope s__may_be_else) := ⟨rfl, rfl, rfl, by decide +kernel, rfl, by decide +kernel, by decide +kernel⟩
abbrev s__are_cells : Stmt := topS 25
abbrev N__are_cells : List Str := ["thing", "part", "ident", "_"]
theorem sc__are_cells : FnScope N__are_cells ["thing"] (defScope s__are_cells) := ⟨rfl, rfl, rfl, by decide +kernel, rfl, by decide +kernel, by decide +kernel⟩
abbrev s__is_cell : Stmt := topS 26
abbrev N__is_cell : List Str := ["thing"]
theorem sc__is_cell : FnScope N__is_cell ["thing"] (defScope s__is_cell) := ⟨rfl, rfl, rfl, by decide +kernel, rfl, by decide +kernel, by decide +kernel⟩
abbrev s__law_pot : Stmt := topS 28
abbrev N__law_pot : List Str := ["script", "k", "cell"]
theorem sc__law_pot : FnScope N__law_pot ["script", "k"] (defScope s__law_pot) := ⟨rfl, rfl, rfl, by decide +kernel, rfl, by decide +kernel, by decide +kernel⟩
abbrev s__law_take : Stmt := topS 29
abbrev N__law_take : List Str := ["pot", "many", "found", "one", "other"]
theorem sc__law_take : FnScope N__law_take ["pot", "many"] (defScope s__law_take) := ⟨rfl, rfl, rfl, by decide +kernel, rfl, by decide +kernel, by decide +kernel⟩
abbrev s__law_whole : Stmt := topS 30
abbrev N__law_whole : List Str := ["found"]
theorem sc__law_whole : FnScope N__law_whole ["found"] (defScope s__law_whole) := ⟨rfl, rfl, rfl, by decide +kernel, rfl, by decide +kernel, by decide +kernel⟩
abbrev s__law_word : Stmt := topS 31
abbrev N__law_word : List Str := ["pot", "many", "word", "k"]
theorem sc__law_word : FnScope N__law_word ["pot"] (defScope s__law_word) := ⟨rfl, rfl, rfl, by decide +kernel, rfl, by decide +kernel, by decide +kernel⟩
abbrev s__law_value : Stmt := topS 33
abbrev N__law_value : List Str := ["pot", "way"]
theorem sc__law_value : FnScope N__law_value ["pot"] (defScope s__law_value) := ⟨rfl, rfl, rfl, by decide +kernel, rfl, by decide +kernel, by decide +kernel⟩
abbrev s__law_is_word : Stmt := topS 34
abbrev N__law_is_word : List Str := ["thing", "sign"]
theorem sc__law_is_word : FnScope N__law_is_word ["thing"] (defScope s__law_is_word) := ⟨rfl, rfl, rfl, by decide +kernel, rfl, by decide +kernel, by decide +kernel⟩
abbrev s__law_is_name : Stmt := topS 35
abbrev N__law_is_name : List Str := ["thing"]
theorem sc__law_is_name : FnScope N__law_is_name ["thing"] (defScope s__law_is_name) := ⟨rfl, rfl, rfl, by decide +kernel, rfl, by decide +kernel, by decide +kernel⟩
abbrev s__law_between : Stmt := topS 36
abbrev N__law_between : List Str := ["thing", "low", "high"]
theorem sc__law_between : FnScope N__law_between ["thing", "low", "high"] (defScope s__law_between) := ⟨rfl, rfl, rfl, by decide +kernel, rfl, by decide +kernel, by decide +kernel⟩
abbrev s__law_is_value : Stmt := topS 37
abbrev N__law_is_value : List Str := ["thing"]
theorem sc__law_is_value : FnScope N__law_is_value ["thing"] (defScope s__law_is_value) := ⟨rfl, rfl, rfl, by decide +kernel, rfl, by decide +kernel, by decide +kernel⟩
abbrev s__law_is_id : Stmt := topS 38
abbrev N__law_is_id : List Str := ["thing"]
theorem sc__law_is_id : FnScope N__law_is_id ["thing"] (defScope s__law_is_id) := ⟨rfl, rfl, rfl, by decide +kernel, rfl, by decide +kernel, by decide +kernel⟩
abbrev s__law_are_cells : Stmt := topS 39
abbrev N__law_are_cells : List Str := ["thing", "cell", "one", "other"]
theorem sc__law_are_cells : FnScope N__law_are_cells ["thing"] (defScope s__law_are_cells) := ⟨rfl, rfl, rfl, by decide +kernel, rfl, by decide +kernel, by decide +kernel⟩
abbrev s__law_is_part : Stmt := topS 40
abbrev N__law_is_part : List Str := ["sign", "thing"]
theorem sc__law_is_part : FnScope N__law_is_part ["sign", "thing"] (defScope s__law_is_part) := ⟨rfl, rfl, rfl, by decide +kernel, rfl, by decide +kernel, by decide +kernel⟩
abbrev s__law_forms : Stmt := topS 41
abbrev N__law_forms : List Str := ["some"]
theorem sc__law_forms : FnScope N__law_forms [] (defScope s__law_forms) := ⟨rfl, rfl, rfl, by decide +kernel, rfl, by decide +kernel, by decide +kernel⟩
abbrev s__law_due : Stmt := topS 42
abbrev N__law_due : List Str := ["thing", "signs", "sign", "part"]
theorem sc__law_due : FnScope N__law_due ["thing"] (defScope s__law_due) := ⟨rfl, rfl, rfl, by decide +kernel, rfl, by decide +kernel, by decide +kernel⟩
abbrev s__law_id : Stmt := topS 43
abbrev N__law_id : List Str := ["pot", "hand", "number"]
theorem sc__law_id : FnScope N__law_id ["pot"] (defScope s__law_id) := ⟨rfl, rfl, rfl, by decide +kernel, rfl, by decide +kernel, by decide +kernel⟩
abbrev s__law_cells : Stmt := topS 44
abbrev N__law_cells : List Str := ["pot", "found", "k", "at"]
theorem sc__law_cells : FnScope N__law_cells ["pot"] (defScope s__law_cells) := ⟨rfl, rfl, rfl, by decide +kernel, rfl, by decide +kernel, by decide +kernel⟩
abbrev s__law_part : Stmt := topS 45
abbrev N__law_part : List Str := ["pot", "sign", "top"]
theorem sc__law_part : FnScope N__law_part ["pot", "sign"] (defScope s__law_part) := ⟨rfl, rfl, rfl, by decide +kernel, rfl, by decide +kernel, by decide +kernel⟩
abbrev s__law_good : Stmt := topS 46
abbrev N__law_good : List Str := ["pot", "word", "sign"]
theorem sc__law_good : FnScope N__law_good ["pot", "word"] (defScope s__law_good) := ⟨rfl, rfl, rfl, by decide +kernel, rfl, by decide +kernel, by decide +kernel⟩
abbrev s__law_odds : Stmt := topS 47
abbrev N__law_odds : List Str := ["some"]
theorem sc__law_odds : FnScope N__law_odds [] (defScope s__law_odds) := ⟨rfl, rfl, rfl, by decide +kernel, rfl, by decide +kernel, by decide +kernel⟩
abbrev s__law_bent : Stmt := topS 48
abbrev N__law_bent : List Str := ["pot", "thing", "deep", "odds", "odd", "way", "at", "to", "inner", "some", "found"]
theorem sc__law_bent : FnScope N__law_bent ["pot", "thing", "deep"] (defScope s__law_bent) := ⟨rfl, rfl, rfl, by decide +kernel, rfl, by decide +kernel, by decide +kernel⟩
abbrev s_law : Stmt := topS 49
abbrev N_law : List Str := ["script", "words", "k", "pot", "word", "deed", "other", "odds", "thing", "told"]
theorem sc_law : FnScope N_law ["script"] (defScope s_law) := ⟨rfl, rfl, rfl, by decide +kernel, rfl, by decide +kernel, by decide +kernel⟩
structure TxtF0 (K : PySem.W.Frag) (mg : Str → Option Value) where
  f_is_whole : Addr
  d_is_whole : FuncData
  F_is_whole : Fun K "is_whole" "is_whole" s_is_whole f_is_whole d_is_whole
  g_is_whole : mg "is_whole" = some (.ref f_is_whole)
  b_is_whole : Binds K d_is_whole ["thing", "low", "high"] []
  f_is_word : Addr
  d_is_word : FuncData
  F_is_word : Fun K "is_word" "is_word" s_is_word f_is_word d_is_word
  g_is_word : mg "is_word" = some (.ref f_is_word)
  b_is_word : Binds K d_is_word ["thing"] []
  f_is_name : Addr
  d_is_name : FuncData
  F_is_name : Fun K "is_name" "is_name" s_is_name f_is_name d_is_name
  g_is_name : mg "is_name" = some (.ref f_is_name)
  b_is_name : Binds K d_is_name ["thing"] []
  f_is_key : Addr
  d_is_key : FuncData
  F_is_key : Fun K "is_key" "is_key" s_is_key f_is_key d_is_key
  g_is_key : mg "is_key" = some (.ref f_is_key)
  b_is_key : Binds K d_is_key ["thing"] []
  f_is_value : Addr
  d_is_value : FuncData
  F_is_value : Fun K "is_value" "is_value" s_is_value f_is_value d_is_value
  g_is_value : mg "is_value" = some (.ref f_is_value)
  b_is_value : Binds K d_is_value ["thing"] []
  f_is_hand : Addr
  d_is_hand : FuncData
  F_is_hand : Fun K "is_hand" "is_hand" s_is_hand f_is_hand d_is_hand
  g_is_hand : mg "is_hand" = some (.ref f_is_hand)
  b_is_hand : Binds K d_is_hand ["thing"] []
  f_is_kind : Addr
  d_is_kind : FuncData
  F_is_kind : Fun K "is_kind" "is_kind" s_is_kind f_is_kind d_is_kind
  g_is_kind : mg "is_kind" = some (.ref f_is_kind)
  b_is_kind : Binds K d_is_kind ["thing"] []
  f_is_id : Addr
  d_is_id : FuncData
  F_is_id : Fun K "is_id" "is_id" s_is_id f_is_id d_is_id
  g_is_id : mg "is_id" = some (.ref f_is_id)
  b_is_id : Binds K d_is_id ["thing"] []
structure TxtF1 (K : PySem.W.Frag) (mg : Str → Option Value) where
  f_rises : Addr
  d_rises : FuncData
  F_rises : Fun K "rises" "rises" s_rises f_rises d_rises
  g_rises : mg "rises" = some (.ref f_rises)
  b_rises : Binds K d_rises ["things"] []
  f_is_deed_name : Addr
  d_is_deed_name : FuncData
  F_is_deed_name : Fun K "is_deed_name" "is_deed_name" s_is_deed_name f_is_deed_name d_is_deed_name
  g_is_deed_name : mg "is_deed_name" = some (.ref f_is_deed_name)
  b_is_deed_name : Binds K d_is_deed_name ["thing"] []
  f_is_deed : Addr
  d_is_deed : FuncData
  F_is_deed : Fun K "is_deed" "is_deed" s_is_deed f_is_deed d_is_deed
  g_is_deed : mg "is_deed" = some (.ref f_is_deed)
  b_is_deed : Binds K d_is_deed ["thing"] []
  f__is_of_one : Addr
  d__is_of_one : FuncData
  F__is_of_one : Fun K "_is_of_one" "_is_of_one" s__is_of_one f__is_of_one d__is_of_one
  g__is_of_one : mg "_is_of_one" = some (.ref f__is_of_one)
  b__is_of_one : Binds K d__is_of_one ["word", "part"] []
  f__is_of_two : Addr
  d__is_of_two : FuncData
  F__is_of_two : Fun K "_is_of_two" "_is_of_two" s__is_of_two f__is_of_two d__is_of_two
  g__is_of_two : mg "_is_of_two" = some (.ref f__is_of_two)
  b__is_of_two : Binds K d__is_of_two ["word", "one", "two"] []
  f__is_column : Addr
  d__is_column : FuncData
  F__is_column : Fun K "_is_column" "_is_column" s__is_column f__is_column d__is_column
  g__is_column : mg "_is_column" = some (.ref f__is_column)
  b__is_column : Binds K d__is_column ["name", "kind", "value"] []
  f__may_be_else : Addr
  d__may_be_else : FuncData
  F__may_be_else : Fun K "_may_be_else" "_may_be_else" s__may_be_else f__may_be_else d__may_be_else
  g__may_be_else : mg "_may_be_else" = some (.ref f__may_be_else)
  b__may_be_else : Binds K d__may_be_else ["thing"] []
  f__are_cells : Addr
  d__are_cells : FuncData
  F__are_cells : Fun K "_are_cells" "_are_cells" s__are_cells f__are_cells d__are_cells
  g__are_cells : mg "_are_cells" = some (.ref f__are_cells)
  b__are_cells : Binds K d__are_cells ["thing"] []
structure TxtF2 (K : PySem.W.Frag) (mg : Str → Option Value) where
  f__is_cell : Addr
  d__is_cell : FuncData
  F__is_cell : Fun K "_is_cell" "_is_cell" s__is_cell f__is_cell d__is_cell
  g__is_cell : mg "_is_cell" = some (.ref f__is_cell)
  b__is_cell : Binds K d__is_cell ["thing"] []
  f__law_pot : Addr
  d__law_pot : FuncData
  F__law_pot : Fun K "_law_pot" "_law_pot" s__law_pot f__law_pot d__law_pot
  g__law_pot : mg "_law_pot" = some (.ref f__law_pot)
  b__law_pot : Binds K d__law_pot ["script", "k"] []
  f__law_take : Addr
  d__law_take : FuncData
  F__law_take : Fun K "_law_take" "_law_take" s__law_take f__law_take d__law_take
  g__law_take : mg "_law_take" = some (.ref f__law_take)
  b__law_take : Binds K d__law_take ["pot", "many"] []
  f__law_whole : Addr
  d__law_whole : FuncData
  F__law_whole : Fun K "_law_whole" "_law_whole" s__law_whole f__law_whole d__law_whole
  g__law_whole : mg "_law_whole" = some (.ref f__law_whole)
  b__law_whole : Binds K d__law_whole ["found"] []
  f__law_word : Addr
  d__law_word : FuncData
  F__law_word : Fun K "_law_word" "_law_word" s__law_word f__law_word d__law_word
  g__law_word : mg "_law_word" = some (.ref f__law_word)
  b__law_word : Binds K d__law_word ["pot"] []
  f__law_value : Addr
  d__law_value : FuncData
  F__law_value : Fun K "_law_value" "_law_value" s__law_value f__law_value d__law_value
  g__law_value : mg "_law_value" = some (.ref f__law_value)
  b__law_value : Binds K d__law_value ["pot"] []
  f__law_is_word : Addr
  d__law_is_word : FuncData
  F__law_is_word : Fun K "_law_is_word" "_law_is_word" s__law_is_word f__law_is_word d__law_is_word
  g__law_is_word : mg "_law_is_word" = some (.ref f__law_is_word)
  b__law_is_word : Binds K d__law_is_word ["thing"] []
  f__law_is_name : Addr
  d__law_is_name : FuncData
  F__law_is_name : Fun K "_law_is_name" "_law_is_name" s__law_is_name f__law_is_name d__law_is_name
  g__law_is_name : mg "_law_is_name" = some (.ref f__law_is_name)
  b__law_is_name : Binds K d__law_is_name ["thing"] []
structure TxtF3 (K : PySem.W.Frag) (mg : Str → Option Value) where
  f__law_between : Addr
  d__law_between : FuncData
  F__law_between : Fun K "_law_between" "_law_between" s__law_between f__law_between d__law_between
  g__law_between : mg "_law_between" = some (.ref f__law_between)
  b__law_between : Binds K d__law_between ["thing", "low", "high"] []
  f__law_is_value : Addr
  d__law_is_value : FuncData
  F__law_is_value : Fun K "_law_is_value" "_law_is_value" s__law_is_value f__law_is_value d__law_is_value
  g__law_is_value : mg "_law_is_value" = some (.ref f__law_is_value)
  b__law_is_value : Binds K d__law_is_value ["thing"] []
  f__law_is_id : Addr
  d__law_is_id : FuncData
  F__law_is_id : Fun K "_law_is_id" "_law_is_id" s__law_is_id f__law_is_id d__law_is_id
  g__law_is_id : mg "_law_is_id" = some (.ref f__law_is_id)
  b__law_is_id : Binds K d__law_is_id ["thing"] []
  f__law_are_cells : Addr
  d__law_are_cells : FuncData
  F__law_are_cells : Fun K "_law_are_cells" "_law_are_cells" s__law_are_cells f__law_are_cells d__law_are_cells
  g__law_are_cells : mg "_law_are_cells" = some (.ref f__law_are_cells)
  b__law_are_cells : Binds K d__law_are_cells ["thing"] []
  f__law_is_part : Addr
  d__law_is_part : FuncData
  F__law_is_part : Fun K "_law_is_part" "_law_is_part" s__law_is_part f__law_is_part d__law_is_part
  g__law_is_part : mg "_law_is_part" = some (.ref f__law_is_part)
  b__law_is_part : Binds K d__law_is_part ["sign", "thing"] []
  f__law_forms : Addr
  d__law_forms : FuncData
  F__law_forms : Fun K "_law_forms" "_law_forms" s__law_forms f__law_forms d__law_forms
  g__law_forms : mg "_law_forms" = some (.ref f__law_forms)
  b__law_forms : Binds K d__law_forms [] []
  f__law_due : Addr
  d__law_due : FuncData
  F__law_due : Fun K "_law_due" "_law_due" s__law_due f__law_due d__law_due
  g__law_due : mg "_law_due" = some (.ref f__law_due)
  b__law_due : Binds K d__law_due ["thing"] []
  f__law_id : Addr
  d__law_id : FuncData
  F__law_id : Fun K "_law_id" "_law_id" s__law_id f__law_id d__law_id
  g__law_id : mg "_law_id" = some (.ref f__law_id)
  b__law_id : Binds K d__law_id ["pot"] []
structure TxtF4 (K : PySem.W.Frag) (mg : Str → Option Value) where
  f__law_cells : Addr
  d__law_cells : FuncData
  F__law_cells : Fun K "_law_cells" "_law_cells" s__law_cells f__law_cells d__law_cells
  g__law_cells : mg "_law_cells" = some (.ref f__law_cells)
  b__law_cells : Binds K d__law_cells ["pot"] []
  f__law_part : Addr
  d__law_part : FuncData
  F__law_part : Fun K "_law_part" "_law_part" s__law_part f__law_part d__law_part
  g__law_part : mg "_law_part" = some (.ref f__law_part)
  b__law_part : Binds K d__law_part ["pot", "sign"] []
  f__law_good : Addr
  d__law_good : FuncData
  F__law_good : Fun K "_law_good" "_law_good" s__law_good f__law_good d__law_good
  g__law_good : mg "_law_good" = some (.ref f__law_good)
  b__law_good : Binds K d__law_good ["pot", "word"] []
  f__law_odds : Addr
  d__law_odds : FuncData
  F__law_odds : Fun K "_law_odds" "_law_odds" s__law_odds f__law_odds d__law_odds
  g__law_odds : mg "_law_odds" = some (.ref f__law_odds)
  b__law_odds : Binds K d__law_odds [] []
  f__law_bent : Addr
  d__law_bent : FuncData
  F__law_bent : Fun K "_law_bent" "_law_bent" s__law_bent f__law_bent d__law_bent
  g__law_bent : mg "_law_bent" = some (.ref f__law_bent)
  b__law_bent : Binds K d__law_bent ["pot", "thing", "deep"] []
  f_law : Addr
  d_law : FuncData
  F_law : Fun K "law" "law" s_law f_law d_law
  g_law : mg "law" = some (.ref f_law)
  b_law : Binds K d_law ["script"] []
structure TxtC (K : PySem.W.Frag) (mg : Str → Option Value) where
  t_MOST_LETTERS : Tok
  c_MOST_LETTERS : mg "MOST_LETTERS" = some (.int 8 t_MOST_LETTERS)
  t_MOST_KEY : Tok
  c_MOST_KEY : mg "MOST_KEY" = some (.int 1000000000 t_MOST_KEY)
  t_MOST_VALUE : Tok
  c_MOST_VALUE : mg "MOST_VALUE" = some (.int 1000000000 t_MOST_VALUE)
  t_MOST_HAND : Tok
  c_MOST_HAND : mg "MOST_HAND" = some (.int 7 t_MOST_HAND)
  f_KINDS : Addr
  c_KINDS : mg "KINDS" = some (.ref f_KINDS)
  s_KINDS : ∀ H, SqT K H f_KINDS ((["number", "word", "any"] : List Str).map V.str)
  t_MOST_NUMBER : Tok
  c_MOST_NUMBER : mg "MOST_NUMBER" = some (.int 1000000 t_MOST_NUMBER)
  t_MOST_CELLS : Tok
  c_MOST_CELLS : mg "MOST_CELLS" = some (.int 6 t_MOST_CELLS)
  n_isinstance : mg "isinstance" = none
  n_bool : mg "bool" = none
  n_int : mg "int" = none
  n_str : mg "str" = none
  n_len : mg "len" = none
  n_tuple : mg "tuple" = none
  n_all : mg "all" = none
  n_zip : mg "zip" = none
  n_abs : mg "abs" = none
  n_range : mg "range" = none
  n_sorted : mg "sorted" = none
  n_list : mg "list" = none
  n_max : mg "max" = none
  n_min : mg "min" = none
structure Txt (K : PySem.W.Frag) (mg : Str → Option Value) extends TxtF0 K mg, TxtF1 K mg, TxtF2 K mg, TxtF3 K mg, TxtF4 K mg, TxtC K mg
abbrev UU (P : Program) (w : World) (K : PySem.W.Frag) {mg : Str → Option Value} (T : Txt K mg) : Bx.Un := ⟨P, w, K, fun _ => 0⟩
end K37
namespace K37
open PySem PySem.Spec PyProof.Rows L2 Bx
section
variable {P : Program} {w : World} {K : PySem.W.Frag} {mg : Str → Option Value} {base : Heap}
open Pr in
theorem ok__law_take {k : Nat} (T : Txt K mg) : FnOk P w K mg base CX0 (k + 1) T.f__law_take T.d__law_take ["pot", "many"] spTakeX := by
  refine (T.F__law_take).ok sc__law_take (fun vs H Q E h => ?_) (fun cdv A outer s H vs Q E hr h => ?_)
  · obtain ⟨p, a, b, c, many, rfl, _⟩ := h
    rfl
  · obtain ⟨p, a, b, c, many, rfl, e, ⟨⟨ha, ha2⟩, ⟨hb, hb2⟩, hc, hc2⟩, hm, hm2, q⟩ := h
    refine ⟨_, (pss_cons (ps_if (pt_cmpR op_gt (pe_ix ix_list (pv 0) pe_int (fun _ _ => rfl)) pe_int (nomark _)) (pss_cons (ps_set (i := 2) sc__law_take.nd rfl (Or.inl rfl) (pe_op op_mod (pe_ix ix_list (pv 0) pe_int (fun _ _ => rfl)) (pv 1))) (pss_cons (ps_asg (pe_op op_fdivW (pe_ix ix_list (pv 0) pe_int (fun _ _ => rfl)) (pv 1)) (pg_sub (pv 0) pe_int set_list)) (pss_one (ps_ret (pv 2))))) pss_nil) (pss_cons (ps_asg (pe_op op_add (pe_ix ix_list (pv 0) pe_int (fun _ _ => rfl)) pe_int) (pg_sub (pv 0) pe_int set_list)) (pss_cons (ps_set (i := 3) sc__law_take.nd rfl (Or.inl rfl) (pe_op op_mod (pe_op op_pow (pe_op op_add (pe_ix ix_list (pv 0) pe_int (fun _ _ => rfl)) (pe_op op_mul pe_int (pe_ix ix_list (pv 0) pe_int (fun _ _ => rfl)))) pe_int) pe_int)) (pss_cons (ps_set (i := 4) sc__law_take.nd rfl (Or.inl rfl) (pe_op op_mod (pe_op op_pow (pe_op op_add (pe_op op_add (pv 3) (pe_op op_mod (pe_ix ix_list (pv 0) pe_int (fun _ _ => rfl)) pe_int)) (pe_op op_mul pe_int (pe_ix ix_list (pv 0) pe_int (fun _ _ => rfl)))) pe_int) pe_int)) (pss_one (ps_ret (pe_op op_mod (pe_op op_fdivW (pv 4) pe_int) (pv 1)))))))), ?_⟩
    refine ⟨_, rfl, p, _, 0, _, rfl, rfl, SqL.of e, atI_nat (j := 0) rfl, a, 0, rfl, rfl, _, rfl, ite2 (fun h1 => ?_) (fun h1 => ?_)⟩
    · have h1' : 0 < a := of_decide_eq_true h1
      unfold tkR tkL at q
      rw [if_pos h1', if_pos h1'] at q
      refine ⟨_, rfl, p, _, 0, _, rfl, rfl, SqL.of e, atI_nat (j := 0) rfl, _, rfl, a, many, rfl, rfl, hm, ?_⟩
      refine ⟨_, rfl, p, _, 0, _, rfl, rfl, SqL.of e, atI_nat (j := 0) rfl, _, rfl, a, many, rfl, rfl, wide_div (b := 64) hm (by omega) (by decide) (by decide), ?_⟩
      refine ⟨_, rfl, p, _, 0, 0, rfl, rfl, e, rfl, ?_⟩
      exact ⟨_, rfl, q⟩
    · have h1' : ¬ 0 < a := fun z => h1 (decide_eq_true z)
      unfold tkR tkL at q
      rw [if_neg h1', if_neg h1'] at q
      refine ⟨_, rfl, p, _, 2, _, rfl, rfl, SqL.of e, atI_nat (j := 2) rfl, c, 1, rfl, rfl, ?_⟩
      refine ⟨_, rfl, p, _, 2, 2, rfl, rfl, e, rfl, ?_⟩
      have e2 : upd H p (.lst [.int a, .int b, .int (c + 1)]) p = some (.lst [.int a, .int b, .int (c + 1)]) := upd_same
      refine ⟨_, rfl, p, _, 1, _, rfl, rfl, SqL.of e2, atI_nat (j := 1) rfl, _, rfl, p, _, 2, _, rfl, rfl, SqL.of e2, atI_nat (j := 2) rfl, _, _, rfl, rfl, .inl ⟨by decide, by decide⟩, _, _, rfl, rfl, _, _, rfl, rfl, ⟨by decide, by decide, ?_⟩, _, _, rfl, rfl, (by decide : (0 : Int) < 2305843009213693921), ?_⟩
      · omega
      generalize hone : (b + 104729 * (c + 1)) ^ (3 : Int).toNat % 2305843009213693921 = one
      have ho1 : 0 ≤ one := by rw [← hone]; exact Int.emod_nonneg _ (by decide)
      have ho2 : one < 2305843009213693921 := by rw [← hone]; exact Int.emod_lt_of_pos _ (by decide)
      have hr1 : 0 ≤ b % 65537 := Int.emod_nonneg _ (by decide)
      have hr2 : b % 65537 < 65537 := Int.emod_lt_of_pos _ (by decide)
      refine ⟨_, rfl, _, rfl, p, _, 1, _, rfl, rfl, SqL.of e2, atI_nat (j := 1) rfl, _, _, rfl, rfl, (by decide : (0 : Int) < 65537), _, _, rfl, rfl, _, rfl, p, _, 2, _, rfl, rfl, SqL.of e2, atI_nat (j := 2) rfl, _, _, rfl, rfl, .inl ⟨by decide, by decide⟩, _, _, rfl, rfl, _, _, rfl, rfl, ⟨by decide, by decide, ?_⟩, _, _, rfl, rfl, (by decide : (0 : Int) < 2305843009213693907), ?_⟩
      · omega
      refine ⟨_, rfl, _, _, rfl, rfl, ⟨by decide, by decide +kernel⟩, _, rfl, _, _, rfl, rfl, hm, ?_⟩
      exact q
end
section
variable {P : Program} {w : World} {K : PySem.W.Frag} {mg : Str → Option Value} {base : Heap}
open Pr in
theorem ok__law_pot {k : Nat} (T : Txt K mg) : FnOk P w K mg base CX0 (k + 1) T.f__law_pot T.d__law_pot ["script", "k"] (spPotX K) := by
  refine (T.F__law_pot).ok sc__law_pot (fun vs H Q E h => ?_) (fun cdv A outer s H vs Q E hr h => ?_)
  · obtain ⟨a, ns, kk, rfl, _⟩ := h
    rfl
  · obtain ⟨a, ns, kk, rfl, hS, hk0, hk1, q⟩ := h
    refine ⟨_, (pss_cons (ps_set (i := 2) sc__law_pot.nd rfl (Or.inl rfl) pe_int) (pss_cons (ps_if (pt_cmpR op_lt (pv 1) (pe_callB call_len_seq (by rfl) T.n_len PySem.boot_len (pa_cons (pv 0) pa_nil)) (nomark _)) (pss_one (ps_set (i := 2) sc__law_pot.nd rfl (Or.inl rfl) (pe_op op_mod (pe_callB call_abs (by rfl) T.n_abs (by decide +kernel) (pa_cons (pe_ix ix_list (pv 0) (pv 1) (fun _ _ => rfl)) pa_nil)) (pe_op op_powW (pe_op op_pow pe_int pe_int) pe_int)))) pss_nil) (pss_one (ps_ret (pe_lst (pa_cons (pe_op op_mul (pv 2) (pe_callTy call_int1 (by rfl) T.n_int (by decide +kernel) (pa_cons (pe_cmpR op_ge (pv 2) (pe_op op_pow pe_int pe_int) (nomark _)) pa_nil))) (pa_cons (pe_op op_mod (pe_op op_pow (pe_op op_add (pe_op op_add (pe_op op_mod (pv 2) pe_int) (pe_op op_mul pe_int (pv 1))) pe_int) pe_int) pe_int) (pa_cons pe_int pa_nil)))))))), ?_⟩
    refine ⟨_, rfl, _, rfl, a, _, rfl, .inl hS, _, _, rfl, rfl, _, rfl, ite2 (fun h1 => ?_) (fun h1 => ?_)⟩
    · have h2 := of_decide_eq_true h1
      rw [List.length_map] at h2
      obtain ⟨j, rfl⟩ := Int.eq_ofNat_of_zero_le hk0
      have hj : j < ns.length := by omega
      have hv : atI (ns.map V.int) (j : Int) = some (V.int (ns.getD j 0)) := atI_nat (by rw [List.getElem?_map, List.getElem?_eq_getElem hj, List.getD_eq_getElem?_getD, List.getElem?_eq_getElem hj]; rfl)
      have ec : ptC ns j = (if ns.getD j 0 < 0 then -(ns.getD j 0) else ns.getD j 0) % ((10 : Int) ^ (60 : Int).toNat) ^ (10 : Int).toNat := by
        unfold ptC
        rw [if_pos ⟨hk0, by omega⟩]
        rfl
      unfold ptL at q
      rw [ec] at q
      generalize ns.getD j 0 = i at *
      refine ⟨_, rfl, _, rfl, a, _, j, _, rfl, rfl, hS, hv, _, rfl, _, _, rfl, rfl, ⟨by decide, by decide, by decide⟩, _, _, rfl, rfl, powW1, _, _, rfl, rfl, big_lt.2, ?_⟩
      have hc0 := Int.emod_nonneg (if i < 0 then -i else i) (Int.ne_of_gt big_lt.2)
      refine ⟨_, rfl, _, rfl, _, _, rfl, rfl, ⟨by decide, by decide, by decide⟩, _, _, rfl, rfl, .inr ⟨_, rfl, ?_⟩⟩
      refine ⟨_, _, rfl, rfl, .inr (b01 _), ?_⟩
      refine ⟨_, rfl, _, _, rfl, rfl, (by decide : (0 : Int) < 2147483629), _, rfl, _, _, rfl, rfl, .inl ⟨by decide, by decide⟩, _, _, rfl, rfl, _, _, rfl, rfl, _, _, rfl, rfl, ⟨by decide, by decide, powArg (Int.emod_nonneg _ (by decide)) (Int.emod_lt_of_pos _ (by decide)) hk0 hk1⟩, _, _, rfl, rfl, (by decide : (0 : Int) < 2305843009213693951), ?_⟩
      exact ⟨(by decide : 3 ≤ sizeLine), q⟩
    · have h2 : ¬ (kk < (ns.map V.int).length) := fun z => h1 (decide_eq_true z)
      rw [List.length_map] at h2
      have ec : ptC ns kk = 0 := by
        unfold ptC
        rw [if_neg (fun z => h2 z.2)]
      unfold ptL at q
      rw [ec] at q
      refine ⟨_, rfl, _, rfl, _, _, rfl, rfl, ⟨by decide, by decide, by decide⟩, _, _, rfl, rfl, .inr ⟨_, rfl, ?_⟩⟩
      refine ⟨_, _, rfl, rfl, .inr (b01 _), ?_⟩
      refine ⟨_, rfl, _, _, rfl, rfl, (by decide : (0 : Int) < 2147483629), _, rfl, _, _, rfl, rfl, .inl ⟨by decide, by decide⟩, _, _, rfl, rfl, _, _, rfl, rfl, _, _, rfl, rfl, ⟨by decide, by decide, powArg (Int.emod_nonneg _ (by decide)) (Int.emod_lt_of_pos _ (by decide)) hk0 hk1⟩, _, _, rfl, rfl, (by decide : (0 : Int) < 2305843009213693951), ?_⟩
      exact ⟨(by decide : 3 ≤ sizeLine), q⟩
end
theorem take_ok {P : Program} {w : World} {K : PySem.W.Frag} {mg : Str → Option Value} {base : Heap} {k : Nat} (T : Txt K mg) (U : Bx.Un) : FnOk P w K mg base CX0 (k + 1) T.f__law_take T.d__law_take ["pot", "many"] (spF U (some 0) 2 takeF) := (ok__law_take T).imp fun _ _ _ _ h => take_imp h
end K37
set_option maxHeartbeats 0
namespace K37
open PySem PySem.Spec PyProof.Rows L2 Bx
section
variable {P : Program} {w : World} {K : PySem.W.Frag} {mg : Str → Option Value} {base : Heap}
noncomputable def mb_is_whole : M Fl := (sSeq (mIf (mOr (mB (mUn (dIsi "bool") (mVar 0))) (mNot (mB (mUn (dIsi "int") (mVar 0))))) (sRet (mC (.bl false))) sPass) (sRet (mChain dLe dLe (mVar 1) (mVar 0) (mVar 2))))
noncomputable def F_is_whole : List D → Option FR := fnOf 3 none mb_is_whole
theorem ok_is_whole {k : Nat} (T : Txt K mg) : FnOk P w K mg base CX0 (k + 1) T.f_is_whole T.d_is_whole ["thing", "low", "high"] (spF (UU P w K T) none 3 F_is_whole) :=
  fn_data (own := []) (io := none) (mb := mb_is_whole) (U := (UU P w K T)) (k := k + 0) T.F_is_whole sc_is_whole (by decide) (by decide) (fun j hj => nomatch hj) fun cdv A outer s H E hr => fun pa A2 => ⟨_, (dss_cons (ds_if (dt_w (dw_or (dt_val (de_isi (Ts := "bool") ⟨rfl, rfl, rfl⟩ (by rfl) T.n_isinstance (de_var (i := 0)) (by unfold okT; decide) (by rfl) T.n_bool (by decide +kernel))) (dw_or1 (dt_not (dt_val (de_isi (Ts := "int") ⟨rfl, rfl, rfl⟩ (by rfl) T.n_isinstance (de_var (i := 0)) (by unfold okT; decide) (by rfl) T.n_int (by decide +kernel))))))) (dss_one (ds_ret de_bl)) dss_nil) (dss_one (ds_ret (de_chain o_le o_le (de_var (i := 1)) (de_var (i := 0)) (de_var (i := 2))))))⟩
noncomputable def mb_is_word : M Fl := (sSeq (mIf (mOr (mNot (mB (mUn (dIsi "str") (mVar 0)))) (mB (mBin dGt (mFn dLen (mCons (mVar 0) mNil)) (mC (.int 8))))) (sRet (mC (.bl false))) sPass) (sRet (mAndV (mUn dIsascii (mVar 0)) (mAndV (mUn dIsalpha (mVar 0)) (mUn dIslower (mVar 0))))))
noncomputable def F_is_word : List D → Option FR := fnOf 1 none mb_is_word
theorem ok_is_word {k : Nat} (T : Txt K mg) : FnOk P w K mg base CX0 (k + 1) T.f_is_word T.d_is_word ["thing"] (spF (UU P w K T) none 1 F_is_word) :=
  fn_data (own := []) (io := none) (mb := mb_is_word) (U := (UU P w K T)) (k := k + 0) T.F_is_word sc_is_word (by decide) (by decide) (fun j hj => nomatch hj) fun cdv A outer s H E hr => fun pa A2 => ⟨_, (dss_cons (ds_if (dt_w (dw_or (dt_not (dt_val (de_isi (Ts := "str") ⟨rfl, rfl, rfl⟩ (by rfl) T.n_isinstance (de_var (i := 0)) (by unfold okT; decide) (by rfl) T.n_str (by decide +kernel)))) (dw_or1 (dt_cmp o_gt (de_callB (o_len ⟨rfl, rfl, rfl⟩) (by rfl) T.n_len (by decide +kernel) (da_cons (de_var (i := 0)) da_nil)) (de_globI (by rfl) T.c_MOST_LETTERS ⟨_, rfl⟩) (nomark _))))) (dss_one (ds_ret de_bl)) dss_nil) (dss_one (ds_ret (de_and (de_m0 PySem.F.slot_str_isascii PySem.F.type_str_isascii o_isascii dIsascii_s (de_var (i := 0))) (de_and (de_m0 PySem.F.slot_str_isalpha PySem.F.type_str_isalpha o_isalpha dIsalpha_s (de_var (i := 0))) (de_one (de_m0 PySem.F.slot_str_islower PySem.F.type_str_islower o_islower dIslower_s (de_var (i := 0)))))))))⟩
noncomputable def mb_is_name : M Fl := (sRet (mAndV (mCall F_is_word (mCons (mVar 0) mNil)) (mBin dNe2 (mVar 0) (mC (.str "key")))))
noncomputable def F_is_name : List D → Option FR := fnOf 1 none mb_is_name
theorem ok_is_name {k : Nat} (T : Txt K mg) : FnOk P w K mg base CX0 (k + 2) T.f_is_name T.d_is_name ["thing"] (spF (UU P w K T) none 1 F_is_name) :=
  fn_data (own := []) (io := none) (mb := mb_is_name) (U := (UU P w K T)) (k := k + 1) T.F_is_name sc_is_name (by decide) (by decide) (fun j hj => nomatch hj) fun cdv A outer s H E hr => fun pa A2 => ⟨_, (dss_one (ds_ret (de_and (de_call (ok_is_word T) hr (by rfl) T.g_is_word T.F_is_word.kp T.b_is_word (da_cons (de_var (i := 0)) da_nil) (many_cons many_nil)) (de_one (de_cmp (o_ne (room200 hr)) (de_var (i := 0)) de_str (nomark _))))))⟩
noncomputable def mb_is_key : M Fl := (sRet (mCall F_is_whole (mCons (mVar 0) (mCons (mC (.int 0)) (mCons (mC (.int 1000000000)) mNil)))))
noncomputable def F_is_key : List D → Option FR := fnOf 1 none mb_is_key
theorem ok_is_key {k : Nat} (T : Txt K mg) : FnOk P w K mg base CX0 (k + 2) T.f_is_key T.d_is_key ["thing"] (spF (UU P w K T) none 1 F_is_key) :=
  fn_data (own := []) (io := none) (mb := mb_is_key) (U := (UU P w K T)) (k := k + 1) T.F_is_key sc_is_key (by decide) (by decide) (fun j hj => nomatch hj) fun cdv A outer s H E hr => fun pa A2 => ⟨_, (dss_one (ds_ret (de_call (ok_is_whole T) hr (by rfl) T.g_is_whole T.F_is_whole.kp T.b_is_whole (da_cons (de_var (i := 0)) (da_cons de_int (da_cons (de_globI (by rfl) T.c_MOST_KEY ⟨_, rfl⟩) da_nil))) (many_cons (many_cons (many_cons many_nil))))))⟩
noncomputable def mb_is_value : M Fl := (sRet (mOrV (mCall F_is_word (mCons (mVar 0) mNil)) (mCall F_is_whole (mCons (mVar 0) (mCons (mUn dNeg (mC (.int 1000000000))) (mCons (mC (.int 1000000000)) mNil))))))
noncomputable def F_is_value : List D → Option FR := fnOf 1 none mb_is_value
theorem ok_is_value {k : Nat} (T : Txt K mg) : FnOk P w K mg base CX0 (k + 2) T.f_is_value T.d_is_value ["thing"] (spF (UU P w K T) none 1 F_is_value) :=
  fn_data (own := []) (io := none) (mb := mb_is_value) (U := (UU P w K T)) (k := k + 1) T.F_is_value sc_is_value (by decide) (by decide) (fun j hj => nomatch hj) fun cdv A outer s H E hr => fun pa A2 => ⟨_, (dss_one (ds_ret (de_or (de_call (ok_is_word T) hr (by rfl) T.g_is_word T.F_is_word.kp T.b_is_word (da_cons (de_var (i := 0)) da_nil) (many_cons many_nil)) (de_one (de_call (ok_is_whole T) hr (by rfl) T.g_is_whole T.F_is_whole.kp T.b_is_whole (da_cons (de_var (i := 0)) (da_cons (de_un o_neg (de_globI (by rfl) T.c_MOST_VALUE ⟨_, rfl⟩)) (da_cons (de_globI (by rfl) T.c_MOST_VALUE ⟨_, rfl⟩) da_nil))) (many_cons (many_cons (many_cons many_nil))))))))⟩
noncomputable def mb_is_hand : M Fl := (sRet (mCall F_is_whole (mCons (mVar 0) (mCons (mC (.int 0)) (mCons (mC (.int 7)) mNil)))))
noncomputable def F_is_hand : List D → Option FR := fnOf 1 none mb_is_hand
theorem ok_is_hand {k : Nat} (T : Txt K mg) : FnOk P w K mg base CX0 (k + 2) T.f_is_hand T.d_is_hand ["thing"] (spF (UU P w K T) none 1 F_is_hand) :=
  fn_data (own := []) (io := none) (mb := mb_is_hand) (U := (UU P w K T)) (k := k + 1) T.F_is_hand sc_is_hand (by decide) (by decide) (fun j hj => nomatch hj) fun cdv A outer s H E hr => fun pa A2 => ⟨_, (dss_one (ds_ret (de_call (ok_is_whole T) hr (by rfl) T.g_is_whole T.F_is_whole.kp T.b_is_whole (da_cons (de_var (i := 0)) (da_cons de_int (da_cons (de_globI (by rfl) T.c_MOST_HAND ⟨_, rfl⟩) da_nil))) (many_cons (many_cons (many_cons many_nil))))))⟩
noncomputable def mb_is_kind : M Fl := (sRet (mUn (dInC ["number", "word", "any"]) (mVar 0)))
noncomputable def F_is_kind : List D → Option FR := fnOf 1 none mb_is_kind
theorem ok_is_kind {k : Nat} (T : Txt K mg) : FnOk P w K mg base CX0 (k + 1) T.f_is_kind T.d_is_kind ["thing"] (spF (UU P w K T) none 1 F_is_kind) :=
  fn_data (own := []) (io := none) (mb := mb_is_kind) (U := (UU P w K T)) (k := k + 0) T.F_is_kind sc_is_kind (by decide) (by decide) (fun j hj => nomatch hj) fun cdv A outer s H E hr => fun pa A2 => ⟨_, (dss_one (ds_ret (de_inC (room200 hr) (by rfl) T.c_KINDS T.s_KINDS (de_var (i := 0)))))⟩
end
end K37
/-! A call without arguments. -/
namespace Bx
open PySem PySem.Spec PyProof.Rows L2
def mCall0 (F : List D → Option FR) : M D := fun ρ => match F [] with
  | some (.ok d _) => some (.ok d ρ)
  | _ => none
section
variable {X : Cx} {U : Un} {C : Cz U} {f : Addr} {fd : FuncData} {ps : List Str} {k : Nat} {x : Str} {p pos : Pos} {F : List D → Option FR}
theorem de_call0 (ok : FnOk X.prog X.w X.K X.mg X.base CX0 k f fd ps (spF U none 0 F)) (hr : Room k X.A) (hg : Gl X x) (hm : X.mg x = some (.ref f)) (hk : PySem.W.keepIn X.K (.ref f) = true) (hb : Binds X.K fd ps [])
    (hdb : (x == ("__debug__" : Str)) = false := by decide) : DE X C (.Call (.Name x p) [] [] pos) (tCall (spF U none 0 F) [] E0 tNil) (mCall0 F) := by
  refine ⟨pe_call0 ok hr hg hm hk hb .nil pass0 hdb, fun σ H ρ r Q O e q => ?_⟩
  unfold mCall0 at e
  cases hf : F [] with
  | none => rw [hf] at e; cases e
  | some fr =>
    cases fr with
    | ex c x o => rw [hf] at e; cases e
    | ok d o =>
      rw [hf] at e
      cases e
      show spF U none 0 F ([] ++ []) H Q E0
      refine ⟨Av C σ, [], .ok d o, rfl, O.al, ⟨rfl, fun j v d h => nomatch h⟩, hf, fun v H' kp _ al i => ?_⟩
      have s : Same H H' := fun a o e => kp a o e fun j hj => nomatch hj
      exact q v H' (O.same s) (Ext.same s) i
theorem df_list {e : Expr} {es : List Expr} {tr : TA} {mr : M (List D)} {p1 : Pos} (hU : HU X U) (hg : Gl X x) (hm : X.mg x = none) (hv : bootBuiltins x = some (.type "list")) (h : DA X C (e :: es) tr mr) (hn : x ≠ "__name__" := by decide)
    (hdb : (x == ("__debug__" : Str)) = false := by decide) (he : starEach (e :: es) X.env = (false, eval e X.env) :: starEach es X.env := by rfl) (hpl : (backTo pos (starEach es X.env)).any (·.1) = false := by rfl) :
    DF X C (.Call (.Name x p1) (e :: es) [] pos) (tCB (fun xs H Q => ∃ p ys, xs = [.ref p] ∧ (SqL X.K H p ys ∨ SqT X.K H p ys) ∧ ∀ l, H l = none → Q (.ref l) (upd H l (.lst ys))) tr) (mFn dList mr) := by
  obtain ⟨pt, rt⟩ := h
  refine ⟨pe_callTy call_list_of hg hm hv pt hn hdb he hpl, fun σ H ρ r Q O e p => ?_⟩
  refine rt.then O e p.ex fun ds ρ1 vs H1 O1 x1 i1 e1 => ?_
  obtain ⟨z, hz, rfl⟩ := opt_ok e1
  have fin : ∀ (es : List D) (a : Addr) (xs : List V), vs = [.ref a] → (SqL X.K H1 a xs ∨ SqT X.K H1 a xs) → IsAll U (Av C σ) H1 xs es → z = .lst es → ∃ p ys, vs = [V.ref p] ∧ (SqL X.K H1 p ys ∨ SqT X.K H1 p ys) ∧ ∀ l, H1 l = none → Q (.ref l) (upd H1 l (.lst ys)) := fun es a xs ev1 ev2 ia ez => by
    subst ez
    refine ⟨a, xs, ev1, ev2, fun q hq => ?_⟩
    have s : Same H1 (upd H1 q (.lst xs)) := Same.new hq
    exact p q (.lst xs) _ (O1.alloc x1 q hq) (O1.plus hq s upd_same) (x1.trans (O1.extPlus hq s)) ⟨q, rfl, .inl ⟨xs, es, upd_same, ia.ext (O1.extPlus hq s), rfl⟩⟩
  unfold dList at hz
  split at hz
  · cases hz
    obtain ⟨v, rfl, i2⟩ := isAll_one i1
    obtain ⟨a, xs, rfl, ea, ia, _⟩ := i2.lst_inv
    exact fin _ a xs rfl (.inl (.inl ea)) ia rfl
  · cases hz
    obtain ⟨v, rfl, i2⟩ := isAll_one i1
    obtain ⟨a, xs, rfl, ea, ia, _⟩ := i2.tup_inv
    exact fin _ a xs rfl (.inr (SqT.of ea)) ia rfl
  · cases hz
end
end Bx
set_option maxHeartbeats 1000000
namespace K37
open PySem PySem.Spec PyProof.Rows L2 Bx
def wordB : D → Bool
  | .str z => decide (z.length ≤ 8) && (decide (0 < z.length) && Pr.azAll z)
  | _ => false
def wholeB (lo hi : Int) : D → Bool
  | .int i => decide (lo ≤ i) && decide (i ≤ hi)
  | _ => false
def isStr (s : Str) : D → Bool
  | .str z => z == s
  | _ => false
def nameB (d : D) : Bool := wordB d && !isStr "key" d
def valueB (d : D) : Bool := wordB d || wholeB (-1000000000) 1000000000 d
def kindB (d : D) : Bool := isStr "number" d || (isStr "word" d || isStr "any" d)
theorem isi_of {T : String} {d : D} (h : isE d = false) : dIsi T d = some (.bl (isK d.kind T)) := if_pos h
theorem dGt_int (i j : Int) : dGt (.int i) (.int j) = some (.bl (decide (j < i))) := rfl
theorem dLe_int (i j : Int) : dLe (.int i) (.int j) = some (.bl (decide (i ≤ j))) := rfl
theorem whole_ok {d : D} (h : isE d = false) (lo hi : Int) : F_is_whole [d, .int lo, .int hi] = some (.ok (.bl (wholeB lo hi d)) .non) := by
  have h1 := isi_of (T := "bool") h
  have h2 := isi_of (T := "int") h
  cases d with
  | int i => by_cases hlo : lo ≤ i <;> simp [F_is_whole, mb_is_whole, h1, h2, wholeB, D.kind, isK, dLe_int, hlo, fnOf, startE, sSeq, sSet, sRet, sPass, sBind, bTup, bAll, bName, mIf, mOr, mAnd, mNot, mB, mUn, mBin, mVar, mC, mFn, mCons, mNil, mTup, mLst, mCall, mCall0, mChain, mAndV, mOrV, mNotV, mSl, mSome, mNone, M.bind, M.pure, M.opt, mFail, ioOut, Option.map_some, List.map_cons, List.map_nil, List.length_cons, List.length_nil, List.cons_append, List.nil_append, List.replicate_succ, List.replicate_zero, Nat.reduceSub, Nat.reduceAdd, List.getElem?_cons_zero, List.getElem?_cons_succ, List.set_cons_zero, List.set_cons_succ, Bool.not_true, Bool.not_false, Bool.false_eq_true, if_true, if_false, ite_true, ite_false, reduceIte]
  | _ => simp [F_is_whole, mb_is_whole, h1, h2, wholeB, D.kind, isK, fnOf, startE, sSeq, sSet, sRet, sPass, sBind, bTup, bAll, bName, mIf, mOr, mAnd, mNot, mB, mUn, mBin, mVar, mC, mFn, mCons, mNil, mTup, mLst, mCall, mCall0, mChain, mAndV, mOrV, mNotV, mSl, mSome, mNone, M.bind, M.pure, M.opt, mFail, ioOut, Option.map_some, List.map_cons, List.map_nil, List.length_cons, List.length_nil, List.cons_append, List.nil_append, List.replicate_succ, List.replicate_zero, Nat.reduceSub, Nat.reduceAdd, List.getElem?_cons_zero, List.getElem?_cons_succ, List.set_cons_zero, List.set_cons_succ, Bool.not_true, Bool.not_false, Bool.false_eq_true, if_true, if_false, ite_true, ite_false, reduceIte]
theorem word_ok {d : D} (h : isE d = false) : F_is_word [d] = some (.ok (.bl (wordB d)) .non) := by
  have h1 := isi_of (T := "str") h
  cases d with
  | str z =>
    have hz : dLen [.str z] = some (.int z.length) := rfl
    have e := Pr.az_word z
    by_cases hl : z.length ≤ 8
    · have hg : dGt (.int z.length) (.int 8) = some (.bl false) := by rw [dGt_int, decide_eq_false (by omega)]
      have ew : wordB (.str z) = (decide (z.length ≤ 8) && (decide (0 < z.length) && Pr.azAll z)) := rfl
      rw [ew, ← e, decide_eq_true hl]
      cases ha : Txt.isascii z <;> cases hb : Txt.isalpha z <;> simp [F_is_word, mb_is_word, h1, hz, hg, D.kind, isK, dIsascii, dIsalpha, dIslower, dTx, ha, hb, fnOf, startE, sSeq, sSet, sRet, sPass, sBind, bTup, bAll, bName, mIf, mOr, mAnd, mNot, mB, mUn, mBin, mVar, mC, mFn, mCons, mNil, mTup, mLst, mCall, mCall0, mChain, mAndV, mOrV, mNotV, mSl, mSome, mNone, M.bind, M.pure, M.opt, mFail, ioOut, Option.map_some, List.map_cons, List.map_nil, List.length_cons, List.length_nil, List.cons_append, List.nil_append, List.replicate_succ, List.replicate_zero, Nat.reduceSub, Nat.reduceAdd, List.getElem?_cons_zero, List.getElem?_cons_succ, List.set_cons_zero, List.set_cons_succ, Bool.not_true, Bool.not_false, Bool.false_eq_true, if_true, if_false, ite_true, ite_false, reduceIte]
    · have hg : dGt (.int z.length) (.int 8) = some (.bl true) := by rw [dGt_int, decide_eq_true (by omega)]
      have ew : wordB (.str z) = (decide (z.length ≤ 8) && (decide (0 < z.length) && Pr.azAll z)) := rfl
      rw [ew, decide_eq_false hl]
      simp [F_is_word, mb_is_word, h1, hz, hg, D.kind, isK, fnOf, startE, sSeq, sSet, sRet, sPass, sBind, bTup, bAll, bName, mIf, mOr, mAnd, mNot, mB, mUn, mBin, mVar, mC, mFn, mCons, mNil, mTup, mLst, mCall, mCall0, mChain, mAndV, mOrV, mNotV, mSl, mSome, mNone, M.bind, M.pure, M.opt, mFail, ioOut, Option.map_some, List.map_cons, List.map_nil, List.length_cons, List.length_nil, List.cons_append, List.nil_append, List.replicate_succ, List.replicate_zero, Nat.reduceSub, Nat.reduceAdd, List.getElem?_cons_zero, List.getElem?_cons_succ, List.set_cons_zero, List.set_cons_succ, Bool.not_true, Bool.not_false, Bool.false_eq_true, if_true, if_false, ite_true, ite_false, reduceIte]
  | _ => simp [F_is_word, mb_is_word, h1, wordB, D.kind, isK, fnOf, startE, sSeq, sSet, sRet, sPass, sBind, bTup, bAll, bName, mIf, mOr, mAnd, mNot, mB, mUn, mBin, mVar, mC, mFn, mCons, mNil, mTup, mLst, mCall, mCall0, mChain, mAndV, mOrV, mNotV, mSl, mSome, mNone, M.bind, M.pure, M.opt, mFail, ioOut, Option.map_some, List.map_cons, List.map_nil, List.length_cons, List.length_nil, List.cons_append, List.nil_append, List.replicate_succ, List.replicate_zero, Nat.reduceSub, Nat.reduceAdd, List.getElem?_cons_zero, List.getElem?_cons_succ, List.set_cons_zero, List.set_cons_succ, Bool.not_true, Bool.not_false, Bool.false_eq_true, if_true, if_false, ite_true, ite_false, reduceIte]
theorem neok_str (z s : Str) : neok (.str z) (.str s) := ⟨rfl, rfl, Nat.zero_le _, Nat.zero_le _⟩
theorem ne_str (z s : Str) : dNe2 (.str z) (.str s) = some (.bl (!(z == s))) := by
  unfold dNe2
  rw [if_pos (neok_str z s)]
  rfl
theorem name_ok {d : D} (h : isE d = false) : F_is_name [d] = some (.ok (.bl (nameB d)) .non) := by
  have h1 := word_ok h
  cases d with
  | str z => cases hw : wordB (.str z) <;> simp [F_is_name, mb_is_name, h1, hw, nameB, isStr, ne_str, fnOf, startE, sSeq, sSet, sRet, sPass, sBind, bTup, bAll, bName, mIf, mOr, mAnd, mNot, mB, mUn, mBin, mVar, mC, mFn, mCons, mNil, mTup, mLst, mCall, mCall0, mChain, mAndV, mOrV, mNotV, mSl, mSome, mNone, M.bind, M.pure, M.opt, mFail, ioOut, Option.map_some, List.map_cons, List.map_nil, List.length_cons, List.length_nil, List.cons_append, List.nil_append, List.replicate_succ, List.replicate_zero, Nat.reduceSub, Nat.reduceAdd, List.getElem?_cons_zero, List.getElem?_cons_succ, List.set_cons_zero, List.set_cons_succ, Bool.not_true, Bool.not_false, Bool.false_eq_true, if_true, if_false, ite_true, ite_false, reduceIte]
  | _ => simp [F_is_name, mb_is_name, h1, wordB, nameB, fnOf, startE, sSeq, sSet, sRet, sPass, sBind, bTup, bAll, bName, mIf, mOr, mAnd, mNot, mB, mUn, mBin, mVar, mC, mFn, mCons, mNil, mTup, mLst, mCall, mCall0, mChain, mAndV, mOrV, mNotV, mSl, mSome, mNone, M.bind, M.pure, M.opt, mFail, ioOut, Option.map_some, List.map_cons, List.map_nil, List.length_cons, List.length_nil, List.cons_append, List.nil_append, List.replicate_succ, List.replicate_zero, Nat.reduceSub, Nat.reduceAdd, List.getElem?_cons_zero, List.getElem?_cons_succ, List.set_cons_zero, List.set_cons_succ, Bool.not_true, Bool.not_false, Bool.false_eq_true, if_true, if_false, ite_true, ite_false, reduceIte]
theorem key_ok {d : D} (h : isE d = false) : F_is_key [d] = some (.ok (.bl (wholeB 0 1000000000 d)) .non) := by
  simp [F_is_key, mb_is_key, whole_ok h, fnOf, startE, sSeq, sSet, sRet, sPass, sBind, bTup, bAll, bName, mIf, mOr, mAnd, mNot, mB, mUn, mBin, mVar, mC, mFn, mCons, mNil, mTup, mLst, mCall, mCall0, mChain, mAndV, mOrV, mNotV, mSl, mSome, mNone, M.bind, M.pure, M.opt, mFail, ioOut, Option.map_some, List.map_cons, List.map_nil, List.length_cons, List.length_nil, List.cons_append, List.nil_append, List.replicate_succ, List.replicate_zero, Nat.reduceSub, Nat.reduceAdd, List.getElem?_cons_zero, List.getElem?_cons_succ, List.set_cons_zero, List.set_cons_succ, Bool.not_true, Bool.not_false, Bool.false_eq_true, if_true, if_false, ite_true, ite_false, reduceIte]
theorem hand_ok {d : D} (h : isE d = false) : F_is_hand [d] = some (.ok (.bl (wholeB 0 7 d)) .non) := by
  simp [F_is_hand, mb_is_hand, whole_ok h, fnOf, startE, sSeq, sSet, sRet, sPass, sBind, bTup, bAll, bName, mIf, mOr, mAnd, mNot, mB, mUn, mBin, mVar, mC, mFn, mCons, mNil, mTup, mLst, mCall, mCall0, mChain, mAndV, mOrV, mNotV, mSl, mSome, mNone, M.bind, M.pure, M.opt, mFail, ioOut, Option.map_some, List.map_cons, List.map_nil, List.length_cons, List.length_nil, List.cons_append, List.nil_append, List.replicate_succ, List.replicate_zero, Nat.reduceSub, Nat.reduceAdd, List.getElem?_cons_zero, List.getElem?_cons_succ, List.set_cons_zero, List.set_cons_succ, Bool.not_true, Bool.not_false, Bool.false_eq_true, if_true, if_false, ite_true, ite_false, reduceIte]
theorem value_ok {d : D} (h : isE d = false) : F_is_value [d] = some (.ok (.bl (valueB d)) .non) := by
  have hn : dNeg (.int 1000000000) = some (.int (-1000000000)) := rfl
  cases hw : wordB d <;> simp [F_is_value, mb_is_value, whole_ok h, word_ok h, hw, hn, valueB, fnOf, startE, sSeq, sSet, sRet, sPass, sBind, bTup, bAll, bName, mIf, mOr, mAnd, mNot, mB, mUn, mBin, mVar, mC, mFn, mCons, mNil, mTup, mLst, mCall, mCall0, mChain, mAndV, mOrV, mNotV, mSl, mSome, mNone, M.bind, M.pure, M.opt, mFail, ioOut, Option.map_some, List.map_cons, List.map_nil, List.length_cons, List.length_nil, List.cons_append, List.nil_append, List.replicate_succ, List.replicate_zero, Nat.reduceSub, Nat.reduceAdd, List.getElem?_cons_zero, List.getElem?_cons_succ, List.set_cons_zero, List.set_cons_succ, Bool.not_true, Bool.not_false, Bool.false_eq_true, if_true, if_false, ite_true, ite_false, reduceIte]
mutual
/-- no error within -/
def gd : D → Bool
  | .tup ds => gds ds
  | .lst ds => gds ds
  | .dct ks vs => ks.isEmpty && vs.isEmpty
  | _ => true
def gds : List D → Bool
  | [] => true
  | d :: r => gd d && gds r
end
theorem gd_e {d : D} (h : gd d = true) : isE d = false := by
  cases d with
  | dct ks vs =>
    rw [gd, Bool.and_eq_true, List.isEmpty_iff, List.isEmpty_iff] at h
    rw [h.1, h.2]; rfl
  | _ => rfl
theorem gds_mem : ∀ {ds : List D} {d : D}, gds ds = true → d ∈ ds → gd d = true
  | [], _, _, h => by cases h
  | e :: r, d, g, h => by
    rw [gds, Bool.and_eq_true] at g
    rcases List.mem_cons.mp h with rfl | h
    · exact g.1
    · exact gds_mem g.2 h
def idB : D → Bool
  | .tup [a, b, c] => wholeB 0 7 a && (nameB b && wholeB 0 1000000 c)
  | _ => false
def deedNameB : D → Bool
  | .tup [a, b, c, d] => nameB a && (wholeB 0 7 b && (nameB c && wholeB 0 1000000 d))
  | _ => false
theorem ne_int (i j : Int) : dNe2 (.int i) (.int j) = some (.bl (!(i == j))) := by
  unfold dNe2
  rw [if_pos ⟨rfl, rfl, Nat.zero_le _, Nat.zero_le _⟩]
  rfl
theorem len_tup (ds : List D) : dLen [.tup ds] = some (.int ds.length) := rfl
end K37
set_option maxHeartbeats 0
namespace K37
open PySem PySem.Spec PyProof.Rows L2 Bx
section
variable {P : Program} {w : World} {K : PySem.W.Frag} {mg : Str → Option Value} {base : Heap}
noncomputable def mb_is_id : M Fl := (sSeq (mIf (mOr (mNot (mB (mUn (dIsi "tuple") (mVar 0)))) (mB (mBin dNe2 (mFn dLen (mCons (mVar 0) mNil)) (mC (.int 3))))) (sRet (mC (.bl false))) sPass) (sSeq (sBind (bTup [(bName 1), (bName 2), (bName 3)]) (mVar 0)) (sRet (mAndV (mCall F_is_hand (mCons (mVar 1) mNil)) (mAndV (mCall F_is_name (mCons (mVar 2) mNil)) (mCall F_is_whole (mCons (mVar 3) (mCons (mC (.int 0)) (mCons (mC (.int 1000000)) mNil)))))))))
noncomputable def F_is_id : List D → Option FR := fnOf 4 none mb_is_id
theorem ok_is_id {k : Nat} (T : Txt K mg) : FnOk P w K mg base CX0 (k + 3) T.f_is_id T.d_is_id ["thing"] (spF (UU P w K T) none 1 F_is_id) :=
  fn_data (own := []) (io := none) (mb := mb_is_id) (U := (UU P w K T)) (k := k + 2) T.F_is_id sc_is_id (by decide) (by decide) (fun j hj => nomatch hj) fun cdv A outer s H E hr => fun pa A2 => ⟨_, (dss_cons (ds_if (dt_w (dw_or (dt_not (dt_val (de_isi (Ts := "tuple") ⟨rfl, rfl, rfl⟩ (by rfl) T.n_isinstance (de_var (i := 0)) (by unfold okT; decide) (by rfl) T.n_tuple (by decide +kernel)))) (dw_or1 (dt_cmp (o_ne (room200 hr)) (de_callB (o_len ⟨rfl, rfl, rfl⟩) (by rfl) T.n_len (by decide +kernel) (da_cons (de_var (i := 0)) da_nil)) de_int (nomark _))))) (dss_one (ds_ret de_bl)) dss_nil) (dss_cons (ds_asg (vs := [1, 2, 3]) (de_var (i := 0)) (dg_tup rfl (dgs_cons (dg_name (i := 1) sc_is_id.nd rfl (Or.inl rfl) (of_decide_eq_false rfl) (by decide)) (dgs_cons (dg_name (i := 2) sc_is_id.nd rfl (Or.inl rfl) (of_decide_eq_false rfl) (by decide)) (dgs_cons (dg_name (i := 3) sc_is_id.nd rfl (Or.inl rfl) (of_decide_eq_false rfl) (by decide)) dgs_nil))))) (dss_one (ds_ret (de_and (de_call (ok_is_hand T) hr (by rfl) T.g_is_hand T.F_is_hand.kp T.b_is_hand (da_cons (de_var (i := 1)) da_nil) (many_cons many_nil)) (de_and (de_call (ok_is_name T) hr (by rfl) T.g_is_name T.F_is_name.kp T.b_is_name (da_cons (de_var (i := 2)) da_nil) (many_cons many_nil)) (de_one (de_call (ok_is_whole T) hr (by rfl) T.g_is_whole T.F_is_whole.kp T.b_is_whole (da_cons (de_var (i := 3)) (da_cons de_int (da_cons (de_globI (by rfl) T.c_MOST_NUMBER ⟨_, rfl⟩) da_nil))) (many_cons (many_cons (many_cons many_nil)))))))))))⟩
end
end K37
set_option maxHeartbeats 0
namespace K37
open PySem PySem.Spec PyProof.Rows L2 Bx
section
variable {P : Program} {w : World} {K : PySem.W.Frag} {mg : Str → Option Value} {base : Heap}
noncomputable def mb_is_deed_name : M Fl := (sSeq (mIf (mOr (mNot (mB (mUn (dIsi "tuple") (mVar 0)))) (mB (mBin dNe2 (mFn dLen (mCons (mVar 0) mNil)) (mC (.int 4))))) (sRet (mC (.bl false))) sPass) (sSeq (sBind (bTup [(bName 1), (bName 2), (bName 3), (bName 4)]) (mVar 0)) (sRet (mAndV (mCall F_is_name (mCons (mVar 1) mNil)) (mAndV (mCall F_is_hand (mCons (mVar 2) mNil)) (mAndV (mCall F_is_name (mCons (mVar 3) mNil)) (mCall F_is_whole (mCons (mVar 4) (mCons (mC (.int 0)) (mCons (mC (.int 1000000)) mNil))))))))))
noncomputable def F_is_deed_name : List D → Option FR := fnOf 5 none mb_is_deed_name
theorem ok_is_deed_name {k : Nat} (T : Txt K mg) : FnOk P w K mg base CX0 (k + 3) T.f_is_deed_name T.d_is_deed_name ["thing"] (spF (UU P w K T) none 1 F_is_deed_name) :=
  fn_data (own := []) (io := none) (mb := mb_is_deed_name) (U := (UU P w K T)) (k := k + 2) T.F_is_deed_name sc_is_deed_name (by decide) (by decide) (fun j hj => nomatch hj) fun cdv A outer s H E hr => fun pa A2 => ⟨_, (dss_cons (ds_if (dt_w (dw_or (dt_not (dt_val (de_isi (Ts := "tuple") ⟨rfl, rfl, rfl⟩ (by rfl) T.n_isinstance (de_var (i := 0)) (by unfold okT; decide) (by rfl) T.n_tuple (by decide +kernel)))) (dw_or1 (dt_cmp (o_ne (room200 hr)) (de_callB (o_len ⟨rfl, rfl, rfl⟩) (by rfl) T.n_len (by decide +kernel) (da_cons (de_var (i := 0)) da_nil)) de_int (nomark _))))) (dss_one (ds_ret de_bl)) dss_nil) (dss_cons (ds_asg (vs := [1, 2, 3, 4]) (de_var (i := 0)) (dg_tup rfl (dgs_cons (dg_name (i := 1) sc_is_deed_name.nd rfl (Or.inl rfl) (of_decide_eq_false rfl) (by decide)) (dgs_cons (dg_name (i := 2) sc_is_deed_name.nd rfl (Or.inl rfl) (of_decide_eq_false rfl) (by decide)) (dgs_cons (dg_name (i := 3) sc_is_deed_name.nd rfl (Or.inl rfl) (of_decide_eq_false rfl) (by decide)) (dgs_cons (dg_name (i := 4) sc_is_deed_name.nd rfl (Or.inl rfl) (of_decide_eq_false rfl) (by decide)) dgs_nil)))))) (dss_one (ds_ret (de_and (de_call (ok_is_name T) hr (by rfl) T.g_is_name T.F_is_name.kp T.b_is_name (da_cons (de_var (i := 1)) da_nil) (many_cons many_nil)) (de_and (de_call (ok_is_hand T) hr (by rfl) T.g_is_hand T.F_is_hand.kp T.b_is_hand (da_cons (de_var (i := 2)) da_nil) (many_cons many_nil)) (de_and (de_call (ok_is_name T) hr (by rfl) T.g_is_name T.F_is_name.kp T.b_is_name (da_cons (de_var (i := 3)) da_nil) (many_cons many_nil)) (de_one (de_call (ok_is_whole T) hr (by rfl) T.g_is_whole T.F_is_whole.kp T.b_is_whole (da_cons (de_var (i := 4)) (da_cons de_int (da_cons (de_globI (by rfl) T.c_MOST_NUMBER ⟨_, rfl⟩) da_nil))) (many_cons (many_cons (many_cons many_nil))))))))))))⟩
end
end K37
set_option maxHeartbeats 1000000
namespace K37
open PySem PySem.Spec PyProof.Rows L2 Bx
theorem id_ok {d : D} (h : gd d = true) : F_is_id [d] = some (.ok (.bl (idB d)) .non) := by
  have h1 := isi_of (T := "tuple") (gd_e h)
  cases d with
  | tup ds =>
    match ds, h with
    | [a, b, c], h =>
      have ga := gd_e (gds_mem (d := a) (by rwa [gd] at h) (by simp))
      have gb := gd_e (gds_mem (d := b) (by rwa [gd] at h) (by simp))
      have gc := gd_e (gds_mem (d := c) (by rwa [gd] at h) (by simp))
      cases ha : wholeB 0 7 a <;> cases hb : nameB b <;> simp [F_is_id, mb_is_id, h1, D.kind, isK, len_tup, ne_int, hand_ok ga, name_ok gb, whole_ok gc, ha, hb, idB, fnOf, startE, sSeq, sSet, sRet, sPass, sBind, bTup, bAll, bName, mIf, mOr, mAnd, mNot, mB, mUn, mBin, mVar, mC, mFn, mCons, mNil, mTup, mLst, mCall, mCall0, mChain, mAndV, mOrV, mNotV, mSl, mSome, mNone, M.bind, M.pure, M.opt, mFail, ioOut, Option.map_some, List.map_cons, List.map_nil, List.length_cons, List.length_nil, List.cons_append, List.nil_append, List.replicate_succ, List.replicate_zero, Nat.reduceSub, Nat.reduceAdd, List.getElem?_cons_zero, List.getElem?_cons_succ, List.set_cons_zero, List.set_cons_succ, Bool.not_true, Bool.not_false, Bool.false_eq_true, if_true, if_false, ite_true, ite_false, reduceIte]
    | [], _ => simp [F_is_id, mb_is_id, h1, D.kind, isK, len_tup, ne_int, idB, fnOf, startE, sSeq, sSet, sRet, sPass, sBind, bTup, bAll, bName, mIf, mOr, mAnd, mNot, mB, mUn, mBin, mVar, mC, mFn, mCons, mNil, mTup, mLst, mCall, mCall0, mChain, mAndV, mOrV, mNotV, mSl, mSome, mNone, M.bind, M.pure, M.opt, mFail, ioOut, Option.map_some, List.map_cons, List.map_nil, List.length_cons, List.length_nil, List.cons_append, List.nil_append, List.replicate_succ, List.replicate_zero, Nat.reduceSub, Nat.reduceAdd, List.getElem?_cons_zero, List.getElem?_cons_succ, List.set_cons_zero, List.set_cons_succ, Bool.not_true, Bool.not_false, Bool.false_eq_true, if_true, if_false, ite_true, ite_false, reduceIte]
    | [a], _ => simp [F_is_id, mb_is_id, h1, D.kind, isK, len_tup, ne_int, idB, fnOf, startE, sSeq, sSet, sRet, sPass, sBind, bTup, bAll, bName, mIf, mOr, mAnd, mNot, mB, mUn, mBin, mVar, mC, mFn, mCons, mNil, mTup, mLst, mCall, mCall0, mChain, mAndV, mOrV, mNotV, mSl, mSome, mNone, M.bind, M.pure, M.opt, mFail, ioOut, Option.map_some, List.map_cons, List.map_nil, List.length_cons, List.length_nil, List.cons_append, List.nil_append, List.replicate_succ, List.replicate_zero, Nat.reduceSub, Nat.reduceAdd, List.getElem?_cons_zero, List.getElem?_cons_succ, List.set_cons_zero, List.set_cons_succ, Bool.not_true, Bool.not_false, Bool.false_eq_true, if_true, if_false, ite_true, ite_false, reduceIte]
    | [a, b], _ => simp [F_is_id, mb_is_id, h1, D.kind, isK, len_tup, ne_int, idB, fnOf, startE, sSeq, sSet, sRet, sPass, sBind, bTup, bAll, bName, mIf, mOr, mAnd, mNot, mB, mUn, mBin, mVar, mC, mFn, mCons, mNil, mTup, mLst, mCall, mCall0, mChain, mAndV, mOrV, mNotV, mSl, mSome, mNone, M.bind, M.pure, M.opt, mFail, ioOut, Option.map_some, List.map_cons, List.map_nil, List.length_cons, List.length_nil, List.cons_append, List.nil_append, List.replicate_succ, List.replicate_zero, Nat.reduceSub, Nat.reduceAdd, List.getElem?_cons_zero, List.getElem?_cons_succ, List.set_cons_zero, List.set_cons_succ, Bool.not_true, Bool.not_false, Bool.false_eq_true, if_true, if_false, ite_true, ite_false, reduceIte]
    | a :: b :: c :: e :: r, _ =>
      have hn : dNe2 (.int ((a :: b :: c :: e :: r).length : Nat)) (.int 3) = some (.bl true) := by
        rw [ne_int]
        have : (((a :: b :: c :: e :: r).length : Int) == 3) = false := beq_false_of_ne (by simp only [List.length_cons]; omega)
        rw [this]; rfl
      have hl := len_tup (a :: b :: c :: e :: r)
      have hi : idB (.tup (a :: b :: c :: e :: r)) = false := rfl
      generalize (a :: b :: c :: e :: r) = ds at *
      simp [F_is_id, mb_is_id, h1, D.kind, isK, hl, hn, hi, fnOf, startE, sSeq, sSet, sRet, sPass, sBind, bTup, bAll, bName, mIf, mOr, mAnd, mNot, mB, mUn, mBin, mVar, mC, mFn, mCons, mNil, mTup, mLst, mCall, mCall0, mChain, mAndV, mOrV, mNotV, mSl, mSome, mNone, M.bind, M.pure, M.opt, mFail, ioOut, Option.map_some, List.map_cons, List.map_nil, List.length_cons, List.length_nil, List.cons_append, List.nil_append, List.replicate_succ, List.replicate_zero, Nat.reduceSub, Nat.reduceAdd, List.getElem?_cons_zero, List.getElem?_cons_succ, List.set_cons_zero, List.set_cons_succ, Bool.not_true, Bool.not_false, Bool.false_eq_true, if_true, if_false, ite_true, ite_false, reduceIte]
  | _ => simp [F_is_id, mb_is_id, h1, D.kind, isK, idB, fnOf, startE, sSeq, sSet, sRet, sPass, sBind, bTup, bAll, bName, mIf, mOr, mAnd, mNot, mB, mUn, mBin, mVar, mC, mFn, mCons, mNil, mTup, mLst, mCall, mCall0, mChain, mAndV, mOrV, mNotV, mSl, mSome, mNone, M.bind, M.pure, M.opt, mFail, ioOut, Option.map_some, List.map_cons, List.map_nil, List.length_cons, List.length_nil, List.cons_append, List.nil_append, List.replicate_succ, List.replicate_zero, Nat.reduceSub, Nat.reduceAdd, List.getElem?_cons_zero, List.getElem?_cons_succ, List.set_cons_zero, List.set_cons_succ, Bool.not_true, Bool.not_false, Bool.false_eq_true, if_true, if_false, ite_true, ite_false, reduceIte]
theorem deed_name_ok {d : D} (h : gd d = true) : F_is_deed_name [d] = some (.ok (.bl (deedNameB d)) .non) := by
  have h1 := isi_of (T := "tuple") (gd_e h)
  cases d with
  | tup ds =>
    match ds, h with
    | [a, b, c, e], h =>
      have ga := gd_e (gds_mem (d := a) (by rwa [gd] at h) (by simp))
      have gb := gd_e (gds_mem (d := b) (by rwa [gd] at h) (by simp))
      have gc := gd_e (gds_mem (d := c) (by rwa [gd] at h) (by simp))
      have ge := gd_e (gds_mem (d := e) (by rwa [gd] at h) (by simp))
      cases ha : nameB a <;> cases hb : wholeB 0 7 b <;> cases hc : nameB c <;> simp [F_is_deed_name, mb_is_deed_name, h1, D.kind, isK, len_tup, ne_int, name_ok ga, hand_ok gb, name_ok gc, whole_ok ge, ha, hb, hc, deedNameB, fnOf, startE, sSeq, sSet, sRet, sPass, sBind, bTup, bAll, bName, mIf, mOr, mAnd, mNot, mB, mUn, mBin, mVar, mC, mFn, mCons, mNil, mTup, mLst, mCall, mCall0, mChain, mAndV, mOrV, mNotV, mSl, mSome, mNone, M.bind, M.pure, M.opt, mFail, ioOut, Option.map_some, List.map_cons, List.map_nil, List.length_cons, List.length_nil, List.cons_append, List.nil_append, List.replicate_succ, List.replicate_zero, Nat.reduceSub, Nat.reduceAdd, List.getElem?_cons_zero, List.getElem?_cons_succ, List.set_cons_zero, List.set_cons_succ, Bool.not_true, Bool.not_false, Bool.false_eq_true, if_true, if_false, ite_true, ite_false, reduceIte]
    | [], _ => simp [F_is_deed_name, mb_is_deed_name, h1, D.kind, isK, len_tup, ne_int, deedNameB, fnOf, startE, sSeq, sSet, sRet, sPass, sBind, bTup, bAll, bName, mIf, mOr, mAnd, mNot, mB, mUn, mBin, mVar, mC, mFn, mCons, mNil, mTup, mLst, mCall, mCall0, mChain, mAndV, mOrV, mNotV, mSl, mSome, mNone, M.bind, M.pure, M.opt, mFail, ioOut, Option.map_some, List.map_cons, List.map_nil, List.length_cons, List.length_nil, List.cons_append, List.nil_append, List.replicate_succ, List.replicate_zero, Nat.reduceSub, Nat.reduceAdd, List.getElem?_cons_zero, List.getElem?_cons_succ, List.set_cons_zero, List.set_cons_succ, Bool.not_true, Bool.not_false, Bool.false_eq_true, if_true, if_false, ite_true, ite_false, reduceIte]
    | [a], _ => simp [F_is_deed_name, mb_is_deed_name, h1, D.kind, isK, len_tup, ne_int, deedNameB, fnOf, startE, sSeq, sSet, sRet, sPass, sBind, bTup, bAll, bName, mIf, mOr, mAnd, mNot, mB, mUn, mBin, mVar, mC, mFn, mCons, mNil, mTup, mLst, mCall, mCall0, mChain, mAndV, mOrV, mNotV, mSl, mSome, mNone, M.bind, M.pure, M.opt, mFail, ioOut, Option.map_some, List.map_cons, List.map_nil, List.length_cons, List.length_nil, List.cons_append, List.nil_append, List.replicate_succ, List.replicate_zero, Nat.reduceSub, Nat.reduceAdd, List.getElem?_cons_zero, List.getElem?_cons_succ, List.set_cons_zero, List.set_cons_succ, Bool.not_true, Bool.not_false, Bool.false_eq_true, if_true, if_false, ite_true, ite_false, reduceIte]
    | [a, b], _ => simp [F_is_deed_name, mb_is_deed_name, h1, D.kind, isK, len_tup, ne_int, deedNameB, fnOf, startE, sSeq, sSet, sRet, sPass, sBind, bTup, bAll, bName, mIf, mOr, mAnd, mNot, mB, mUn, mBin, mVar, mC, mFn, mCons, mNil, mTup, mLst, mCall, mCall0, mChain, mAndV, mOrV, mNotV, mSl, mSome, mNone, M.bind, M.pure, M.opt, mFail, ioOut, Option.map_some, List.map_cons, List.map_nil, List.length_cons, List.length_nil, List.cons_append, List.nil_append, List.replicate_succ, List.replicate_zero, Nat.reduceSub, Nat.reduceAdd, List.getElem?_cons_zero, List.getElem?_cons_succ, List.set_cons_zero, List.set_cons_succ, Bool.not_true, Bool.not_false, Bool.false_eq_true, if_true, if_false, ite_true, ite_false, reduceIte]
    | [a, b, c], _ => simp [F_is_deed_name, mb_is_deed_name, h1, D.kind, isK, len_tup, ne_int, deedNameB, fnOf, startE, sSeq, sSet, sRet, sPass, sBind, bTup, bAll, bName, mIf, mOr, mAnd, mNot, mB, mUn, mBin, mVar, mC, mFn, mCons, mNil, mTup, mLst, mCall, mCall0, mChain, mAndV, mOrV, mNotV, mSl, mSome, mNone, M.bind, M.pure, M.opt, mFail, ioOut, Option.map_some, List.map_cons, List.map_nil, List.length_cons, List.length_nil, List.cons_append, List.nil_append, List.replicate_succ, List.replicate_zero, Nat.reduceSub, Nat.reduceAdd, List.getElem?_cons_zero, List.getElem?_cons_succ, List.set_cons_zero, List.set_cons_succ, Bool.not_true, Bool.not_false, Bool.false_eq_true, if_true, if_false, ite_true, ite_false, reduceIte]
    | a :: b :: c :: e :: f :: r, _ =>
      have hn : dNe2 (.int ((a :: b :: c :: e :: f :: r).length : Nat)) (.int 4) = some (.bl true) := by
        rw [ne_int]
        have : (((a :: b :: c :: e :: f :: r).length : Int) == 4) = false := beq_false_of_ne (by simp only [List.length_cons]; omega)
        rw [this]; rfl
      have hl := len_tup (a :: b :: c :: e :: f :: r)
      have hi : deedNameB (.tup (a :: b :: c :: e :: f :: r)) = false := rfl
      generalize (a :: b :: c :: e :: f :: r) = ds at *
      simp [F_is_deed_name, mb_is_deed_name, h1, D.kind, isK, hl, hn, hi, fnOf, startE, sSeq, sSet, sRet, sPass, sBind, bTup, bAll, bName, mIf, mOr, mAnd, mNot, mB, mUn, mBin, mVar, mC, mFn, mCons, mNil, mTup, mLst, mCall, mCall0, mChain, mAndV, mOrV, mNotV, mSl, mSome, mNone, M.bind, M.pure, M.opt, mFail, ioOut, Option.map_some, List.map_cons, List.map_nil, List.length_cons, List.length_nil, List.cons_append, List.nil_append, List.replicate_succ, List.replicate_zero, Nat.reduceSub, Nat.reduceAdd, List.getElem?_cons_zero, List.getElem?_cons_succ, List.set_cons_zero, List.set_cons_succ, Bool.not_true, Bool.not_false, Bool.false_eq_true, if_true, if_false, ite_true, ite_false, reduceIte]
  | _ => simp [F_is_deed_name, mb_is_deed_name, h1, D.kind, isK, deedNameB, fnOf, startE, sSeq, sSet, sRet, sPass, sBind, bTup, bAll, bName, mIf, mOr, mAnd, mNot, mB, mUn, mBin, mVar, mC, mFn, mCons, mNil, mTup, mLst, mCall, mCall0, mChain, mAndV, mOrV, mNotV, mSl, mSome, mNone, M.bind, M.pure, M.opt, mFail, ioOut, Option.map_some, List.map_cons, List.map_nil, List.length_cons, List.length_nil, List.cons_append, List.nil_append, List.replicate_succ, List.replicate_zero, Nat.reduceSub, Nat.reduceAdd, List.getElem?_cons_zero, List.getElem?_cons_succ, List.set_cons_zero, List.set_cons_succ, Bool.not_true, Bool.not_false, Bool.false_eq_true, if_true, if_false, ite_true, ite_false, reduceIte]
end K37
set_option maxHeartbeats 0
namespace K37
open PySem PySem.Spec PyProof.Rows L2 Bx
section
variable {P : Program} {w : World} {K : PySem.W.Frag} {mg : Str → Option Value} {base : Heap}
noncomputable def mb_rises : M Fl := (sRet (mFn dAll (mCons (mComp [1, 2] (bTup [(bName 1), (bName 2)]) mYes (mBin dLt (mVar 1) (mVar 2)) (mZip (mCons (mVar 0) (mCons (mSl dSl (mVar 0) (mSome (mC (.int 1))) mNone) mNil)))) mNil)))
noncomputable def F_rises : List D → Option FR := fnOf 3 none mb_rises
theorem ok_rises {k : Nat} (T : Txt K mg) : FnOk P w K mg base CX0 (k + 1) T.f_rises T.d_rises ["things"] (spF (UU P w K T) none 1 F_rises) :=
  fn_data (own := []) (io := none) (mb := mb_rises) (U := (UU P w K T)) (k := k + 0) T.F_rises sc_rises (by decide) (by decide) (fun j hj => nomatch hj) fun cdv A outer s H E hr => fun pa A2 => ⟨_, (dss_one (ds_ret (de_callB (o_all rfl ⟨rfl, rfl, rfl⟩) (by rfl) T.n_all (by decide +kernel) (da_cons (DF.de (df_comp (g := gTup K 2 (gCons (gName 1) (gCons (gName 2) gNil))) rfl sc_rises.nd (di_zip (by rfl) T.n_zip (de_var (i := 0)) (de_sl (o_sl ⟨rfl, rfl, rfl⟩) (de_var (i := 0)) (do_some de_int) do_none)) (blkOk_by (own := [("low", 1), ("high", 2)]) (N := N_rises) (sc := defScope s_rises) (by decide +kernel)) rfl (of_decide_eq_true rfl) (fun _ _ _ _ _ _ _ => (dg_tup rfl (dgs_cons (dg_name (i := 1) sc_rises.nd rfl (Or.inl rfl) (of_decide_eq_false rfl) (by decide)) (dgs_cons (dg_name (i := 2) sc_rises.nd rfl (Or.inl rfl) (of_decide_eq_false rfl) (by decide)) dgs_nil)))) (fun _ _ _ _ _ _ _ => dts_nil) (fun _ _ _ _ _ _ _ => (de_cmp (o_lt (room200 hr)) (de_var (i := 1)) (de_var (i := 2)) (nomark _))))) da_nil))))⟩
end
end K37
set_option maxHeartbeats 0
namespace K37
open PySem PySem.Spec PyProof.Rows L2 Bx
section
variable {P : Program} {w : World} {K : PySem.W.Frag} {mg : Str → Option Value} {base : Heap}
noncomputable def mb__may_be_else : M Fl := (sRet (mOrV (mBin dIs (mVar 0) (mC .non)) (mCall F_is_value (mCons (mVar 0) mNil))))
noncomputable def F__may_be_else : List D → Option FR := fnOf 1 none mb__may_be_else
theorem ok__may_be_else {k : Nat} (T : Txt K mg) : FnOk P w K mg base CX0 (k + 3) T.f__may_be_else T.d__may_be_else ["thing"] (spF (UU P w K T) none 1 F__may_be_else) :=
  fn_data (own := []) (io := none) (mb := mb__may_be_else) (U := (UU P w K T)) (k := k + 2) T.F__may_be_else sc__may_be_else (by decide) (by decide) (fun j hj => nomatch hj) fun cdv A outer s H E hr => fun pa A2 => ⟨_, (dss_one (ds_ret (de_or (de_cmp o_is (de_var (i := 0)) de_non (nomark _)) (de_one (de_call (ok_is_value T) hr (by rfl) T.g_is_value T.F_is_value.kp T.b_is_value (da_cons (de_var (i := 0)) da_nil) (many_cons many_nil))))))⟩
noncomputable def mb__is_cell : M Fl := (sRet (mAndV (mUn (dIsi "tuple") (mVar 0)) (mAndV (mBin dEq (mFn dLen (mCons (mVar 0) mNil)) (mC (.int 2))) (mAndV (mCall F_is_id (mCons (mBin dIx (mVar 0) (mC (.int 0))) mNil)) (mCall F_is_value (mCons (mBin dIx (mVar 0) (mC (.int 1))) mNil))))))
noncomputable def F__is_cell : List D → Option FR := fnOf 1 none mb__is_cell
theorem ok__is_cell {k : Nat} (T : Txt K mg) : FnOk P w K mg base CX0 (k + 4) T.f__is_cell T.d__is_cell ["thing"] (spF (UU P w K T) none 1 F__is_cell) :=
  fn_data (own := []) (io := none) (mb := mb__is_cell) (U := (UU P w K T)) (k := k + 3) T.F__is_cell sc__is_cell (by decide) (by decide) (fun j hj => nomatch hj) fun cdv A outer s H E hr => fun pa A2 => ⟨_, (dss_one (ds_ret (de_and (de_isi (Ts := "tuple") ⟨rfl, rfl, rfl⟩ (by rfl) T.n_isinstance (de_var (i := 0)) (by unfold okT; decide) (by rfl) T.n_tuple (by decide +kernel)) (de_and (de_cmp (o_eq ⟨rfl, rfl, rfl⟩ (room200 hr)) (de_callB (o_len ⟨rfl, rfl, rfl⟩) (by rfl) T.n_len (by decide +kernel) (da_cons (de_var (i := 0)) da_nil)) de_int (nomark _)) (de_and (de_call (ok_is_id T) hr (by rfl) T.g_is_id T.F_is_id.kp T.b_is_id (da_cons (de_ix (o_ix ⟨rfl, rfl, rfl⟩) (de_var (i := 0)) de_int (fun _ _ => rfl)) da_nil) (many_cons many_nil)) (de_one (de_call (ok_is_value T) hr (by rfl) T.g_is_value T.F_is_value.kp T.b_is_value (da_cons (de_ix (o_ix ⟨rfl, rfl, rfl⟩) (de_var (i := 0)) de_int (fun _ _ => rfl)) da_nil) (many_cons many_nil))))))))⟩
noncomputable def mb__are_cells : M Fl := (sSeq (mIf (mOr (mNot (mB (mUn (dIsi "tuple") (mVar 0)))) (mB (mBin dGt (mFn dLen (mCons (mVar 0) mNil)) (mC (.int 6))))) (sRet (mC (.bl false))) sPass) (sRet (mAndV (mFn dAll (mCons (mComp [1] (bName 1) mYes (mCall F__is_cell (mCons (mVar 1) mNil)) (mSeq (mVar 0))) mNil)) (mCall F_rises (mCons (mComp [2, 3] (bTup [(bName 2), (bName 3)]) mYes (mVar 2) (mSeq (mVar 0))) mNil)))))
noncomputable def F__are_cells : List D → Option FR := fnOf 4 none mb__are_cells
theorem ok__are_cells {k : Nat} (T : Txt K mg) : FnOk P w K mg base CX0 (k + 5) T.f__are_cells T.d__are_cells ["thing"] (spF (UU P w K T) none 1 F__are_cells) :=
  fn_data (own := []) (io := none) (mb := mb__are_cells) (U := (UU P w K T)) (k := k + 4) T.F__are_cells sc__are_cells (by decide) (by decide) (fun j hj => nomatch hj) fun cdv A outer s H E hr => fun pa A2 => ⟨_, (dss_cons (ds_if (dt_w (dw_or (dt_not (dt_val (de_isi (Ts := "tuple") ⟨rfl, rfl, rfl⟩ (by rfl) T.n_isinstance (de_var (i := 0)) (by unfold okT; decide) (by rfl) T.n_tuple (by decide +kernel)))) (dw_or1 (dt_cmp o_gt (de_callB (o_len ⟨rfl, rfl, rfl⟩) (by rfl) T.n_len (by decide +kernel) (da_cons (de_var (i := 0)) da_nil)) (de_globI (by rfl) T.c_MOST_CELLS ⟨_, rfl⟩) (nomark _))))) (dss_one (ds_ret de_bl)) dss_nil) (dss_one (ds_ret (de_and (de_callB (o_all rfl ⟨rfl, rfl, rfl⟩) (by rfl) T.n_all (by decide +kernel) (da_cons (DF.de (df_comp rfl sc__are_cells.nd (di_seq (de_var (i := 0))) (blkOk_by (own := [("part", 1)]) (N := N__are_cells) (sc := defScope s__are_cells) (by decide +kernel)) rfl (of_decide_eq_true rfl) (fun _ _ _ _ _ _ _ => (dg_name (i := 1) sc__are_cells.nd rfl (Or.inl rfl) (of_decide_eq_false rfl) (by decide))) (fun _ _ _ _ _ _ _ => dts_nil) (fun _ _ _ _ _ _ _ => (de_call (ok__is_cell T) hr (by rfl) T.g__is_cell T.F__is_cell.kp T.b__is_cell (da_cons (de_var (i := 1)) da_nil) (many_cons many_nil))))) da_nil)) (de_one (de_call (ok_rises T) hr (by rfl) T.g_rises T.F_rises.kp T.b_rises (da_cons (DF.de (df_comp (g := gTup K 2 (gCons (gName 2) (gCons (gName 3) gNil))) rfl sc__are_cells.nd (di_seq (de_var (i := 0))) (blkOk_by (own := [("ident", 2), ("_", 3)]) (N := N__are_cells) (sc := defScope s__are_cells) (by decide +kernel)) rfl (of_decide_eq_true rfl) (fun _ _ _ _ _ _ _ => (dg_tup rfl (dgs_cons (dg_name (i := 2) sc__are_cells.nd rfl (Or.inl rfl) (of_decide_eq_false rfl) (by decide)) (dgs_cons (dg_name (i := 3) sc__are_cells.nd rfl (Or.inl rfl) (of_decide_eq_false rfl) (by decide)) dgs_nil)))) (fun _ _ _ _ _ _ _ => dts_nil) (fun _ _ _ _ _ _ _ => (de_var (i := 2))))) da_nil) (many_cons many_nil)))))))⟩
noncomputable def mb__is_column : M Fl := (sRet (mAndV (mCall F_is_name (mCons (mVar 0) mNil)) (mAndV (mCall F_is_kind (mCons (mVar 1) mNil)) (mCall F__may_be_else (mCons (mVar 2) mNil)))))
noncomputable def F__is_column : List D → Option FR := fnOf 3 none mb__is_column
theorem ok__is_column {k : Nat} (T : Txt K mg) : FnOk P w K mg base CX0 (k + 4) T.f__is_column T.d__is_column ["name", "kind", "value"] (spF (UU P w K T) none 3 F__is_column) :=
  fn_data (own := []) (io := none) (mb := mb__is_column) (U := (UU P w K T)) (k := k + 3) T.F__is_column sc__is_column (by decide) (by decide) (fun j hj => nomatch hj) fun cdv A outer s H E hr => fun pa A2 => ⟨_, (dss_one (ds_ret (de_and (de_call (ok_is_name T) hr (by rfl) T.g_is_name T.F_is_name.kp T.b_is_name (da_cons (de_var (i := 0)) da_nil) (many_cons many_nil)) (de_and (de_call (ok_is_kind T) hr (by rfl) T.g_is_kind T.F_is_kind.kp T.b_is_kind (da_cons (de_var (i := 1)) da_nil) (many_cons many_nil)) (de_one (de_call (ok__may_be_else T) hr (by rfl) T.g__may_be_else T.F__may_be_else.kp T.b__may_be_else (da_cons (de_var (i := 2)) da_nil) (many_cons many_nil)))))))⟩
end
end K37
namespace Bx
open PySem PySem.Spec PyProof.Rows L2
/-- a comprehension whose turns leave the slots as they were -/
theorem comp_gen {vs : List Nat} {b : Bd} {c : M Bool} {e : M D} {ρ : Env} (g : D → Bool) (f : D → D) : ∀ (ds acc : List D), (∀ d ∈ ds, ∃ ρ1, b d (wipeE ρ vs) = some ρ1 ∧ c ρ1 = some (.ok (g d) ρ1) ∧ (g d = true → e ρ1 = some (.ok (f d) ρ1)) ∧ putBack ρ vs ρ1 = ρ) → acc.length + ds.length ≤ maxL →
    compL vs b c e ds acc ρ = some (acc ++ (ds.filter g).map f, ρ)
  | [], acc, _, _ => by simp [compL]
  | d :: ds, acc, h, hl => by
    obtain ⟨ρ1, h1, h2, h3, h4⟩ := h d (by simp)
    have hl2 : acc.length + (ds.length + 1) ≤ maxL := hl
    rw [compL, h1]
    simp only [h2]
    cases hg : g d with
    | false =>
      simp only [h4]
      rw [comp_gen g f ds acc (fun d' m => h d' (by simp [m])) (by omega), List.filter_cons_of_neg (by simp [hg])]
    | true =>
      simp only [h3 hg, h4]
      rw [if_pos (by omega), comp_gen g f ds _ (fun d' m => h d' (by simp [m])) (by simp; omega), List.filter_cons_of_pos (by simp [hg])]
      simp
theorem mComp_of {vs : List Nat} {b : Bd} {c : M Bool} {e : M D} {mi : M (List D)} {ρ ρ' : Env} {ds : List D} (hi : mi ρ = some (.ok ds ρ')) (g : D → Bool) (f : D → D) (h : ∀ d ∈ ds, ∃ ρ1, b d (wipeE ρ' vs) = some ρ1 ∧ c ρ1 = some (.ok (g d) ρ1) ∧ (g d = true → e ρ1 = some (.ok (f d) ρ1)) ∧ putBack ρ' vs ρ1 = ρ') (hl : ds.length ≤ maxL) :
    mComp vs b c e mi ρ = some (.ok (.lst ((ds.filter g).map f)) ρ') := by
  unfold mComp
  rw [bind_ok hi]
  show (match compL vs b c e ds [] ρ' with | some (acc, ρ') => some (Rs.ok (D.lst acc) ρ') | none => none) = _
  rw [comp_gen g f ds [] h (by simpa using hl)]
  rfl
theorem cutL_one {α : Type} (xs : List α) : cutL xs (some 1) none = xs.drop 1 := by
  unfold cutL HT.sIx
  cases xs with
  | nil => rfl
  | cons a r => simp
theorem cutL_two {α : Type} (a b : α) (r : List α) : cutL (a :: b :: r) (some 2) none = r := by
  unfold cutL HT.sIx
  simp
theorem dAll_bls (bs : List Bool) : dAll [.lst (bs.map D.bl)] = some (.bl (bs.all id)) := by
  have h : ∀ bs : List Bool, boolsD (bs.map D.bl) = some bs := by
    intro bs
    induction bs with
    | nil => rfl
    | cons b r ih =>
      show (boolsD (r.map D.bl)).map (b :: ·) = _
      rw [ih]; rfl
  show (boolsD (bs.map D.bl)).map _ = _
  rw [h]; rfl
end Bx
set_option maxHeartbeats 1000000
namespace K37
open PySem PySem.Spec PyProof.Rows L2 Bx
/-- each less than the next -/
def risesB (xs : List D) : Bool := (xs.zip (xs.drop 1)).all fun p => ltD p.1 p.2
theorem zipD_mem {xs ys : List D} {d : D} (h : d ∈ zipD xs ys) : ∃ x y, d = .tup [x, y] ∧ (x, y) ∈ xs.zip ys := by
  unfold zipD at h
  obtain ⟨p, hp, rfl⟩ := List.mem_map.mp h
  exact ⟨p.1, p.2, rfl, hp⟩
def pr1 : D → D
  | .tup (x :: _) => x
  | d => d
def pr2 : D → D
  | .tup (_ :: y :: _) => y
  | d => d
theorem rises_ok {xs : List D} (hl : xs.length ≤ 100) (h : ∀ x ∈ xs, ∀ y ∈ xs, ltok x y) : F_rises [.lst xs] = some (.ok (.bl (risesB xs)) .non) := by
  have hz : mZip (mCons (mVar 0) (mCons (mSl dSl (mVar 0) (mSome (mC (.int 1))) mNone) mNil)) [some (.lst xs), none, none] = some (.ok (zipD xs (xs.drop 1)) [some (.lst xs), none, none]) := by
    have hs : dSl (.lst xs) (some 1) none = some (.lst (xs.drop 1)) := by
      show (if xs.length ≤ maxL then some (D.lst (cutL xs (some 1) none)) else none) = _
      rw [if_pos (by have : (maxL : Nat) = 1000000 := rfl; omega), cutL_one]
    simp [mZip, hs, fnOf, startE, sSeq, sSet, sRet, sPass, sBind, bTup, bAll, bName, mIf, mOr, mAnd, mNot, mB, mUn, mBin, mVar, mC, mFn, mCons, mNil, mTup, mLst, mCall, mCall0, mChain, mAndV, mOrV, mNotV, mSl, mSome, mNone, M.bind, M.pure, M.opt, mFail, ioOut, Option.map_some, List.map_cons, List.map_nil, List.length_cons, List.length_nil, List.cons_append, List.nil_append, List.replicate_succ, List.replicate_zero, Nat.reduceSub, Nat.reduceAdd, List.getElem?_cons_zero, List.getElem?_cons_succ, List.set_cons_zero, List.set_cons_succ, Bool.not_true, Bool.not_false, Bool.false_eq_true, if_true, if_false, ite_true, ite_false, reduceIte]
  have hc := mComp_of (vs := [1, 2]) (b := bTup [bName 1, bName 2]) (c := mYes) (e := mBin dLt (mVar 1) (mVar 2)) hz (fun _ => true) (fun d => .bl (ltD (pr1 d) (pr2 d))) (fun d hd => by
    obtain ⟨x, y, rfl, hm⟩ := zipD_mem hd
    have h1 := List.of_mem_zip hm
    refine ⟨[some (.lst xs), some x, some y], rfl, rfl, fun _ => ?_, rfl⟩
    have hlt : dLt x y = some (.bl (ltD x y)) := if_pos (h x h1.1 y (List.mem_of_mem_drop h1.2))
    simp [hlt, pr1, pr2, fnOf, startE, sSeq, sSet, sRet, sPass, sBind, bTup, bAll, bName, mIf, mOr, mAnd, mNot, mB, mUn, mBin, mVar, mC, mFn, mCons, mNil, mTup, mLst, mCall, mCall0, mChain, mAndV, mOrV, mNotV, mSl, mSome, mNone, M.bind, M.pure, M.opt, mFail, ioOut, Option.map_some, List.map_cons, List.map_nil, List.length_cons, List.length_nil, List.cons_append, List.nil_append, List.replicate_succ, List.replicate_zero, Nat.reduceSub, Nat.reduceAdd, List.getElem?_cons_zero, List.getElem?_cons_succ, List.set_cons_zero, List.set_cons_succ, Bool.not_true, Bool.not_false, Bool.false_eq_true, if_true, if_false, ite_true, ite_false, reduceIte]) (by
      unfold zipD
      rw [List.length_map, List.length_zip]
      have : (maxL : Nat) = 1000000 := rfl
      omega)
  rw [List.filter_eq_self.mpr (fun _ _ => rfl)] at hc
  have hb : (zipD xs (xs.drop 1)).map (fun d => D.bl (ltD (pr1 d) (pr2 d))) = ((xs.zip (xs.drop 1)).map fun p => ltD p.1 p.2).map D.bl := by
    unfold zipD
    rw [List.map_map, List.map_map]
    rfl
  rw [hb] at hc
  have ha := dAll_bls ((xs.zip (xs.drop 1)).map fun p => ltD p.1 p.2)
  have he : ((xs.zip (xs.drop 1)).map fun p => ltD p.1 p.2).all id = risesB xs := by
    unfold risesB
    rw [List.all_map]
    rfl
  rw [he] at ha
  have key : ∀ (m1 : M D) (L : List D), dAll [.lst L] = some (.bl (risesB xs)) → m1 [some (.lst xs), none, none] = some (.ok (.lst L) [some (.lst xs), none, none]) → (fnOf 3 none (sRet (mFn dAll (mCons m1 mNil)))) [.lst xs] = some (.ok (.bl (risesB xs)) .non) := fun m1 L ha hc => by
    simp [hc, ha, fnOf, startE, sSeq, sSet, sRet, sPass, sBind, bTup, bAll, bName, mIf, mOr, mAnd, mNot, mB, mUn, mBin, mVar, mC, mFn, mCons, mNil, mTup, mLst, mCall, mCall0, mChain, mAndV, mOrV, mNotV, mSl, mSome, mNone, M.bind, M.pure, M.opt, mFail, ioOut, Option.map_some, List.map_cons, List.map_nil, List.length_cons, List.length_nil, List.cons_append, List.nil_append, List.replicate_succ, List.replicate_zero, Nat.reduceSub, Nat.reduceAdd, List.getElem?_cons_zero, List.getElem?_cons_succ, List.set_cons_zero, List.set_cons_succ, Bool.not_true, Bool.not_false, Bool.false_eq_true, if_true, if_false, ite_true, ite_false, reduceIte]
  exact key _ _ ha hc
/-! cells -/
def cellB : D → Bool
  | .tup [a, b] => idB a && valueB b
  | _ => false
theorem eq_int (i j : Int) : dEq (.int i) (.int j) = some (.bl (i == j)) := by
  unfold dEq
  rw [if_pos ⟨rfl, Nat.zero_le _⟩]
  rfl
theorem cell_ok {d : D} (h : gd d = true) : F__is_cell [d] = some (.ok (.bl (cellB d)) .non) := by
  have h1 := isi_of (T := "tuple") (gd_e h)
  cases d with
  | tup ds =>
    match ds, h with
    | [a, b], h =>
      have ga := gds_mem (d := a) (by rwa [gd] at h) (by simp)
      have gb := gd_e (gds_mem (d := b) (by rwa [gd] at h) (by simp))
      have i0 : dIx (.tup [a, b]) (.int 0) = some a := rfl
      have i1 : dIx (.tup [a, b]) (.int 1) = some b := rfl
      cases ha : idB a <;> simp [F__is_cell, mb__is_cell, h1, D.kind, isK, len_tup, eq_int, i0, i1, id_ok ga, value_ok gb, ha, cellB, fnOf, startE, sSeq, sSet, sRet, sPass, sBind, bTup, bAll, bName, mIf, mOr, mAnd, mNot, mB, mUn, mBin, mVar, mC, mFn, mCons, mNil, mTup, mLst, mCall, mCall0, mChain, mAndV, mOrV, mNotV, mSl, mSome, mNone, M.bind, M.pure, M.opt, mFail, ioOut, Option.map_some, List.map_cons, List.map_nil, List.length_cons, List.length_nil, List.cons_append, List.nil_append, List.replicate_succ, List.replicate_zero, Nat.reduceSub, Nat.reduceAdd, List.getElem?_cons_zero, List.getElem?_cons_succ, List.set_cons_zero, List.set_cons_succ, Bool.not_true, Bool.not_false, Bool.false_eq_true, if_true, if_false, ite_true, ite_false, reduceIte]
    | [], _ => simp [F__is_cell, mb__is_cell, h1, D.kind, isK, len_tup, eq_int, cellB, fnOf, startE, sSeq, sSet, sRet, sPass, sBind, bTup, bAll, bName, mIf, mOr, mAnd, mNot, mB, mUn, mBin, mVar, mC, mFn, mCons, mNil, mTup, mLst, mCall, mCall0, mChain, mAndV, mOrV, mNotV, mSl, mSome, mNone, M.bind, M.pure, M.opt, mFail, ioOut, Option.map_some, List.map_cons, List.map_nil, List.length_cons, List.length_nil, List.cons_append, List.nil_append, List.replicate_succ, List.replicate_zero, Nat.reduceSub, Nat.reduceAdd, List.getElem?_cons_zero, List.getElem?_cons_succ, List.set_cons_zero, List.set_cons_succ, Bool.not_true, Bool.not_false, Bool.false_eq_true, if_true, if_false, ite_true, ite_false, reduceIte]
    | [a], _ => simp [F__is_cell, mb__is_cell, h1, D.kind, isK, len_tup, eq_int, cellB, fnOf, startE, sSeq, sSet, sRet, sPass, sBind, bTup, bAll, bName, mIf, mOr, mAnd, mNot, mB, mUn, mBin, mVar, mC, mFn, mCons, mNil, mTup, mLst, mCall, mCall0, mChain, mAndV, mOrV, mNotV, mSl, mSome, mNone, M.bind, M.pure, M.opt, mFail, ioOut, Option.map_some, List.map_cons, List.map_nil, List.length_cons, List.length_nil, List.cons_append, List.nil_append, List.replicate_succ, List.replicate_zero, Nat.reduceSub, Nat.reduceAdd, List.getElem?_cons_zero, List.getElem?_cons_succ, List.set_cons_zero, List.set_cons_succ, Bool.not_true, Bool.not_false, Bool.false_eq_true, if_true, if_false, ite_true, ite_false, reduceIte]
    | a :: b :: c :: r, _ =>
      have hn : dEq (.int ((a :: b :: c :: r).length : Nat)) (.int 2) = some (.bl false) := by
        rw [eq_int]
        have : (((a :: b :: c :: r).length : Int) == 2) = false := beq_false_of_ne (by simp only [List.length_cons]; omega)
        rw [this]
      have hl := len_tup (a :: b :: c :: r)
      have hi : cellB (.tup (a :: b :: c :: r)) = false := rfl
      generalize (a :: b :: c :: r) = ds at *
      simp [F__is_cell, mb__is_cell, h1, D.kind, isK, hl, hn, hi, fnOf, startE, sSeq, sSet, sRet, sPass, sBind, bTup, bAll, bName, mIf, mOr, mAnd, mNot, mB, mUn, mBin, mVar, mC, mFn, mCons, mNil, mTup, mLst, mCall, mCall0, mChain, mAndV, mOrV, mNotV, mSl, mSome, mNone, M.bind, M.pure, M.opt, mFail, ioOut, Option.map_some, List.map_cons, List.map_nil, List.length_cons, List.length_nil, List.cons_append, List.nil_append, List.replicate_succ, List.replicate_zero, Nat.reduceSub, Nat.reduceAdd, List.getElem?_cons_zero, List.getElem?_cons_succ, List.set_cons_zero, List.set_cons_succ, Bool.not_true, Bool.not_false, Bool.false_eq_true, if_true, if_false, ite_true, ite_false, reduceIte]
  | _ => simp [F__is_cell, mb__is_cell, h1, D.kind, isK, cellB, fnOf, startE, sSeq, sSet, sRet, sPass, sBind, bTup, bAll, bName, mIf, mOr, mAnd, mNot, mB, mUn, mBin, mVar, mC, mFn, mCons, mNil, mTup, mLst, mCall, mCall0, mChain, mAndV, mOrV, mNotV, mSl, mSome, mNone, M.bind, M.pure, M.opt, mFail, ioOut, Option.map_some, List.map_cons, List.map_nil, List.length_cons, List.length_nil, List.cons_append, List.nil_append, List.replicate_succ, List.replicate_zero, Nat.reduceSub, Nat.reduceAdd, List.getElem?_cons_zero, List.getElem?_cons_succ, List.set_cons_zero, List.set_cons_succ, Bool.not_true, Bool.not_false, Bool.false_eq_true, if_true, if_false, ite_true, ite_false, reduceIte]
/-- an id is plain -/
theorem idB_inv {d : D} (h : idB d = true) : ∃ (i j : Int) (z : Str), d = .tup [.int i, .str z, .int j] := by
  unfold idB at h
  split at h
  · rename_i a b c
    rw [Bool.and_eq_true, Bool.and_eq_true] at h
    obtain ⟨h1, h2, h3⟩ := h
    cases a <;> first | cases h1 | skip
    cases c <;> first | cases h3 | skip
    cases b <;> first | cases h2 | skip
    exact ⟨_, _, _, rfl⟩
  · cases h
theorem id_lt {d e : D} (h : idB d = true) (g : idB e = true) : ltok d e := by
  obtain ⟨i, j, z, rfl⟩ := idB_inv h
  obtain ⟨k, l, y, rfl⟩ := idB_inv g
  refine ⟨rfl, rfl, ?_, ?_⟩
  · simp [okD, okL]
  · simp [dep, deps]
theorem cellB_inv {d : D} (h : cellB d = true) : ∃ a b, d = .tup [a, b] ∧ idB a = true := by
  unfold cellB at h
  split at h
  · rename_i a b
    rw [Bool.and_eq_true] at h
    exact ⟨a, b, rfl, h.1⟩
  · cases h
def cellsB : D → Bool
  | .tup ds => decide (ds.length ≤ 6) && (ds.all cellB && risesB (ds.map pr1))
  | _ => false
theorem are_cells_ok {d : D} (h : gd d = true) : F__are_cells [d] = some (.ok (.bl (cellsB d)) .non) := by
  have h1 := isi_of (T := "tuple") (gd_e h)
  cases d with
  | tup ds =>
    have gm : ∀ x ∈ ds, gd x = true := fun x hx => gds_mem (by rwa [gd] at h) hx
    have hl := len_tup ds
    by_cases h6 : ds.length ≤ 6
    · have hg : dGt (.int ds.length) (.int 6) = some (.bl false) := by rw [dGt_int, decide_eq_false (by omega)]
      have hm : ds.length ≤ maxL := by have : (maxL : Nat) = 1000000 := rfl; omega
      have hs : mSeq (mVar 0) [some (.tup ds), none, none, none] = some (.ok ds [some (.tup ds), none, none, none]) := rfl
      have hc := mComp_of (vs := [1]) (b := bName 1) (c := mYes) (e := mCall F__is_cell (mCons (mVar 1) mNil)) hs (fun _ => true) (fun d => .bl (cellB d)) (fun d hd => by
        refine ⟨[some (.tup ds), some d, none, none], rfl, rfl, fun _ => ?_, rfl⟩
        simp [cell_ok (gm d hd), fnOf, startE, sSeq, sSet, sRet, sPass, sBind, bTup, bAll, bName, mIf, mOr, mAnd, mNot, mB, mUn, mBin, mVar, mC, mFn, mCons, mNil, mTup, mLst, mCall, mCall0, mChain, mAndV, mOrV, mNotV, mSl, mSome, mNone, M.bind, M.pure, M.opt, mFail, ioOut, Option.map_some, List.map_cons, List.map_nil, List.length_cons, List.length_nil, List.cons_append, List.nil_append, List.replicate_succ, List.replicate_zero, Nat.reduceSub, Nat.reduceAdd, List.getElem?_cons_zero, List.getElem?_cons_succ, List.set_cons_zero, List.set_cons_succ, Bool.not_true, Bool.not_false, Bool.false_eq_true, if_true, if_false, ite_true, ite_false, reduceIte]) hm
      rw [List.filter_eq_self.mpr (fun _ _ => rfl)] at hc
      have hb : ds.map (fun d => D.bl (cellB d)) = (ds.map cellB).map D.bl := by rw [List.map_map]; rfl
      rw [hb] at hc
      have ha := dAll_bls (ds.map cellB)
      have he : (ds.map cellB).all id = ds.all cellB := by rw [List.all_map]; rfl
      rw [he] at ha
      cases hall : ds.all cellB with
      | false =>
        have hv : cellsB (.tup ds) = false := by
          show (decide (ds.length ≤ 6) && (ds.all cellB && risesB (ds.map pr1))) = false
          rw [hall, Bool.false_and, Bool.and_false]
        rw [hall] at ha
        have key : ∀ (m1 m2 : M D) (L : List D), dAll [.lst L] = some (.bl false) → m1 [some (.tup ds), none, none, none] = some (.ok (.lst L) [some (.tup ds), none, none, none]) → (fnOf 4 none (sSeq (mIf (mOr (mNot (mB (mUn (dIsi "tuple") (mVar 0)))) (mB (mBin dGt (mFn dLen (mCons (mVar 0) mNil)) (mC (.int 6))))) (sRet (mC (.bl false))) sPass) (sRet (mAndV (mFn dAll (mCons m1 mNil)) (mCall F_rises (mCons m2 mNil)))))) [.tup ds] = some (.ok (.bl (cellsB (.tup ds))) .non) := fun m1 m2 L ha hc => by
          simp [h1, D.kind, isK, hl, hg, hc, ha, hv, fnOf, startE, sSeq, sSet, sRet, sPass, sBind, bTup, bAll, bName, mIf, mOr, mAnd, mNot, mB, mUn, mBin, mVar, mC, mFn, mCons, mNil, mTup, mLst, mCall, mCall0, mChain, mAndV, mOrV, mNotV, mSl, mSome, mNone, M.bind, M.pure, M.opt, mFail, ioOut, Option.map_some, List.map_cons, List.map_nil, List.length_cons, List.length_nil, List.cons_append, List.nil_append, List.replicate_succ, List.replicate_zero, Nat.reduceSub, Nat.reduceAdd, List.getElem?_cons_zero, List.getElem?_cons_succ, List.set_cons_zero, List.set_cons_succ, Bool.not_true, Bool.not_false, Bool.false_eq_true, if_true, if_false, ite_true, ite_false, reduceIte]
        exact key _ _ _ ha hc
      | true =>
        rw [hall] at ha
        have hce : ∀ x ∈ ds, cellB x = true := List.all_eq_true.mp hall
        have hc2 := mComp_of (vs := [2, 3]) (b := bTup [bName 2, bName 3]) (c := mYes) (e := mVar 2) hs (fun _ => true) pr1 (fun d hd => by
          obtain ⟨a, b, rfl, _⟩ := cellB_inv (hce d hd)
          exact ⟨[some (.tup ds), none, some a, some b], rfl, rfl, fun _ => rfl, rfl⟩) hm
        rw [List.filter_eq_self.mpr (fun _ _ => rfl)] at hc2
        have hid : ∀ x ∈ ds.map pr1, idB x = true := fun x hx => by
          obtain ⟨y, hy, rfl⟩ := List.mem_map.mp hx
          obtain ⟨a, b, rfl, q⟩ := cellB_inv (hce y hy)
          exact q
        have hr := rises_ok (xs := ds.map pr1) (by rw [List.length_map]; omega) fun x hx y hy => id_lt (hid x hx) (hid y hy)
        have hv : cellsB (.tup ds) = risesB (ds.map pr1) := by
          show (decide (ds.length ≤ 6) && (ds.all cellB && risesB (ds.map pr1))) = _
          rw [hall, decide_eq_true h6]; rfl
        have key : ∀ (m1 m2 : M D) (L L2 : List D), dAll [.lst L] = some (.bl true) → F_rises [.lst L2] = some (.ok (.bl (risesB (ds.map pr1))) .non) → m1 [some (.tup ds), none, none, none] = some (.ok (.lst L) [some (.tup ds), none, none, none]) → m2 [some (.tup ds), none, none, none] = some (.ok (.lst L2) [some (.tup ds), none, none, none]) → (fnOf 4 none (sSeq (mIf (mOr (mNot (mB (mUn (dIsi "tuple") (mVar 0)))) (mB (mBin dGt (mFn dLen (mCons (mVar 0) mNil)) (mC (.int 6))))) (sRet (mC (.bl false))) sPass) (sRet (mAndV (mFn dAll (mCons m1 mNil)) (mCall F_rises (mCons m2 mNil)))))) [.tup ds] = some (.ok (.bl (cellsB (.tup ds))) .non) := fun m1 m2 L L2 ha hr hc hc2 => by
          simp [h1, D.kind, isK, hl, hg, hc, ha, hc2, hr, hv, fnOf, startE, sSeq, sSet, sRet, sPass, sBind, bTup, bAll, bName, mIf, mOr, mAnd, mNot, mB, mUn, mBin, mVar, mC, mFn, mCons, mNil, mTup, mLst, mCall, mCall0, mChain, mAndV, mOrV, mNotV, mSl, mSome, mNone, M.bind, M.pure, M.opt, mFail, ioOut, Option.map_some, List.map_cons, List.map_nil, List.length_cons, List.length_nil, List.cons_append, List.nil_append, List.replicate_succ, List.replicate_zero, Nat.reduceSub, Nat.reduceAdd, List.getElem?_cons_zero, List.getElem?_cons_succ, List.set_cons_zero, List.set_cons_succ, Bool.not_true, Bool.not_false, Bool.false_eq_true, if_true, if_false, ite_true, ite_false, reduceIte]
        exact key _ _ _ _ ha hr hc hc2
    · have hg : dGt (.int ds.length) (.int 6) = some (.bl true) := by rw [dGt_int, decide_eq_true (by omega)]
      have hv : cellsB (.tup ds) = false := by
        show (decide (ds.length ≤ 6) && (ds.all cellB && risesB (ds.map pr1))) = false
        rw [decide_eq_false h6]; rfl
      simp [F__are_cells, mb__are_cells, h1, D.kind, isK, hl, hg, hv, fnOf, startE, sSeq, sSet, sRet, sPass, sBind, bTup, bAll, bName, mIf, mOr, mAnd, mNot, mB, mUn, mBin, mVar, mC, mFn, mCons, mNil, mTup, mLst, mCall, mCall0, mChain, mAndV, mOrV, mNotV, mSl, mSome, mNone, M.bind, M.pure, M.opt, mFail, ioOut, Option.map_some, List.map_cons, List.map_nil, List.length_cons, List.length_nil, List.cons_append, List.nil_append, List.replicate_succ, List.replicate_zero, Nat.reduceSub, Nat.reduceAdd, List.getElem?_cons_zero, List.getElem?_cons_succ, List.set_cons_zero, List.set_cons_succ, Bool.not_true, Bool.not_false, Bool.false_eq_true, if_true, if_false, ite_true, ite_false, reduceIte]
  | _ => simp [F__are_cells, mb__are_cells, h1, D.kind, isK, cellsB, fnOf, startE, sSeq, sSet, sRet, sPass, sBind, bTup, bAll, bName, mIf, mOr, mAnd, mNot, mB, mUn, mBin, mVar, mC, mFn, mCons, mNil, mTup, mLst, mCall, mCall0, mChain, mAndV, mOrV, mNotV, mSl, mSome, mNone, M.bind, M.pure, M.opt, mFail, ioOut, Option.map_some, List.map_cons, List.map_nil, List.length_cons, List.length_nil, List.cons_append, List.nil_append, List.replicate_succ, List.replicate_zero, Nat.reduceSub, Nat.reduceAdd, List.getElem?_cons_zero, List.getElem?_cons_succ, List.set_cons_zero, List.set_cons_succ, Bool.not_true, Bool.not_false, Bool.false_eq_true, if_true, if_false, ite_true, ite_false, reduceIte]
end K37
set_option maxHeartbeats 0
namespace K37
open PySem PySem.Spec PyProof.Rows L2 Bx
section
variable {P : Program} {w : World} {K : PySem.W.Frag} {mg : Str → Option Value} {base : Heap}
noncomputable def mb__is_of_two : M Fl := (sSeq (mIf (mB (mBin dEq (mVar 0) (mC (.str "put")))) (sRet (mAndV (mCall F_is_key (mCons (mVar 1) mNil)) (mCall F__are_cells (mCons (mVar 2) mNil)))) sPass) (sSeq (mIf (mB (mBin dEq (mVar 0) (mC (.str "blank")))) (sRet (mAndV (mCall F_is_key (mCons (mVar 1) mNil)) (mCall F_is_id (mCons (mVar 2) mNil)))) sPass) (sSeq (mIf (mNot (mB (mCall F_is_id (mCons (mVar 1) mNil)))) (sRet (mC (.bl false))) sPass) (sSeq (mIf (mB (mBin dEq (mVar 0) (mC (.str "call")))) (sRet (mCall F_is_name (mCons (mVar 2) mNil))) sPass) (sSeq (mIf (mB (mBin dEq (mVar 0) (mC (.str "kind")))) (sRet (mCall F_is_kind (mCons (mVar 2) mNil))) sPass) (sRet (mAndV (mBin dEq (mVar 0) (mC (.str "else"))) (mCall F__may_be_else (mCons (mVar 2) mNil)))))))))
noncomputable def F__is_of_two : List D → Option FR := fnOf 3 none mb__is_of_two
theorem ok__is_of_two {k : Nat} (T : Txt K mg) : FnOk P w K mg base CX0 (k + 6) T.f__is_of_two T.d__is_of_two ["word", "one", "two"] (spF (UU P w K T) none 3 F__is_of_two) :=
  fn_data (own := []) (io := none) (mb := mb__is_of_two) (U := (UU P w K T)) (k := k + 5) T.F__is_of_two sc__is_of_two (by decide) (by decide) (fun j hj => nomatch hj) fun cdv A outer s H E hr => fun pa A2 => ⟨_, (dss_cons (ds_if (dt_cmp (o_eq ⟨rfl, rfl, rfl⟩ (room200 hr)) (de_var (i := 0)) de_str (nomark _)) (dss_one (ds_ret (de_and (de_call (ok_is_key T) hr (by rfl) T.g_is_key T.F_is_key.kp T.b_is_key (da_cons (de_var (i := 1)) da_nil) (many_cons many_nil)) (de_one (de_call (ok__are_cells T) hr (by rfl) T.g__are_cells T.F__are_cells.kp T.b__are_cells (da_cons (de_var (i := 2)) da_nil) (many_cons many_nil)))))) dss_nil) (dss_cons (ds_if (dt_cmp (o_eq ⟨rfl, rfl, rfl⟩ (room200 hr)) (de_var (i := 0)) de_str (nomark _)) (dss_one (ds_ret (de_and (de_call (ok_is_key T) hr (by rfl) T.g_is_key T.F_is_key.kp T.b_is_key (da_cons (de_var (i := 1)) da_nil) (many_cons many_nil)) (de_one (de_call (ok_is_id T) hr (by rfl) T.g_is_id T.F_is_id.kp T.b_is_id (da_cons (de_var (i := 2)) da_nil) (many_cons many_nil)))))) dss_nil) (dss_cons (ds_if (dt_not (dt_val (de_call (ok_is_id T) hr (by rfl) T.g_is_id T.F_is_id.kp T.b_is_id (da_cons (de_var (i := 1)) da_nil) (many_cons many_nil)))) (dss_one (ds_ret de_bl)) dss_nil) (dss_cons (ds_if (dt_cmp (o_eq ⟨rfl, rfl, rfl⟩ (room200 hr)) (de_var (i := 0)) de_str (nomark _)) (dss_one (ds_ret (de_call (ok_is_name T) hr (by rfl) T.g_is_name T.F_is_name.kp T.b_is_name (da_cons (de_var (i := 2)) da_nil) (many_cons many_nil)))) dss_nil) (dss_cons (ds_if (dt_cmp (o_eq ⟨rfl, rfl, rfl⟩ (room200 hr)) (de_var (i := 0)) de_str (nomark _)) (dss_one (ds_ret (de_call (ok_is_kind T) hr (by rfl) T.g_is_kind T.F_is_kind.kp T.b_is_kind (da_cons (de_var (i := 2)) da_nil) (many_cons many_nil)))) dss_nil) (dss_one (ds_ret (de_and (de_cmp (o_eq ⟨rfl, rfl, rfl⟩ (room200 hr)) (de_var (i := 0)) de_str (nomark _)) (de_one (de_call (ok__may_be_else T) hr (by rfl) T.g__may_be_else T.F__may_be_else.kp T.b__may_be_else (da_cons (de_var (i := 2)) da_nil) (many_cons many_nil)))))))))))⟩
noncomputable def mb__is_of_one : M Fl := (sSeq (mIf (mB (mBin dEq (mVar 0) (mC (.str "drop")))) (sRet (mCall F_is_key (mCons (mVar 1) mNil))) sPass) (sRet (mAndV (mBin dEq (mVar 0) (mC (.str "leave"))) (mCall F_is_id (mCons (mVar 1) mNil)))))
noncomputable def F__is_of_one : List D → Option FR := fnOf 2 none mb__is_of_one
theorem ok__is_of_one {k : Nat} (T : Txt K mg) : FnOk P w K mg base CX0 (k + 4) T.f__is_of_one T.d__is_of_one ["word", "part"] (spF (UU P w K T) none 2 F__is_of_one) :=
  fn_data (own := []) (io := none) (mb := mb__is_of_one) (U := (UU P w K T)) (k := k + 3) T.F__is_of_one sc__is_of_one (by decide) (by decide) (fun j hj => nomatch hj) fun cdv A outer s H E hr => fun pa A2 => ⟨_, (dss_cons (ds_if (dt_cmp (o_eq ⟨rfl, rfl, rfl⟩ (room200 hr)) (de_var (i := 0)) de_str (nomark _)) (dss_one (ds_ret (de_call (ok_is_key T) hr (by rfl) T.g_is_key T.F_is_key.kp T.b_is_key (da_cons (de_var (i := 1)) da_nil) (many_cons many_nil)))) dss_nil) (dss_one (ds_ret (de_and (de_cmp (o_eq ⟨rfl, rfl, rfl⟩ (room200 hr)) (de_var (i := 0)) de_str (nomark _)) (de_one (de_call (ok_is_id T) hr (by rfl) T.g_is_id T.F_is_id.kp T.b_is_id (da_cons (de_var (i := 1)) da_nil) (many_cons many_nil)))))))⟩
end
end K37
set_option maxHeartbeats 0
namespace K37
open PySem PySem.Spec PyProof.Rows L2 Bx
section
variable {P : Program} {w : World} {K : PySem.W.Frag} {mg : Str → Option Value} {base : Heap}
noncomputable def mb_is_deed : M Fl := (sSeq (mIf (mOr (mNot (mB (mUn (dIsi "tuple") (mVar 0)))) (mOr (mB (mBin dLt (mFn dLen (mCons (mVar 0) mNil)) (mC (.int 2)))) (mNot (mB (mCall F_is_name (mCons (mBin dIx (mVar 0) (mC (.int 1))) mNil)))))) (sRet (mC (.bl false))) sPass) (sSeq (sSet 1 (mBin dIx (mVar 0) (mC (.int 0)))) (sSeq (sSet 2 (mSl dSl (mVar 0) (mSome (mC (.int 2))) mNone)) (sSeq (mIf (mB (mBin dEq (mFn dLen (mCons (mVar 2) mNil)) (mC (.int 0)))) (sRet (mOrV (mBin dEq (mVar 1) (mC (.str "table"))) (mBin dEq (mVar 1) (mC (.str "end"))))) sPass) (sSeq (mIf (mB (mBin dEq (mFn dLen (mCons (mVar 2) mNil)) (mC (.int 1)))) (sRet (mCall F__is_of_one (mCons (mVar 1) (mCons (mBin dIx (mVar 2) (mC (.int 0))) mNil)))) sPass) (sSeq (mIf (mB (mBin dEq (mFn dLen (mCons (mVar 2) mNil)) (mC (.int 2)))) (sRet (mCall F__is_of_two (mCons (mVar 1) (mCons (mBin dIx (mVar 2) (mC (.int 0))) (mCons (mBin dIx (mVar 2) (mC (.int 1))) mNil))))) sPass) (sSeq (mIf (mB (mBin dEq (mVar 1) (mC (.str "undo")))) (sRet (mCall F_is_deed_name (mCons (mSl dSl (mVar 0) (mSome (mC (.int 1))) mNone) mNil))) sPass) (sRet (mAndV (mBin dEq (mVar 1) (mC (.str "column"))) (mAndV (mBin dEq (mFn dLen (mCons (mVar 2) mNil)) (mC (.int 3))) (mCall F__is_column (mCons (mBin dIx (mVar 2) (mC (.int 0))) (mCons (mBin dIx (mVar 2) (mC (.int 1))) (mCons (mBin dIx (mVar 2) (mC (.int 2))) mNil))))))))))))))
noncomputable def F_is_deed : List D → Option FR := fnOf 3 none mb_is_deed
theorem ok_is_deed {k : Nat} (T : Txt K mg) : FnOk P w K mg base CX0 (k + 7) T.f_is_deed T.d_is_deed ["thing"] (spF (UU P w K T) none 1 F_is_deed) :=
  fn_data (own := []) (io := none) (mb := mb_is_deed) (U := (UU P w K T)) (k := k + 6) T.F_is_deed sc_is_deed (by decide) (by decide) (fun j hj => nomatch hj) fun cdv A outer s H E hr => fun pa A2 => ⟨_, (dss_cons (ds_if (dt_w (dw_or (dt_not (dt_val (de_isi (Ts := "tuple") ⟨rfl, rfl, rfl⟩ (by rfl) T.n_isinstance (de_var (i := 0)) (by unfold okT; decide) (by rfl) T.n_tuple (by decide +kernel)))) (dw_or (dt_cmp (o_lt (room200 hr)) (de_callB (o_len ⟨rfl, rfl, rfl⟩) (by rfl) T.n_len (by decide +kernel) (da_cons (de_var (i := 0)) da_nil)) de_int (nomark _)) (dw_or1 (dt_not (dt_val (de_call (ok_is_name T) hr (by rfl) T.g_is_name T.F_is_name.kp T.b_is_name (da_cons (de_ix (o_ix ⟨rfl, rfl, rfl⟩) (de_var (i := 0)) de_int (fun _ _ => rfl)) da_nil) (many_cons many_nil)))))))) (dss_one (ds_ret de_bl)) dss_nil) (dss_cons (ds_set (i := 1) sc_is_deed.nd rfl (Or.inl rfl) (de_ix (o_ix ⟨rfl, rfl, rfl⟩) (de_var (i := 0)) de_int (fun _ _ => rfl))) (dss_cons (ds_set (i := 2) sc_is_deed.nd rfl (Or.inl rfl) (de_sl (o_sl ⟨rfl, rfl, rfl⟩) (de_var (i := 0)) (do_some de_int) do_none)) (dss_cons (ds_if (dt_cmp (o_eq ⟨rfl, rfl, rfl⟩ (room200 hr)) (de_callB (o_len ⟨rfl, rfl, rfl⟩) (by rfl) T.n_len (by decide +kernel) (da_cons (de_var (i := 2)) da_nil)) de_int (nomark _)) (dss_one (ds_ret (de_or (de_cmp (o_eq ⟨rfl, rfl, rfl⟩ (room200 hr)) (de_var (i := 1)) de_str (nomark _)) (de_one (de_cmp (o_eq ⟨rfl, rfl, rfl⟩ (room200 hr)) (de_var (i := 1)) de_str (nomark _)))))) dss_nil) (dss_cons (ds_if (dt_cmp (o_eq ⟨rfl, rfl, rfl⟩ (room200 hr)) (de_callB (o_len ⟨rfl, rfl, rfl⟩) (by rfl) T.n_len (by decide +kernel) (da_cons (de_var (i := 2)) da_nil)) de_int (nomark _)) (dss_one (ds_ret (de_call (ok__is_of_one T) hr (by rfl) T.g__is_of_one T.F__is_of_one.kp T.b__is_of_one (da_cons (de_var (i := 1)) (da_cons (de_ix (o_ix ⟨rfl, rfl, rfl⟩) (de_var (i := 2)) de_int (fun _ _ => rfl)) da_nil)) (many_cons (many_cons many_nil))))) dss_nil) (dss_cons (ds_if (dt_cmp (o_eq ⟨rfl, rfl, rfl⟩ (room200 hr)) (de_callB (o_len ⟨rfl, rfl, rfl⟩) (by rfl) T.n_len (by decide +kernel) (da_cons (de_var (i := 2)) da_nil)) de_int (nomark _)) (dss_one (ds_ret (de_call (ok__is_of_two T) hr (by rfl) T.g__is_of_two T.F__is_of_two.kp T.b__is_of_two (da_cons (de_var (i := 1)) (da_cons (de_ix (o_ix ⟨rfl, rfl, rfl⟩) (de_var (i := 2)) de_int (fun _ _ => rfl)) (da_cons (de_ix (o_ix ⟨rfl, rfl, rfl⟩) (de_var (i := 2)) de_int (fun _ _ => rfl)) da_nil))) (many_cons (many_cons (many_cons many_nil)))))) dss_nil) (dss_cons (ds_if (dt_cmp (o_eq ⟨rfl, rfl, rfl⟩ (room200 hr)) (de_var (i := 1)) de_str (nomark _)) (dss_one (ds_ret (de_call (ok_is_deed_name T) hr (by rfl) T.g_is_deed_name T.F_is_deed_name.kp T.b_is_deed_name (da_cons (de_sl (o_sl ⟨rfl, rfl, rfl⟩) (de_var (i := 0)) (do_some de_int) do_none) da_nil) (many_cons many_nil)))) dss_nil) (dss_one (ds_ret (de_and (de_cmp (o_eq ⟨rfl, rfl, rfl⟩ (room200 hr)) (de_var (i := 1)) de_str (nomark _)) (de_and (de_cmp (o_eq ⟨rfl, rfl, rfl⟩ (room200 hr)) (de_callB (o_len ⟨rfl, rfl, rfl⟩) (by rfl) T.n_len (by decide +kernel) (da_cons (de_var (i := 2)) da_nil)) de_int (nomark _)) (de_one (de_call (ok__is_column T) hr (by rfl) T.g__is_column T.F__is_column.kp T.b__is_column (da_cons (de_ix (o_ix ⟨rfl, rfl, rfl⟩) (de_var (i := 2)) de_int (fun _ _ => rfl)) (da_cons (de_ix (o_ix ⟨rfl, rfl, rfl⟩) (de_var (i := 2)) de_int (fun _ _ => rfl)) (da_cons (de_ix (o_ix ⟨rfl, rfl, rfl⟩) (de_var (i := 2)) de_int (fun _ _ => rfl)) da_nil))) (many_cons (many_cons (many_cons many_nil))))))))))))))))⟩
end
end K37
set_option maxHeartbeats 2000000
namespace K37
open PySem PySem.Spec PyProof.Rows L2 Bx
theorem eqok_str {d : D} (h : isE d = false) (s : Str) : eqok d (.str s) = true ∧ eqok (.str s) d = true := by
  cases d with
  | dct ks vs =>
    have h2 : (ks.length != vs.length) = false := h
    have h3 : (ks.length == vs.length) = true := by
      cases q : (ks.length == vs.length) with
      | true => rfl
      | false => rw [bne, q] at h2; cases h2
    exact ⟨h3, h3⟩
  | _ => exact ⟨rfl, rfl⟩
theorem eqD_str (d : D) (s : Str) : eqD d (.str s) = isStr s d ∧ eqD (.str s) d = isStr s d := by
  cases d with
  | str z =>
    refine ⟨rfl, ?_⟩
    show (s == z) = (z == s)
    exact Bool.beq_comm
  | _ => exact ⟨rfl, rfl⟩
theorem eq_str {d : D} (h : isE d = false) (hd : dep d ≤ 100) (s : Str) : dEq d (.str s) = some (.bl (isStr s d)) := by
  unfold dEq
  rw [if_pos ⟨(eqok_str h s).1, hd⟩, (eqD_str d s).1]
theorem kind_ok {d : D} (h : isE d = false) : F_is_kind [d] = some (.ok (.bl (kindB d)) .non) := by
  have hi : dInC ["number", "word", "any"] d = some (.bl (kindB d)) := by
    unfold dInC
    have h1 : eqokA d (List.map D.str ["number", "word", "any"]) = true := by
      unfold eqokA
      simp only [List.map_cons, List.map_nil, List.all_cons, List.all_nil, (eqok_str h _).2, Bool.true_and, Bool.and_true]
      decide
    rw [if_pos h1]
    unfold inD kindB
    simp only [List.map_cons, List.map_nil, List.any_cons, List.any_nil, (eqD_str d _).2, Bool.or_false]
  simp [F_is_kind, mb_is_kind, hi, fnOf, startE, sSeq, sSet, sRet, sPass, sBind, bTup, bAll, bName, mIf, mOr, mAnd, mNot, mB, mUn, mBin, mVar, mC, mFn, mCons, mNil, mTup, mLst, mCall, mCall0, mChain, mAndV, mOrV, mNotV, mSl, mSome, mNone, M.bind, M.pure, M.opt, mFail, ioOut, Option.map_some, List.map_cons, List.map_nil, List.length_cons, List.length_nil, List.cons_append, List.nil_append, List.replicate_succ, List.replicate_zero, Nat.reduceSub, Nat.reduceAdd, List.getElem?_cons_zero, List.getElem?_cons_succ, List.set_cons_zero, List.set_cons_succ, Bool.not_true, Bool.not_false, Bool.false_eq_true, if_true, if_false, ite_true, ite_false, reduceIte]
def isNon : D → Bool
  | .non => true
  | _ => false
def mayB (d : D) : Bool := isNon d || valueB d
theorem is_non (d : D) : dIs d .non = some (.bl (isNon d)) := by cases d <;> rfl
theorem may_ok {d : D} (h : isE d = false) : F__may_be_else [d] = some (.ok (.bl (mayB d)) .non) := by
  cases hn : isNon d <;> simp [F__may_be_else, mb__may_be_else, is_non, hn, value_ok h, mayB, fnOf, startE, sSeq, sSet, sRet, sPass, sBind, bTup, bAll, bName, mIf, mOr, mAnd, mNot, mB, mUn, mBin, mVar, mC, mFn, mCons, mNil, mTup, mLst, mCall, mCall0, mChain, mAndV, mOrV, mNotV, mSl, mSome, mNone, M.bind, M.pure, M.opt, mFail, ioOut, Option.map_some, List.map_cons, List.map_nil, List.length_cons, List.length_nil, List.cons_append, List.nil_append, List.replicate_succ, List.replicate_zero, Nat.reduceSub, Nat.reduceAdd, List.getElem?_cons_zero, List.getElem?_cons_succ, List.set_cons_zero, List.set_cons_succ, Bool.not_true, Bool.not_false, Bool.false_eq_true, if_true, if_false, ite_true, ite_false, reduceIte]
theorem column_ok {a b c : D} (ha : isE a = false) (hb : isE b = false) (hc : isE c = false) : F__is_column [a, b, c] = some (.ok (.bl (nameB a && (kindB b && mayB c))) .non) := by
  cases h1 : nameB a <;> cases h2 : kindB b <;> simp [F__is_column, mb__is_column, name_ok ha, kind_ok hb, may_ok hc, h1, h2, fnOf, startE, sSeq, sSet, sRet, sPass, sBind, bTup, bAll, bName, mIf, mOr, mAnd, mNot, mB, mUn, mBin, mVar, mC, mFn, mCons, mNil, mTup, mLst, mCall, mCall0, mChain, mAndV, mOrV, mNotV, mSl, mSome, mNone, M.bind, M.pure, M.opt, mFail, ioOut, Option.map_some, List.map_cons, List.map_nil, List.length_cons, List.length_nil, List.cons_append, List.nil_append, List.replicate_succ, List.replicate_zero, Nat.reduceSub, Nat.reduceAdd, List.getElem?_cons_zero, List.getElem?_cons_succ, List.set_cons_zero, List.set_cons_succ, Bool.not_true, Bool.not_false, Bool.false_eq_true, if_true, if_false, ite_true, ite_false, reduceIte]
def oneB (w p : D) : Bool := if isStr "drop" w = true then wholeB 0 1000000000 p else isStr "leave" w && idB p
def twoB (w a b : D) : Bool := if isStr "put" w = true then wholeB 0 1000000000 a && cellsB b else if isStr "blank" w = true then wholeB 0 1000000000 a && idB b else if idB a = false then false else if isStr "call" w = true then nameB b else if isStr "kind" w = true then kindB b else isStr "else" w && mayB b
theorem one_ok {w p : D} (hw : isE w = false) (hd : dep w ≤ 100) (hp : gd p = true) : F__is_of_one [w, p] = some (.ok (.bl (oneB w p)) .non) := by
  have e := eq_str hw hd
  cases h1 : isStr "drop" w <;> cases h2 : isStr "leave" w <;> simp [F__is_of_one, mb__is_of_one, e, h1, h2, key_ok (gd_e hp), id_ok hp, oneB, fnOf, startE, sSeq, sSet, sRet, sPass, sBind, bTup, bAll, bName, mIf, mOr, mAnd, mNot, mB, mUn, mBin, mVar, mC, mFn, mCons, mNil, mTup, mLst, mCall, mCall0, mChain, mAndV, mOrV, mNotV, mSl, mSome, mNone, M.bind, M.pure, M.opt, mFail, ioOut, Option.map_some, List.map_cons, List.map_nil, List.length_cons, List.length_nil, List.cons_append, List.nil_append, List.replicate_succ, List.replicate_zero, Nat.reduceSub, Nat.reduceAdd, List.getElem?_cons_zero, List.getElem?_cons_succ, List.set_cons_zero, List.set_cons_succ, Bool.not_true, Bool.not_false, Bool.false_eq_true, if_true, if_false, ite_true, ite_false, reduceIte]
theorem two_ok {w a b : D} (hw : isE w = false) (hd : dep w ≤ 100) (ha : gd a = true) (hb : gd b = true) : F__is_of_two [w, a, b] = some (.ok (.bl (twoB w a b)) .non) := by
  have e := eq_str hw hd
  cases h1 : isStr "put" w with
  | true => cases k1 : wholeB 0 1000000000 a <;> simp [F__is_of_two, mb__is_of_two, e, h1, k1, key_ok (gd_e ha), are_cells_ok hb, twoB, fnOf, startE, sSeq, sSet, sRet, sPass, sBind, bTup, bAll, bName, mIf, mOr, mAnd, mNot, mB, mUn, mBin, mVar, mC, mFn, mCons, mNil, mTup, mLst, mCall, mCall0, mChain, mAndV, mOrV, mNotV, mSl, mSome, mNone, M.bind, M.pure, M.opt, mFail, ioOut, Option.map_some, List.map_cons, List.map_nil, List.length_cons, List.length_nil, List.cons_append, List.nil_append, List.replicate_succ, List.replicate_zero, Nat.reduceSub, Nat.reduceAdd, List.getElem?_cons_zero, List.getElem?_cons_succ, List.set_cons_zero, List.set_cons_succ, Bool.not_true, Bool.not_false, Bool.false_eq_true, if_true, if_false, ite_true, ite_false, reduceIte]
  | false => cases h2 : isStr "blank" w with
    | true => cases k1 : wholeB 0 1000000000 a <;> simp [F__is_of_two, mb__is_of_two, e, h1, h2, k1, key_ok (gd_e ha), id_ok hb, twoB, fnOf, startE, sSeq, sSet, sRet, sPass, sBind, bTup, bAll, bName, mIf, mOr, mAnd, mNot, mB, mUn, mBin, mVar, mC, mFn, mCons, mNil, mTup, mLst, mCall, mCall0, mChain, mAndV, mOrV, mNotV, mSl, mSome, mNone, M.bind, M.pure, M.opt, mFail, ioOut, Option.map_some, List.map_cons, List.map_nil, List.length_cons, List.length_nil, List.cons_append, List.nil_append, List.replicate_succ, List.replicate_zero, Nat.reduceSub, Nat.reduceAdd, List.getElem?_cons_zero, List.getElem?_cons_succ, List.set_cons_zero, List.set_cons_succ, Bool.not_true, Bool.not_false, Bool.false_eq_true, if_true, if_false, ite_true, ite_false, reduceIte]
    | false => cases k2 : idB a with
      | false => simp [F__is_of_two, mb__is_of_two, e, h1, h2, k2, id_ok ha, twoB, fnOf, startE, sSeq, sSet, sRet, sPass, sBind, bTup, bAll, bName, mIf, mOr, mAnd, mNot, mB, mUn, mBin, mVar, mC, mFn, mCons, mNil, mTup, mLst, mCall, mCall0, mChain, mAndV, mOrV, mNotV, mSl, mSome, mNone, M.bind, M.pure, M.opt, mFail, ioOut, Option.map_some, List.map_cons, List.map_nil, List.length_cons, List.length_nil, List.cons_append, List.nil_append, List.replicate_succ, List.replicate_zero, Nat.reduceSub, Nat.reduceAdd, List.getElem?_cons_zero, List.getElem?_cons_succ, List.set_cons_zero, List.set_cons_succ, Bool.not_true, Bool.not_false, Bool.false_eq_true, if_true, if_false, ite_true, ite_false, reduceIte]
      | true => cases h3 : isStr "call" w with
        | true => simp [F__is_of_two, mb__is_of_two, e, h1, h2, h3, k2, id_ok ha, name_ok (gd_e hb), twoB, fnOf, startE, sSeq, sSet, sRet, sPass, sBind, bTup, bAll, bName, mIf, mOr, mAnd, mNot, mB, mUn, mBin, mVar, mC, mFn, mCons, mNil, mTup, mLst, mCall, mCall0, mChain, mAndV, mOrV, mNotV, mSl, mSome, mNone, M.bind, M.pure, M.opt, mFail, ioOut, Option.map_some, List.map_cons, List.map_nil, List.length_cons, List.length_nil, List.cons_append, List.nil_append, List.replicate_succ, List.replicate_zero, Nat.reduceSub, Nat.reduceAdd, List.getElem?_cons_zero, List.getElem?_cons_succ, List.set_cons_zero, List.set_cons_succ, Bool.not_true, Bool.not_false, Bool.false_eq_true, if_true, if_false, ite_true, ite_false, reduceIte]
        | false => cases h4 : isStr "kind" w with
          | true => simp [F__is_of_two, mb__is_of_two, e, h1, h2, h3, h4, k2, id_ok ha, kind_ok (gd_e hb), twoB, fnOf, startE, sSeq, sSet, sRet, sPass, sBind, bTup, bAll, bName, mIf, mOr, mAnd, mNot, mB, mUn, mBin, mVar, mC, mFn, mCons, mNil, mTup, mLst, mCall, mCall0, mChain, mAndV, mOrV, mNotV, mSl, mSome, mNone, M.bind, M.pure, M.opt, mFail, ioOut, Option.map_some, List.map_cons, List.map_nil, List.length_cons, List.length_nil, List.cons_append, List.nil_append, List.replicate_succ, List.replicate_zero, Nat.reduceSub, Nat.reduceAdd, List.getElem?_cons_zero, List.getElem?_cons_succ, List.set_cons_zero, List.set_cons_succ, Bool.not_true, Bool.not_false, Bool.false_eq_true, if_true, if_false, ite_true, ite_false, reduceIte]
          | false => cases h5 : isStr "else" w <;> simp [F__is_of_two, mb__is_of_two, e, h1, h2, h3, h4, h5, k2, id_ok ha, may_ok (gd_e hb), twoB, fnOf, startE, sSeq, sSet, sRet, sPass, sBind, bTup, bAll, bName, mIf, mOr, mAnd, mNot, mB, mUn, mBin, mVar, mC, mFn, mCons, mNil, mTup, mLst, mCall, mCall0, mChain, mAndV, mOrV, mNotV, mSl, mSome, mNone, M.bind, M.pure, M.opt, mFail, ioOut, Option.map_some, List.map_cons, List.map_nil, List.length_cons, List.length_nil, List.cons_append, List.nil_append, List.replicate_succ, List.replicate_zero, Nat.reduceSub, Nat.reduceAdd, List.getElem?_cons_zero, List.getElem?_cons_succ, List.set_cons_zero, List.set_cons_succ, Bool.not_true, Bool.not_false, Bool.false_eq_true, if_true, if_false, ite_true, ite_false, reduceIte]
def deedB : D → Bool
  | .tup (w :: a :: rest) => nameB a && (match rest with
    | [] => isStr "table" w || isStr "end" w
    | [x] => oneB w x
    | [x, y] => twoB w x y
    | [x, y, z] => if isStr "undo" w = true then deedNameB (.tup [a, x, y, z]) else isStr "column" w && (nameB x && (kindB y && mayB z))
    | _ => false)
  | _ => false
theorem deed_ok {d : D} (h : gd d = true) (hd : dep d ≤ 100) : F_is_deed [d] = some (.ok (.bl (deedB d)) .non) := by
  have h1 := isi_of (T := "tuple") (gd_e h)
  cases d with
  | tup ds =>
    have hlt : ∀ i j : Int, dLt (.int i) (.int j) = some (.bl (decide (i < j))) := fun i j => by
      unfold dLt
      rw [if_pos ⟨rfl, rfl, rfl, Nat.zero_le _⟩]; rfl
    match ds, h, hd with
    | [], _, _ => simp [F_is_deed, mb_is_deed, h1, D.kind, isK, len_tup, hlt, deedB, fnOf, startE, sSeq, sSet, sRet, sPass, sBind, bTup, bAll, bName, mIf, mOr, mAnd, mNot, mB, mUn, mBin, mVar, mC, mFn, mCons, mNil, mTup, mLst, mCall, mCall0, mChain, mAndV, mOrV, mNotV, mSl, mSome, mNone, M.bind, M.pure, M.opt, mFail, ioOut, Option.map_some, List.map_cons, List.map_nil, List.length_cons, List.length_nil, List.cons_append, List.nil_append, List.replicate_succ, List.replicate_zero, Nat.reduceSub, Nat.reduceAdd, List.getElem?_cons_zero, List.getElem?_cons_succ, List.set_cons_zero, List.set_cons_succ, Bool.not_true, Bool.not_false, Bool.false_eq_true, if_true, if_false, ite_true, ite_false, reduceIte]
    | [w], _, _ => simp [F_is_deed, mb_is_deed, h1, D.kind, isK, len_tup, hlt, deedB, fnOf, startE, sSeq, sSet, sRet, sPass, sBind, bTup, bAll, bName, mIf, mOr, mAnd, mNot, mB, mUn, mBin, mVar, mC, mFn, mCons, mNil, mTup, mLst, mCall, mCall0, mChain, mAndV, mOrV, mNotV, mSl, mSome, mNone, M.bind, M.pure, M.opt, mFail, ioOut, Option.map_some, List.map_cons, List.map_nil, List.length_cons, List.length_nil, List.cons_append, List.nil_append, List.replicate_succ, List.replicate_zero, Nat.reduceSub, Nat.reduceAdd, List.getElem?_cons_zero, List.getElem?_cons_succ, List.set_cons_zero, List.set_cons_succ, Bool.not_true, Bool.not_false, Bool.false_eq_true, if_true, if_false, ite_true, ite_false, reduceIte]
    | w :: a :: rest, h, hd =>
      have gg : gds (w :: a :: rest) = true := by rwa [gd] at h
      have gw := gds_mem (d := w) gg (by simp)
      have ga := gds_mem (d := a) gg (by simp)
      have gr : ∀ x ∈ rest, gd x = true := fun x hx => gds_mem gg (by simp [hx])
      have dw : dep w ≤ 100 := by
        rw [dep, deps] at hd
        omega
      have e := eq_str (gd_e gw) dw
      have i0 : dIx (.tup (w :: a :: rest)) (.int 0) = some w := atI_nat (xs := w :: a :: rest) (j := 0) rfl
      have i1 : dIx (.tup (w :: a :: rest)) (.int 1) = some a := atI_nat (xs := w :: a :: rest) (j := 1) rfl
      have s2 : dSl (.tup (w :: a :: rest)) (some 2) none = some (.tup rest) := by
        show some (D.tup (cutL (w :: a :: rest) (some 2) none)) = _
        rw [cutL_two]
      have s1 : dSl (.tup (w :: a :: rest)) (some 1) none = some (.tup (a :: rest)) := by
        show some (D.tup (cutL (w :: a :: rest) (some 1) none)) = _
        rw [cutL_one]; rfl
      have hl : dLen [.tup (w :: a :: rest)] = some (.int ((w :: a :: rest).length : Nat)) := len_tup _
      have hl2 : dLt (.int ((w :: a :: rest).length : Nat)) (.int 2) = some (.bl false) := by
        rw [hlt, decide_eq_false (by simp only [List.length_cons]; omega)]
      have hr := len_tup rest
      have hn := name_ok (gd_e ga)
      cases kn : nameB a with
      | false =>
        have hv : deedB (.tup (w :: a :: rest)) = false := by
          show (nameB a && _) = false
          rw [kn, Bool.false_and]
        generalize hg : (w :: a :: rest) = ds at *
        simp [F_is_deed, mb_is_deed, h1, D.kind, isK, hl, hl2, i1, hn, kn, hv, fnOf, startE, sSeq, sSet, sRet, sPass, sBind, bTup, bAll, bName, mIf, mOr, mAnd, mNot, mB, mUn, mBin, mVar, mC, mFn, mCons, mNil, mTup, mLst, mCall, mCall0, mChain, mAndV, mOrV, mNotV, mSl, mSome, mNone, M.bind, M.pure, M.opt, mFail, ioOut, Option.map_some, List.map_cons, List.map_nil, List.length_cons, List.length_nil, List.cons_append, List.nil_append, List.replicate_succ, List.replicate_zero, Nat.reduceSub, Nat.reduceAdd, List.getElem?_cons_zero, List.getElem?_cons_succ, List.set_cons_zero, List.set_cons_succ, Bool.not_true, Bool.not_false, Bool.false_eq_true, if_true, if_false, ite_true, ite_false, reduceIte]
      | true =>
        match rest, gr, gg, i0, i1, s2, s1, hl, hl2, hr with
        | [], gr, gg, i0, i1, s2, s1, hl, hl2, hr =>
          have hv : deedB (.tup [w, a]) = (isStr "table" w || isStr "end" w) := by
            show (nameB a && _) = _
            rw [kn, Bool.true_and]
          rw [hv]
          generalize ([w, a] : List D) = ds at *
          cases k1 : isStr "table" w <;> cases k2 : isStr "end" w <;> simp [F_is_deed, mb_is_deed, h1, D.kind, isK, hl, hl2, i0, i1, s2, hr, hn, kn, e, eq_int, k1, k2, len_tup, fnOf, startE, sSeq, sSet, sRet, sPass, sBind, bTup, bAll, bName, mIf, mOr, mAnd, mNot, mB, mUn, mBin, mVar, mC, mFn, mCons, mNil, mTup, mLst, mCall, mCall0, mChain, mAndV, mOrV, mNotV, mSl, mSome, mNone, M.bind, M.pure, M.opt, mFail, ioOut, Option.map_some, List.map_cons, List.map_nil, List.length_cons, List.length_nil, List.cons_append, List.nil_append, List.replicate_succ, List.replicate_zero, Nat.reduceSub, Nat.reduceAdd, List.getElem?_cons_zero, List.getElem?_cons_succ, List.set_cons_zero, List.set_cons_succ, Bool.not_true, Bool.not_false, Bool.false_eq_true, if_true, if_false, ite_true, ite_false, reduceIte]
        | [x], gr, gg, i0, i1, s2, s1, hl, hl2, hr =>
          have hv : deedB (.tup [w, a, x]) = oneB w x := by
            show (nameB a && _) = _
            rw [kn, Bool.true_and]
          rw [hv]
          have j0 : dIx (.tup [x]) (.int 0) = some x := rfl
          generalize ([w, a, x] : List D) = ds at *
          simp [F_is_deed, mb_is_deed, h1, D.kind, isK, hl, hl2, i0, i1, s2, hn, kn, e, eq_int, len_tup, j0, one_ok (gd_e gw) dw (gr x (by simp)), fnOf, startE, sSeq, sSet, sRet, sPass, sBind, bTup, bAll, bName, mIf, mOr, mAnd, mNot, mB, mUn, mBin, mVar, mC, mFn, mCons, mNil, mTup, mLst, mCall, mCall0, mChain, mAndV, mOrV, mNotV, mSl, mSome, mNone, M.bind, M.pure, M.opt, mFail, ioOut, Option.map_some, List.map_cons, List.map_nil, List.length_cons, List.length_nil, List.cons_append, List.nil_append, List.replicate_succ, List.replicate_zero, Nat.reduceSub, Nat.reduceAdd, List.getElem?_cons_zero, List.getElem?_cons_succ, List.set_cons_zero, List.set_cons_succ, Bool.not_true, Bool.not_false, Bool.false_eq_true, if_true, if_false, ite_true, ite_false, reduceIte]
        | [x, y], gr, gg, i0, i1, s2, s1, hl, hl2, hr =>
          have hv : deedB (.tup [w, a, x, y]) = twoB w x y := by
            show (nameB a && _) = _
            rw [kn, Bool.true_and]
          rw [hv]
          have j0 : dIx (.tup [x, y]) (.int 0) = some x := rfl
          have j1 : dIx (.tup [x, y]) (.int 1) = some y := rfl
          generalize ([w, a, x, y] : List D) = ds at *
          simp [F_is_deed, mb_is_deed, h1, D.kind, isK, hl, hl2, i0, i1, s2, hn, kn, e, eq_int, len_tup, j0, j1, two_ok (gd_e gw) dw (gr x (by simp)) (gr y (by simp)), fnOf, startE, sSeq, sSet, sRet, sPass, sBind, bTup, bAll, bName, mIf, mOr, mAnd, mNot, mB, mUn, mBin, mVar, mC, mFn, mCons, mNil, mTup, mLst, mCall, mCall0, mChain, mAndV, mOrV, mNotV, mSl, mSome, mNone, M.bind, M.pure, M.opt, mFail, ioOut, Option.map_some, List.map_cons, List.map_nil, List.length_cons, List.length_nil, List.cons_append, List.nil_append, List.replicate_succ, List.replicate_zero, Nat.reduceSub, Nat.reduceAdd, List.getElem?_cons_zero, List.getElem?_cons_succ, List.set_cons_zero, List.set_cons_succ, Bool.not_true, Bool.not_false, Bool.false_eq_true, if_true, if_false, ite_true, ite_false, reduceIte]
        | [x, y, z], gr, gg, i0, i1, s2, s1, hl, hl2, hr =>
          have gn : gd (.tup [a, x, y, z]) = true := by
            rw [gd]
            rw [gds, Bool.and_eq_true] at gg
            exact gg.2
          have hv : deedB (.tup [w, a, x, y, z]) = (if isStr "undo" w = true then deedNameB (.tup [a, x, y, z]) else isStr "column" w && (nameB x && (kindB y && mayB z))) := by
            show (nameB a && _) = _
            rw [kn, Bool.true_and]
          rw [hv]
          have j0 : dIx (.tup [x, y, z]) (.int 0) = some x := rfl
          have j1 : dIx (.tup [x, y, z]) (.int 1) = some y := rfl
          have j2 : dIx (.tup [x, y, z]) (.int 2) = some z := rfl
          have hc := column_ok (gd_e (gr x (by simp))) (gd_e (gr y (by simp))) (gd_e (gr z (by simp)))
          have hdn := deed_name_ok gn
          generalize hds : ([w, a, x, y, z] : List D) = ds at *
          cases k1 : isStr "undo" w <;> cases k2 : isStr "column" w <;> simp [F_is_deed, mb_is_deed, h1, D.kind, isK, hl, hl2, i0, i1, s2, s1, hn, kn, e, eq_int, len_tup, j0, j1, j2, k1, k2, hc, hdn, fnOf, startE, sSeq, sSet, sRet, sPass, sBind, bTup, bAll, bName, mIf, mOr, mAnd, mNot, mB, mUn, mBin, mVar, mC, mFn, mCons, mNil, mTup, mLst, mCall, mCall0, mChain, mAndV, mOrV, mNotV, mSl, mSome, mNone, M.bind, M.pure, M.opt, mFail, ioOut, Option.map_some, List.map_cons, List.map_nil, List.length_cons, List.length_nil, List.cons_append, List.nil_append, List.replicate_succ, List.replicate_zero, Nat.reduceSub, Nat.reduceAdd, List.getElem?_cons_zero, List.getElem?_cons_succ, List.set_cons_zero, List.set_cons_succ, Bool.not_true, Bool.not_false, Bool.false_eq_true, if_true, if_false, ite_true, ite_false, reduceIte]
        | x :: y :: z :: u :: r, gr, gg, i0, i1, s2, s1, hl, hl2, hr =>
          have gn : gd (.tup (a :: x :: y :: z :: u :: r)) = true := by
            rw [gd]
            rw [gds, Bool.and_eq_true] at gg
            exact gg.2
          have hv : deedB (.tup (w :: a :: x :: y :: z :: u :: r)) = false := by
            show (nameB a && false) = false
            rw [Bool.and_false]
          rw [hv]
          have hdn := deed_name_ok gn
          have hdv : deedNameB (.tup (a :: x :: y :: z :: u :: r)) = false := rfl
          rw [hdv] at hdn
          have q : ∀ k : Int, k < 4 → dEq (.int ((x :: y :: z :: u :: r).length : Nat)) (.int k) = some (.bl false) := fun k hk => by
            rw [eq_int]
            have : (((x :: y :: z :: u :: r).length : Int) == k) = false := beq_false_of_ne (by simp only [List.length_cons]; omega)
            rw [this]
          have q0 := q 0 (by decide)
          have q1 := q 1 (by decide)
          have q2 := q 2 (by decide)
          have q3 := q 3 (by decide)
          generalize hds : (w :: a :: x :: y :: z :: u :: r) = ds at *
          generalize hes : (a :: x :: y :: z :: u :: r) = es at *
          generalize hrs : (x :: y :: z :: u :: r) = rs at *
          cases k1 : isStr "undo" w <;> cases k2 : isStr "column" w <;> simp [F_is_deed, mb_is_deed, h1, D.kind, isK, hl, hl2, i0, i1, s2, s1, hr, hn, kn, e, q0, q1, q2, q3, k1, k2, hdn, fnOf, startE, sSeq, sSet, sRet, sPass, sBind, bTup, bAll, bName, mIf, mOr, mAnd, mNot, mB, mUn, mBin, mVar, mC, mFn, mCons, mNil, mTup, mLst, mCall, mCall0, mChain, mAndV, mOrV, mNotV, mSl, mSome, mNone, M.bind, M.pure, M.opt, mFail, ioOut, Option.map_some, List.map_cons, List.map_nil, List.length_cons, List.length_nil, List.cons_append, List.nil_append, List.replicate_succ, List.replicate_zero, Nat.reduceSub, Nat.reduceAdd, List.getElem?_cons_zero, List.getElem?_cons_succ, List.set_cons_zero, List.set_cons_succ, Bool.not_true, Bool.not_false, Bool.false_eq_true, if_true, if_false, ite_true, ite_false, reduceIte]
  | _ => simp [F_is_deed, mb_is_deed, h1, D.kind, isK, deedB, fnOf, startE, sSeq, sSet, sRet, sPass, sBind, bTup, bAll, bName, mIf, mOr, mAnd, mNot, mB, mUn, mBin, mVar, mC, mFn, mCons, mNil, mTup, mLst, mCall, mCall0, mChain, mAndV, mOrV, mNotV, mSl, mSome, mNone, M.bind, M.pure, M.opt, mFail, ioOut, Option.map_some, List.map_cons, List.map_nil, List.length_cons, List.length_nil, List.cons_append, List.nil_append, List.replicate_succ, List.replicate_zero, Nat.reduceSub, Nat.reduceAdd, List.getElem?_cons_zero, List.getElem?_cons_succ, List.set_cons_zero, List.set_cons_succ, Bool.not_true, Bool.not_false, Bool.false_eq_true, if_true, if_false, ite_true, ite_false, reduceIte]
end K37
set_option maxHeartbeats 0
namespace K37
open PySem PySem.Spec PyProof.Rows L2 Bx
section
variable {P : Program} {w : World} {K : PySem.W.Frag} {mg : Str → Option Value} {base : Heap}
noncomputable def mb__law_whole : M Fl := (sRet (mAndV (mUn (dIsi "int") (mVar 0)) (mNotV (mUn (dIsi "bool") (mVar 0)))))
noncomputable def F__law_whole : List D → Option FR := fnOf 1 none mb__law_whole
theorem ok__law_whole {k : Nat} (T : Txt K mg) : FnOk P w K mg base CX0 (k + 1) T.f__law_whole T.d__law_whole ["found"] (spF (UU P w K T) none 1 F__law_whole) :=
  fn_data (own := []) (io := none) (mb := mb__law_whole) (U := (UU P w K T)) (k := k + 0) T.F__law_whole sc__law_whole (by decide) (by decide) (fun j hj => nomatch hj) fun cdv A outer s H E hr => fun pa A2 => ⟨_, (dss_one (ds_ret (de_and (de_isi (Ts := "int") ⟨rfl, rfl, rfl⟩ (by rfl) T.n_isinstance (de_var (i := 0)) (by unfold okT; decide) (by rfl) T.n_int (by decide +kernel)) (de_one (de_not (de_isi (Ts := "bool") ⟨rfl, rfl, rfl⟩ (by rfl) T.n_isinstance (de_var (i := 0)) (by unfold okT; decide) (by rfl) T.n_bool (by decide +kernel)))))))⟩
noncomputable def mb__law_is_word : M Fl := (sSeq (mIf (mOr (mNot (mB (mUn (dIsi "str") (mVar 0)))) (mNot (mB (mChain dLe dLe (mC (.int 1)) (mFn dLen (mCons (mVar 0) mNil)) (mC (.int 8)))))) (sRet (mC (.bl false))) sPass) (sRet (mBin dEq (mComp [1] (bName 1) (mB (mBin dNotIn (mVar 1) (mC (.str "abcdefghijklmnopqrstuvwxyz")))) (mC (.int 1)) (mSigns (mVar 0))) (mLst mNil))))
noncomputable def F__law_is_word : List D → Option FR := fnOf 2 none mb__law_is_word
theorem ok__law_is_word {k : Nat} (T : Txt K mg) : FnOk P w K mg base CX0 (k + 1) T.f__law_is_word T.d__law_is_word ["thing"] (spF (UU P w K T) none 1 F__law_is_word) :=
  fn_data (own := []) (io := none) (mb := mb__law_is_word) (U := (UU P w K T)) (k := k + 0) T.F__law_is_word sc__law_is_word (by decide) (by decide) (fun j hj => nomatch hj) fun cdv A outer s H E hr => fun pa A2 => ⟨_, (dss_cons (ds_if (dt_w (dw_or (dt_not (dt_val (de_isi (Ts := "str") ⟨rfl, rfl, rfl⟩ (by rfl) T.n_isinstance (de_var (i := 0)) (by unfold okT; decide) (by rfl) T.n_str (by decide +kernel)))) (dw_or1 (dt_not (dt_chain o_le o_le de_int (de_callB (o_len ⟨rfl, rfl, rfl⟩) (by rfl) T.n_len (by decide +kernel) (da_cons (de_var (i := 0)) da_nil)) de_int))))) (dss_one (ds_ret de_bl)) dss_nil) (dss_one (ds_ret (de_cmp (o_eq ⟨rfl, rfl, rfl⟩ (room200 hr)) (DF.de (df_comp rfl sc__law_is_word.nd (di_str (de_var (i := 0))) (blkOk_by (own := [("sign", 1)]) (N := N__law_is_word) (sc := defScope s__law_is_word) (by decide +kernel)) rfl (of_decide_eq_true rfl) (fun _ _ _ _ _ _ _ => (dg_name (i := 1) sc__law_is_word.nd rfl (Or.inl rfl) (of_decide_eq_false rfl) (by decide))) (fun _ _ _ _ _ _ _ => (dts_one (dt_cmp (o_notIn ⟨rfl, rfl, rfl⟩ (room200 hr)) (de_var (i := 1)) de_str (by rfl)))) (fun _ _ _ _ _ _ _ => de_int))) (DF.de (df_lst da_nil)) (nomark _)))))⟩
noncomputable def mb__law_is_name : M Fl := (sRet (mAndV (mCall F__law_is_word (mCons (mVar 0) mNil)) (mBin dNe2 (mVar 0) (mC (.str "key")))))
noncomputable def F__law_is_name : List D → Option FR := fnOf 1 none mb__law_is_name
theorem ok__law_is_name {k : Nat} (T : Txt K mg) : FnOk P w K mg base CX0 (k + 2) T.f__law_is_name T.d__law_is_name ["thing"] (spF (UU P w K T) none 1 F__law_is_name) :=
  fn_data (own := []) (io := none) (mb := mb__law_is_name) (U := (UU P w K T)) (k := k + 1) T.F__law_is_name sc__law_is_name (by decide) (by decide) (fun j hj => nomatch hj) fun cdv A outer s H E hr => fun pa A2 => ⟨_, (dss_one (ds_ret (de_and (de_call (ok__law_is_word T) hr (by rfl) T.g__law_is_word T.F__law_is_word.kp T.b__law_is_word (da_cons (de_var (i := 0)) da_nil) (many_cons many_nil)) (de_one (de_cmp (o_ne (room200 hr)) (de_var (i := 0)) de_str (nomark _))))))⟩
noncomputable def mb__law_between : M Fl := (sRet (mAndV (mCall F__law_whole (mCons (mVar 0) mNil)) (mChain dLe dLe (mVar 1) (mVar 0) (mVar 2))))
noncomputable def F__law_between : List D → Option FR := fnOf 3 none mb__law_between
theorem ok__law_between {k : Nat} (T : Txt K mg) : FnOk P w K mg base CX0 (k + 2) T.f__law_between T.d__law_between ["thing", "low", "high"] (spF (UU P w K T) none 3 F__law_between) :=
  fn_data (own := []) (io := none) (mb := mb__law_between) (U := (UU P w K T)) (k := k + 1) T.F__law_between sc__law_between (by decide) (by decide) (fun j hj => nomatch hj) fun cdv A outer s H E hr => fun pa A2 => ⟨_, (dss_one (ds_ret (de_and (de_call (ok__law_whole T) hr (by rfl) T.g__law_whole T.F__law_whole.kp T.b__law_whole (da_cons (de_var (i := 0)) da_nil) (many_cons many_nil)) (de_one (de_chain o_le o_le (de_var (i := 1)) (de_var (i := 0)) (de_var (i := 2)))))))⟩
noncomputable def mb__law_is_value : M Fl := (sRet (mOrV (mCall F__law_is_word (mCons (mVar 0) mNil)) (mCall F__law_between (mCons (mVar 0) (mCons (mUn dNeg (mBin dPow (mC (.int 10)) (mC (.int 9)))) (mCons (mBin dPow (mC (.int 10)) (mC (.int 9))) mNil))))))
noncomputable def F__law_is_value : List D → Option FR := fnOf 1 none mb__law_is_value
theorem ok__law_is_value {k : Nat} (T : Txt K mg) : FnOk P w K mg base CX0 (k + 3) T.f__law_is_value T.d__law_is_value ["thing"] (spF (UU P w K T) none 1 F__law_is_value) :=
  fn_data (own := []) (io := none) (mb := mb__law_is_value) (U := (UU P w K T)) (k := k + 2) T.F__law_is_value sc__law_is_value (by decide) (by decide) (fun j hj => nomatch hj) fun cdv A outer s H E hr => fun pa A2 => ⟨_, (dss_one (ds_ret (de_or (de_call (ok__law_is_word T) hr (by rfl) T.g__law_is_word T.F__law_is_word.kp T.b__law_is_word (da_cons (de_var (i := 0)) da_nil) (many_cons many_nil)) (de_one (de_call (ok__law_between T) hr (by rfl) T.g__law_between T.F__law_between.kp T.b__law_between (da_cons (de_var (i := 0)) (da_cons (de_un o_neg (de_op o_pow de_int de_int)) (da_cons (de_op o_pow de_int de_int) da_nil))) (many_cons (many_cons (many_cons many_nil))))))))⟩
end
end K37
set_option maxHeartbeats 0
namespace K37
open PySem PySem.Spec PyProof.Rows L2 Bx
section
variable {P : Program} {w : World} {K : PySem.W.Frag} {mg : Str → Option Value} {base : Heap}
noncomputable def mb__law_is_id : M Fl := (sSeq (mIf (mOr (mNot (mB (mUn (dIsi "tuple") (mVar 0)))) (mB (mBin dNe2 (mFn dLen (mCons (mVar 0) mNil)) (mC (.int 3))))) (sRet (mC (.bl false))) sPass) (sRet (mAndV (mCall F__law_between (mCons (mBin dIx (mVar 0) (mC (.int 0))) (mCons (mC (.int 0)) (mCons (mC (.int 7)) mNil)))) (mAndV (mCall F__law_is_name (mCons (mBin dIx (mVar 0) (mC (.int 1))) mNil)) (mCall F__law_between (mCons (mBin dIx (mVar 0) (mC (.int 2))) (mCons (mC (.int 0)) (mCons (mBin dPow (mC (.int 10)) (mC (.int 6))) mNil))))))))
noncomputable def F__law_is_id : List D → Option FR := fnOf 1 none mb__law_is_id
theorem ok__law_is_id {k : Nat} (T : Txt K mg) : FnOk P w K mg base CX0 (k + 3) T.f__law_is_id T.d__law_is_id ["thing"] (spF (UU P w K T) none 1 F__law_is_id) :=
  fn_data (own := []) (io := none) (mb := mb__law_is_id) (U := (UU P w K T)) (k := k + 2) T.F__law_is_id sc__law_is_id (by decide) (by decide) (fun j hj => nomatch hj) fun cdv A outer s H E hr => fun pa A2 => ⟨_, (dss_cons (ds_if (dt_w (dw_or (dt_not (dt_val (de_isi (Ts := "tuple") ⟨rfl, rfl, rfl⟩ (by rfl) T.n_isinstance (de_var (i := 0)) (by unfold okT; decide) (by rfl) T.n_tuple (by decide +kernel)))) (dw_or1 (dt_cmp (o_ne (room200 hr)) (de_callB (o_len ⟨rfl, rfl, rfl⟩) (by rfl) T.n_len (by decide +kernel) (da_cons (de_var (i := 0)) da_nil)) de_int (nomark _))))) (dss_one (ds_ret de_bl)) dss_nil) (dss_one (ds_ret (de_and (de_call (ok__law_between T) hr (by rfl) T.g__law_between T.F__law_between.kp T.b__law_between (da_cons (de_ix (o_ix ⟨rfl, rfl, rfl⟩) (de_var (i := 0)) de_int (fun _ _ => rfl)) (da_cons de_int (da_cons de_int da_nil))) (many_cons (many_cons (many_cons many_nil)))) (de_and (de_call (ok__law_is_name T) hr (by rfl) T.g__law_is_name T.F__law_is_name.kp T.b__law_is_name (da_cons (de_ix (o_ix ⟨rfl, rfl, rfl⟩) (de_var (i := 0)) de_int (fun _ _ => rfl)) da_nil) (many_cons many_nil)) (de_one (de_call (ok__law_between T) hr (by rfl) T.g__law_between T.F__law_between.kp T.b__law_between (da_cons (de_ix (o_ix ⟨rfl, rfl, rfl⟩) (de_var (i := 0)) de_int (fun _ _ => rfl)) (da_cons de_int (da_cons (de_op o_pow de_int de_int) da_nil))) (many_cons (many_cons (many_cons many_nil))))))))))⟩
noncomputable def mb__law_are_cells : M Fl := (sSeq (mIf (mOr (mNot (mB (mUn (dIsi "tuple") (mVar 0)))) (mB (mBin dGt (mFn dLen (mCons (mVar 0) mNil)) (mC (.int 6))))) (sRet (mC (.bl false))) sPass) (sSeq (sFor (bName 1) (mSeq (mVar 0)) (mIf (mOr (mNot (mB (mUn (dIsi "tuple") (mVar 1)))) (mOr (mB (mBin dNe2 (mFn dLen (mCons (mVar 1) mNil)) (mC (.int 2)))) (mOr (mNot (mB (mCall F__law_is_id (mCons (mBin dIx (mVar 1) (mC (.int 0))) mNil)))) (mNot (mB (mCall F__law_is_value (mCons (mBin dIx (mVar 1) (mC (.int 1))) mNil))))))) (sRet (mC (.bl false))) sPass)) (sRet (mBin dEq (mComp [2, 3] (bTup [(bName 2), (bName 3)]) (mNot (mB (mBin dLt (mBin dIx (mVar 2) (mC (.int 0))) (mBin dIx (mVar 3) (mC (.int 0)))))) (mC (.int 1)) (mZip (mCons (mVar 0) (mCons (mSl dSl (mVar 0) (mSome (mC (.int 1))) mNone) mNil)))) (mLst mNil)))))
noncomputable def F__law_are_cells : List D → Option FR := fnOf 4 none mb__law_are_cells
theorem ok__law_are_cells {k : Nat} (T : Txt K mg) : FnOk P w K mg base CX0 (k + 4) T.f__law_are_cells T.d__law_are_cells ["thing"] (spF (UU P w K T) none 1 F__law_are_cells) :=
  fn_data (own := []) (io := none) (mb := mb__law_are_cells) (U := (UU P w K T)) (k := k + 3) T.F__law_are_cells sc__law_are_cells (by decide) (by decide) (fun j hj => nomatch hj) fun cdv A outer s H E hr => fun pa A2 => ⟨_, (dss_cons (ds_if (dt_w (dw_or (dt_not (dt_val (de_isi (Ts := "tuple") ⟨rfl, rfl, rfl⟩ (by rfl) T.n_isinstance (de_var (i := 0)) (by unfold okT; decide) (by rfl) T.n_tuple (by decide +kernel)))) (dw_or1 (dt_cmp o_gt (de_callB (o_len ⟨rfl, rfl, rfl⟩) (by rfl) T.n_len (by decide +kernel) (da_cons (de_var (i := 0)) da_nil)) de_int (nomark _))))) (dss_one (ds_ret de_bl)) dss_nil) (dss_cons (ds_for (vs := [1]) PassesOwn.never rfl (di_seq (de_var (i := 0))) (dg_name (i := 1) sc__law_are_cells.nd rfl (Or.inl rfl) (of_decide_eq_false rfl) (by decide)) (dss_one (ds_if (dt_w (dw_or (dt_not (dt_val (de_isi (Ts := "tuple") ⟨rfl, rfl, rfl⟩ (by rfl) T.n_isinstance (de_var (i := 1)) (by unfold okT; decide) (by rfl) T.n_tuple (by decide +kernel)))) (dw_or (dt_cmp (o_ne (room200 hr)) (de_callB (o_len ⟨rfl, rfl, rfl⟩) (by rfl) T.n_len (by decide +kernel) (da_cons (de_var (i := 1)) da_nil)) de_int (nomark _)) (dw_or (dt_not (dt_val (de_call (ok__law_is_id T) hr (by rfl) T.g__law_is_id T.F__law_is_id.kp T.b__law_is_id (da_cons (de_ix (o_ix ⟨rfl, rfl, rfl⟩) (de_var (i := 1)) de_int (fun _ _ => rfl)) da_nil) (many_cons many_nil)))) (dw_or1 (dt_not (dt_val (de_call (ok__law_is_value T) hr (by rfl) T.g__law_is_value T.F__law_is_value.kp T.b__law_is_value (da_cons (de_ix (o_ix ⟨rfl, rfl, rfl⟩) (de_var (i := 1)) de_int (fun _ _ => rfl)) da_nil) (many_cons many_nil))))))))) (dss_one (ds_ret de_bl)) dss_nil))) (dss_one (ds_ret (de_cmp (o_eq ⟨rfl, rfl, rfl⟩ (room200 hr)) (DF.de (df_comp (g := gTup K 2 (gCons (gName 2) (gCons (gName 3) gNil))) rfl sc__law_are_cells.nd (di_zip (by rfl) T.n_zip (de_var (i := 0)) (de_sl (o_sl ⟨rfl, rfl, rfl⟩) (de_var (i := 0)) (do_some de_int) do_none)) (blkOk_by (own := [("one", 2), ("other", 3)]) (N := N__law_are_cells) (sc := defScope s__law_are_cells) (by decide +kernel)) rfl (of_decide_eq_true rfl) (fun _ _ _ _ _ _ _ => (dg_tup rfl (dgs_cons (dg_name (i := 2) sc__law_are_cells.nd rfl (Or.inl rfl) (of_decide_eq_false rfl) (by decide)) (dgs_cons (dg_name (i := 3) sc__law_are_cells.nd rfl (Or.inl rfl) (of_decide_eq_false rfl) (by decide)) dgs_nil)))) (fun _ _ _ _ _ _ _ => (dts_one (dt_not (dt_cmp (o_lt (room200 hr)) (de_ix (o_ix ⟨rfl, rfl, rfl⟩) (de_var (i := 2)) de_int (fun _ _ => rfl)) (de_ix (o_ix ⟨rfl, rfl, rfl⟩) (de_var (i := 3)) de_int (fun _ _ => rfl)) (nomark _))))) (fun _ _ _ _ _ _ _ => de_int))) (DF.de (df_lst da_nil)) (nomark _))))))⟩
noncomputable def mb__law_is_part : M Fl := (sSeq (mIf (mB (mBin dEq (mVar 0) (mC (.str "n")))) (sRet (mCall F__law_is_name (mCons (mVar 1) mNil))) sPass) (sSeq (mIf (mB (mBin dEq (mVar 0) (mC (.str "i")))) (sRet (mCall F__law_is_id (mCons (mVar 1) mNil))) sPass) (sSeq (mIf (mB (mBin dEq (mVar 0) (mC (.str "t")))) (sRet (mAndV (mUn (dIsi "str") (mVar 1)) (mBin dIn (mVar 1) (mTup (mCons (mC (.str "number")) (mCons (mC (.str "word")) (mCons (mC (.str "any")) mNil))))))) sPass) (sSeq (mIf (mB (mBin dEq (mVar 0) (mC (.str "v")))) (sRet (mOrV (mBin dIs (mVar 1) (mC .non)) (mCall F__law_is_value (mCons (mVar 1) mNil)))) sPass) (sSeq (mIf (mB (mBin dEq (mVar 0) (mC (.str "c")))) (sRet (mCall F__law_are_cells (mCons (mVar 1) mNil))) sPass) (sRet (mCall F__law_between (mCons (mVar 1) (mCons (mC (.int 0)) (mCons (mBin dIxK (mC (.dct [.str "k", .str "h", .str "m"] [.int 1000000000, .int 7, .int 1000000])) (mVar 0)) mNil))))))))))
noncomputable def F__law_is_part : List D → Option FR := fnOf 2 none mb__law_is_part
theorem ok__law_is_part {k : Nat} (T : Txt K mg) : FnOk P w K mg base CX0 (k + 5) T.f__law_is_part T.d__law_is_part ["sign", "thing"] (spF (UU P w K T) none 2 F__law_is_part) :=
  fn_data (own := []) (io := none) (mb := mb__law_is_part) (U := (UU P w K T)) (k := k + 4) T.F__law_is_part sc__law_is_part (by decide) (by decide) (fun j hj => nomatch hj) fun cdv A outer s H E hr => fun pa A2 => ⟨_, (dss_cons (ds_if (dt_cmp (o_eq ⟨rfl, rfl, rfl⟩ (room200 hr)) (de_var (i := 0)) de_str (nomark _)) (dss_one (ds_ret (de_call (ok__law_is_name T) hr (by rfl) T.g__law_is_name T.F__law_is_name.kp T.b__law_is_name (da_cons (de_var (i := 1)) da_nil) (many_cons many_nil)))) dss_nil) (dss_cons (ds_if (dt_cmp (o_eq ⟨rfl, rfl, rfl⟩ (room200 hr)) (de_var (i := 0)) de_str (nomark _)) (dss_one (ds_ret (de_call (ok__law_is_id T) hr (by rfl) T.g__law_is_id T.F__law_is_id.kp T.b__law_is_id (da_cons (de_var (i := 1)) da_nil) (many_cons many_nil)))) dss_nil) (dss_cons (ds_if (dt_cmp (o_eq ⟨rfl, rfl, rfl⟩ (room200 hr)) (de_var (i := 0)) de_str (nomark _)) (dss_one (ds_ret (de_and (de_isi (Ts := "str") ⟨rfl, rfl, rfl⟩ (by rfl) T.n_isinstance (de_var (i := 1)) (by unfold okT; decide) (by rfl) T.n_str (by decide +kernel)) (de_one (de_cmp (o_in ⟨rfl, rfl, rfl⟩ (room200 hr)) (de_var (i := 1)) (de_tup (da_cons de_str (da_cons de_str (da_cons de_str da_nil)))) (by rfl)))))) dss_nil) (dss_cons (ds_if (dt_cmp (o_eq ⟨rfl, rfl, rfl⟩ (room200 hr)) (de_var (i := 0)) de_str (nomark _)) (dss_one (ds_ret (de_or (de_cmp o_is (de_var (i := 1)) de_non (nomark _)) (de_one (de_call (ok__law_is_value T) hr (by rfl) T.g__law_is_value T.F__law_is_value.kp T.b__law_is_value (da_cons (de_var (i := 1)) da_nil) (many_cons many_nil)))))) dss_nil) (dss_cons (ds_if (dt_cmp (o_eq ⟨rfl, rfl, rfl⟩ (room200 hr)) (de_var (i := 0)) de_str (nomark _)) (dss_one (ds_ret (de_call (ok__law_are_cells T) hr (by rfl) T.g__law_are_cells T.F__law_are_cells.kp T.b__law_are_cells (da_cons (de_var (i := 1)) da_nil) (many_cons many_nil)))) dss_nil) (dss_one (ds_ret (de_call (ok__law_between T) hr (by rfl) T.g__law_between T.F__law_between.kp T.b__law_between (da_cons (de_var (i := 1)) (da_cons de_int (da_cons (de_ix (o_ixK (room200 hr)) (DF.de (df_disp (ks := [.str "k", .str "h", .str "m"]) (vs := [.int 1000000000, .int 7, .int 1000000]) (cps_cons (key := .inr "k") (val := .int 1000000000) ce_str (ce_pow (r := 1000000000) rfl) (cps_cons (key := .inr "h") (val := .int 7) ce_str ce_int (cps_cons (key := .inr "m") (val := .int 1000000) ce_str (ce_pow (r := 1000000) rfl) cps_nil))) rfl (fun _ _ => .cons (.str _ (by decide +kernel)) (.cons (.str _ (by decide +kernel)) (.cons (.str _ (by decide +kernel)) (.nil)))) (fun _ _ => .cons (.int _) (.cons (.int _) (.cons (.int _) (.nil)))))) (de_var (i := 0)) (fun _ _ => rfl)) da_nil))) (many_cons (many_cons (many_cons many_nil)))))))))))⟩
end
end K37
set_option maxHeartbeats 1000000
namespace K37
open PySem PySem.Spec PyProof.Rows L2 Bx
def isInt : D → Bool
  | .int _ => true
  | _ => false
theorem lwhole_ok {d : D} (h : isE d = false) : F__law_whole [d] = some (.ok (.bl (isInt d)) .non) := by
  have h1 := isi_of (T := "bool") h
  have h2 := isi_of (T := "int") h
  cases d with
  | _ => simp [F__law_whole, mb__law_whole, h1, h2, isInt, D.kind, isK, fnOf, startE, sSeq, sSet, sRet, sPass, sBind, bTup, bAll, bName, mIf, mOr, mAnd, mNot, mB, mUn, mBin, mVar, mC, mFn, mCons, mNil, mTup, mLst, mCall, mCall0, mChain, mAndV, mOrV, mNotV, mSl, mSome, mNone, M.bind, M.pure, M.opt, mFail, ioOut, Option.map_some, List.map_cons, List.map_nil, List.length_cons, List.length_nil, List.cons_append, List.nil_append, List.replicate_succ, List.replicate_zero, Nat.reduceSub, Nat.reduceAdd, List.getElem?_cons_zero, List.getElem?_cons_succ, List.set_cons_zero, List.set_cons_succ, Bool.not_true, Bool.not_false, Bool.false_eq_true, if_true, if_false, ite_true, ite_false, reduceIte]
theorem between_ok {d : D} (h : isE d = false) (lo hi : Int) : F__law_between [d, .int lo, .int hi] = some (.ok (.bl (wholeB lo hi d)) .non) := by
  cases d with
  | int i => by_cases hlo : lo ≤ i <;> simp [F__law_between, mb__law_between, lwhole_ok h, isInt, wholeB, dLe_int, hlo, fnOf, startE, sSeq, sSet, sRet, sPass, sBind, bTup, bAll, bName, mIf, mOr, mAnd, mNot, mB, mUn, mBin, mVar, mC, mFn, mCons, mNil, mTup, mLst, mCall, mCall0, mChain, mAndV, mOrV, mNotV, mSl, mSome, mNone, M.bind, M.pure, M.opt, mFail, ioOut, Option.map_some, List.map_cons, List.map_nil, List.length_cons, List.length_nil, List.cons_append, List.nil_append, List.replicate_succ, List.replicate_zero, Nat.reduceSub, Nat.reduceAdd, List.getElem?_cons_zero, List.getElem?_cons_succ, List.set_cons_zero, List.set_cons_succ, Bool.not_true, Bool.not_false, Bool.false_eq_true, if_true, if_false, ite_true, ite_false, reduceIte]
  | _ => simp [F__law_between, mb__law_between, lwhole_ok h, isInt, wholeB, fnOf, startE, sSeq, sSet, sRet, sPass, sBind, bTup, bAll, bName, mIf, mOr, mAnd, mNot, mB, mUn, mBin, mVar, mC, mFn, mCons, mNil, mTup, mLst, mCall, mCall0, mChain, mAndV, mOrV, mNotV, mSl, mSome, mNone, M.bind, M.pure, M.opt, mFail, ioOut, Option.map_some, List.map_cons, List.map_nil, List.length_cons, List.length_nil, List.cons_append, List.nil_append, List.replicate_succ, List.replicate_zero, Nat.reduceSub, Nat.reduceAdd, List.getElem?_cons_zero, List.getElem?_cons_succ, List.set_cons_zero, List.set_cons_succ, Bool.not_true, Bool.not_false, Bool.false_eq_true, if_true, if_false, ite_true, ite_false, reduceIte]
theorem signs_len (z : Str) : (z.cps.toList.map fun c => D.str (oneS c)).length = z.length := by
  rw [List.length_map]; rfl
theorem eqD_nil (L : List D) : dEq (.lst L) (.lst []) = if dep (.lst L) ≤ 100 then some (.bl L.isEmpty) else none := by
  unfold dEq
  have h1 : eqok (.lst L) (.lst []) = true := by
    cases L with
    | nil => rfl
    | cons a r => rfl
  have h2 : eqD (.lst L) (.lst []) = L.isEmpty := by
    cases L with
    | nil => rfl
    | cons a r => rfl
  rw [h1, h2]
  simp
theorem dep_ones (L : List D) : dep (.lst (L.map fun _ => D.int 1)) ≤ 100 := by
  have : deps (L.map fun _ => D.int 1) = 0 := by
    induction L with
    | nil => rfl
    | cons a r ih =>
      rw [List.map_cons, deps, ih]
      rfl
  rw [dep, this]
  decide
theorem lword_ok {d : D} (h : isE d = false) : F__law_is_word [d] = some (.ok (.bl (wordB d)) .non) := by
  have h1 := isi_of (T := "str") h
  cases d with
  | str z =>
    have hz : dLen [.str z] = some (.int z.length) := rfl
    have ew : wordB (.str z) = (decide (z.length ≤ 8) && (decide (0 < z.length) && Pr.azAll z)) := rfl
    by_cases h0 : 0 < z.length
    · have g0 : dLe (.int 1) (.int z.length) = some (.bl true) := by rw [dLe_int, decide_eq_true (by omega)]
      by_cases hl : z.length ≤ 8
      · have g8 : dLe (.int z.length) (.int 8) = some (.bl true) := by rw [dLe_int, decide_eq_true (by omega)]
        have hs : mSigns (mVar 0) [some (.str z), none] = some (.ok (z.cps.toList.map fun c => .str (oneS c)) [some (.str z), none]) := rfl
        let g : D → Bool := fun d => match d with
          | .str s => !decide (s.cps.getD 0 0 ∈ (Pr.azS).cps.toList)
          | _ => true
        have hc := mComp_of (vs := [1]) (b := bName 1) (c := mB (mBin dNotIn (mVar 1) (mC (.str "abcdefghijklmnopqrstuvwxyz")))) (e := mC (.int 1)) hs g (fun _ => .int 1) (fun d hd => by
          obtain ⟨c, hc, rfl⟩ := List.mem_map.mp hd
          refine ⟨[some (.str z), some (.str (oneS c))], rfl, ?_, fun _ => rfl, rfl⟩
          have hn : dNotIn (.str (oneS c)) (.str "abcdefghijklmnopqrstuvwxyz") = some (.bl (g (.str (oneS c)))) := rfl
          simp [hn, fnOf, startE, sSeq, sSet, sRet, sPass, sBind, bTup, bAll, bName, mIf, mOr, mAnd, mNot, mB, mUn, mBin, mVar, mC, mFn, mCons, mNil, mTup, mLst, mCall, mCall0, mChain, mAndV, mOrV, mNotV, mSl, mSome, mNone, M.bind, M.pure, M.opt, mFail, ioOut, Option.map_some, List.map_cons, List.map_nil, List.length_cons, List.length_nil, List.cons_append, List.nil_append, List.replicate_succ, List.replicate_zero, Nat.reduceSub, Nat.reduceAdd, List.getElem?_cons_zero, List.getElem?_cons_succ, List.set_cons_zero, List.set_cons_succ, Bool.not_true, Bool.not_false, Bool.false_eq_true, if_true, if_false, ite_true, ite_false, reduceIte]) (by rw [signs_len]; have : (maxL : Nat) = 1000000 := rfl; omega)
        have hf : ((List.filter g (z.cps.toList.map fun c => .str (oneS c))).map fun _ => D.int 1).isEmpty = Pr.azAll z := by
          rw [← Pr.filter_empty z, List.isEmpty_map, List.filter_map, List.isEmpty_map]
          rfl
        have hd := eqD_nil ((List.filter g (z.cps.toList.map fun c => .str (oneS c))).map fun _ => D.int 1)
        rw [if_pos (dep_ones _), hf] at hd
        rw [ew, decide_eq_true hl, decide_eq_true h0]
        have key : ∀ (m1 : M D) (L : List D), dEq (.lst L) (.lst []) = some (.bl (Pr.azAll z)) → m1 [some (.str z), none] = some (.ok (.lst L) [some (.str z), none]) → (fnOf 2 none (sSeq (mIf (mOr (mNot (mB (mUn (dIsi "str") (mVar 0)))) (mNot (mB (mChain dLe dLe (mC (.int 1)) (mFn dLen (mCons (mVar 0) mNil)) (mC (.int 8)))))) (sRet (mC (.bl false))) sPass) (sRet (mBin dEq m1 (mLst mNil))))) [.str z] = some (.ok (.bl (true && (true && Pr.azAll z))) .non) := fun m1 L ha hc => by
          simp [h1, hz, g0, g8, D.kind, isK, hc, ha, fnOf, startE, sSeq, sSet, sRet, sPass, sBind, bTup, bAll, bName, mIf, mOr, mAnd, mNot, mB, mUn, mBin, mVar, mC, mFn, mCons, mNil, mTup, mLst, mCall, mCall0, mChain, mAndV, mOrV, mNotV, mSl, mSome, mNone, M.bind, M.pure, M.opt, mFail, ioOut, Option.map_some, List.map_cons, List.map_nil, List.length_cons, List.length_nil, List.cons_append, List.nil_append, List.replicate_succ, List.replicate_zero, Nat.reduceSub, Nat.reduceAdd, List.getElem?_cons_zero, List.getElem?_cons_succ, List.set_cons_zero, List.set_cons_succ, Bool.not_true, Bool.not_false, Bool.false_eq_true, if_true, if_false, ite_true, ite_false, reduceIte]
        exact key _ _ hd hc
      · have g8 : dLe (.int z.length) (.int 8) = some (.bl false) := by rw [dLe_int, decide_eq_false (by omega)]
        rw [ew, decide_eq_false hl]
        simp [F__law_is_word, mb__law_is_word, h1, hz, g0, g8, D.kind, isK, fnOf, startE, sSeq, sSet, sRet, sPass, sBind, bTup, bAll, bName, mIf, mOr, mAnd, mNot, mB, mUn, mBin, mVar, mC, mFn, mCons, mNil, mTup, mLst, mCall, mCall0, mChain, mAndV, mOrV, mNotV, mSl, mSome, mNone, M.bind, M.pure, M.opt, mFail, ioOut, Option.map_some, List.map_cons, List.map_nil, List.length_cons, List.length_nil, List.cons_append, List.nil_append, List.replicate_succ, List.replicate_zero, Nat.reduceSub, Nat.reduceAdd, List.getElem?_cons_zero, List.getElem?_cons_succ, List.set_cons_zero, List.set_cons_succ, Bool.not_true, Bool.not_false, Bool.false_eq_true, if_true, if_false, ite_true, ite_false, reduceIte]
    · have g0 : dLe (.int 1) (.int z.length) = some (.bl false) := by rw [dLe_int, decide_eq_false (by omega)]
      rw [ew, decide_eq_false h0, Bool.false_and, Bool.and_false]
      simp [F__law_is_word, mb__law_is_word, h1, hz, g0, D.kind, isK, fnOf, startE, sSeq, sSet, sRet, sPass, sBind, bTup, bAll, bName, mIf, mOr, mAnd, mNot, mB, mUn, mBin, mVar, mC, mFn, mCons, mNil, mTup, mLst, mCall, mCall0, mChain, mAndV, mOrV, mNotV, mSl, mSome, mNone, M.bind, M.pure, M.opt, mFail, ioOut, Option.map_some, List.map_cons, List.map_nil, List.length_cons, List.length_nil, List.cons_append, List.nil_append, List.replicate_succ, List.replicate_zero, Nat.reduceSub, Nat.reduceAdd, List.getElem?_cons_zero, List.getElem?_cons_succ, List.set_cons_zero, List.set_cons_succ, Bool.not_true, Bool.not_false, Bool.false_eq_true, if_true, if_false, ite_true, ite_false, reduceIte]
  | _ => simp [F__law_is_word, mb__law_is_word, h1, wordB, D.kind, isK, fnOf, startE, sSeq, sSet, sRet, sPass, sBind, bTup, bAll, bName, mIf, mOr, mAnd, mNot, mB, mUn, mBin, mVar, mC, mFn, mCons, mNil, mTup, mLst, mCall, mCall0, mChain, mAndV, mOrV, mNotV, mSl, mSome, mNone, M.bind, M.pure, M.opt, mFail, ioOut, Option.map_some, List.map_cons, List.map_nil, List.length_cons, List.length_nil, List.cons_append, List.nil_append, List.replicate_succ, List.replicate_zero, Nat.reduceSub, Nat.reduceAdd, List.getElem?_cons_zero, List.getElem?_cons_succ, List.set_cons_zero, List.set_cons_succ, Bool.not_true, Bool.not_false, Bool.false_eq_true, if_true, if_false, ite_true, ite_false, reduceIte]
theorem lname_ok {d : D} (h : isE d = false) : F__law_is_name [d] = some (.ok (.bl (nameB d)) .non) := by
  have h1 := lword_ok h
  cases d with
  | str z => cases hw : wordB (.str z) <;> simp [F__law_is_name, mb__law_is_name, h1, hw, nameB, isStr, ne_str, fnOf, startE, sSeq, sSet, sRet, sPass, sBind, bTup, bAll, bName, mIf, mOr, mAnd, mNot, mB, mUn, mBin, mVar, mC, mFn, mCons, mNil, mTup, mLst, mCall, mCall0, mChain, mAndV, mOrV, mNotV, mSl, mSome, mNone, M.bind, M.pure, M.opt, mFail, ioOut, Option.map_some, List.map_cons, List.map_nil, List.length_cons, List.length_nil, List.cons_append, List.nil_append, List.replicate_succ, List.replicate_zero, Nat.reduceSub, Nat.reduceAdd, List.getElem?_cons_zero, List.getElem?_cons_succ, List.set_cons_zero, List.set_cons_succ, Bool.not_true, Bool.not_false, Bool.false_eq_true, if_true, if_false, ite_true, ite_false, reduceIte]
  | _ => simp [F__law_is_name, mb__law_is_name, h1, wordB, nameB, fnOf, startE, sSeq, sSet, sRet, sPass, sBind, bTup, bAll, bName, mIf, mOr, mAnd, mNot, mB, mUn, mBin, mVar, mC, mFn, mCons, mNil, mTup, mLst, mCall, mCall0, mChain, mAndV, mOrV, mNotV, mSl, mSome, mNone, M.bind, M.pure, M.opt, mFail, ioOut, Option.map_some, List.map_cons, List.map_nil, List.length_cons, List.length_nil, List.cons_append, List.nil_append, List.replicate_succ, List.replicate_zero, Nat.reduceSub, Nat.reduceAdd, List.getElem?_cons_zero, List.getElem?_cons_succ, List.set_cons_zero, List.set_cons_succ, Bool.not_true, Bool.not_false, Bool.false_eq_true, if_true, if_false, ite_true, ite_false, reduceIte]
theorem pow_9 : dPow (.int 10) (.int 9) = some (.int 1000000000) := rfl
theorem pow_6 : dPow (.int 10) (.int 6) = some (.int 1000000) := rfl
theorem neg_9 : dNeg (.int 1000000000) = some (.int (-1000000000)) := rfl
theorem lvalue_ok {d : D} (h : isE d = false) : F__law_is_value [d] = some (.ok (.bl (valueB d)) .non) := by
  cases hw : wordB d <;> simp [F__law_is_value, mb__law_is_value, between_ok h, lword_ok h, hw, pow_9, neg_9, valueB, fnOf, startE, sSeq, sSet, sRet, sPass, sBind, bTup, bAll, bName, mIf, mOr, mAnd, mNot, mB, mUn, mBin, mVar, mC, mFn, mCons, mNil, mTup, mLst, mCall, mCall0, mChain, mAndV, mOrV, mNotV, mSl, mSome, mNone, M.bind, M.pure, M.opt, mFail, ioOut, Option.map_some, List.map_cons, List.map_nil, List.length_cons, List.length_nil, List.cons_append, List.nil_append, List.replicate_succ, List.replicate_zero, Nat.reduceSub, Nat.reduceAdd, List.getElem?_cons_zero, List.getElem?_cons_succ, List.set_cons_zero, List.set_cons_succ, Bool.not_true, Bool.not_false, Bool.false_eq_true, if_true, if_false, ite_true, ite_false, reduceIte]
theorem lid_ok {d : D} (h : gd d = true) : F__law_is_id [d] = some (.ok (.bl (idB d)) .non) := by
  have h1 := isi_of (T := "tuple") (gd_e h)
  cases d with
  | tup ds =>
    match ds, h with
    | [a, b, c], h =>
      have ga := gd_e (gds_mem (d := a) (by rwa [gd] at h) (by simp))
      have gb := gd_e (gds_mem (d := b) (by rwa [gd] at h) (by simp))
      have gc := gd_e (gds_mem (d := c) (by rwa [gd] at h) (by simp))
      have i0 : dIx (.tup [a, b, c]) (.int 0) = some a := rfl
      have i1 : dIx (.tup [a, b, c]) (.int 1) = some b := rfl
      have i2 : dIx (.tup [a, b, c]) (.int 2) = some c := rfl
      cases ha : wholeB 0 7 a <;> cases hb : nameB b <;> simp [F__law_is_id, mb__law_is_id, h1, D.kind, isK, len_tup, ne_int, i0, i1, i2, between_ok ga, lname_ok gb, between_ok gc, pow_6, ha, hb, idB, fnOf, startE, sSeq, sSet, sRet, sPass, sBind, bTup, bAll, bName, mIf, mOr, mAnd, mNot, mB, mUn, mBin, mVar, mC, mFn, mCons, mNil, mTup, mLst, mCall, mCall0, mChain, mAndV, mOrV, mNotV, mSl, mSome, mNone, M.bind, M.pure, M.opt, mFail, ioOut, Option.map_some, List.map_cons, List.map_nil, List.length_cons, List.length_nil, List.cons_append, List.nil_append, List.replicate_succ, List.replicate_zero, Nat.reduceSub, Nat.reduceAdd, List.getElem?_cons_zero, List.getElem?_cons_succ, List.set_cons_zero, List.set_cons_succ, Bool.not_true, Bool.not_false, Bool.false_eq_true, if_true, if_false, ite_true, ite_false, reduceIte]
    | [], _ => simp [F__law_is_id, mb__law_is_id, h1, D.kind, isK, len_tup, ne_int, idB, fnOf, startE, sSeq, sSet, sRet, sPass, sBind, bTup, bAll, bName, mIf, mOr, mAnd, mNot, mB, mUn, mBin, mVar, mC, mFn, mCons, mNil, mTup, mLst, mCall, mCall0, mChain, mAndV, mOrV, mNotV, mSl, mSome, mNone, M.bind, M.pure, M.opt, mFail, ioOut, Option.map_some, List.map_cons, List.map_nil, List.length_cons, List.length_nil, List.cons_append, List.nil_append, List.replicate_succ, List.replicate_zero, Nat.reduceSub, Nat.reduceAdd, List.getElem?_cons_zero, List.getElem?_cons_succ, List.set_cons_zero, List.set_cons_succ, Bool.not_true, Bool.not_false, Bool.false_eq_true, if_true, if_false, ite_true, ite_false, reduceIte]
    | [a], _ => simp [F__law_is_id, mb__law_is_id, h1, D.kind, isK, len_tup, ne_int, idB, fnOf, startE, sSeq, sSet, sRet, sPass, sBind, bTup, bAll, bName, mIf, mOr, mAnd, mNot, mB, mUn, mBin, mVar, mC, mFn, mCons, mNil, mTup, mLst, mCall, mCall0, mChain, mAndV, mOrV, mNotV, mSl, mSome, mNone, M.bind, M.pure, M.opt, mFail, ioOut, Option.map_some, List.map_cons, List.map_nil, List.length_cons, List.length_nil, List.cons_append, List.nil_append, List.replicate_succ, List.replicate_zero, Nat.reduceSub, Nat.reduceAdd, List.getElem?_cons_zero, List.getElem?_cons_succ, List.set_cons_zero, List.set_cons_succ, Bool.not_true, Bool.not_false, Bool.false_eq_true, if_true, if_false, ite_true, ite_false, reduceIte]
    | [a, b], _ => simp [F__law_is_id, mb__law_is_id, h1, D.kind, isK, len_tup, ne_int, idB, fnOf, startE, sSeq, sSet, sRet, sPass, sBind, bTup, bAll, bName, mIf, mOr, mAnd, mNot, mB, mUn, mBin, mVar, mC, mFn, mCons, mNil, mTup, mLst, mCall, mCall0, mChain, mAndV, mOrV, mNotV, mSl, mSome, mNone, M.bind, M.pure, M.opt, mFail, ioOut, Option.map_some, List.map_cons, List.map_nil, List.length_cons, List.length_nil, List.cons_append, List.nil_append, List.replicate_succ, List.replicate_zero, Nat.reduceSub, Nat.reduceAdd, List.getElem?_cons_zero, List.getElem?_cons_succ, List.set_cons_zero, List.set_cons_succ, Bool.not_true, Bool.not_false, Bool.false_eq_true, if_true, if_false, ite_true, ite_false, reduceIte]
    | a :: b :: c :: e :: r, _ =>
      have hn : dNe2 (.int ((a :: b :: c :: e :: r).length : Nat)) (.int 3) = some (.bl true) := by
        rw [ne_int]
        have : (((a :: b :: c :: e :: r).length : Int) == 3) = false := beq_false_of_ne (by simp only [List.length_cons]; omega)
        rw [this]; rfl
      have hl := len_tup (a :: b :: c :: e :: r)
      have hi : idB (.tup (a :: b :: c :: e :: r)) = false := rfl
      generalize (a :: b :: c :: e :: r) = ds at *
      simp [F__law_is_id, mb__law_is_id, h1, D.kind, isK, hl, hn, hi, fnOf, startE, sSeq, sSet, sRet, sPass, sBind, bTup, bAll, bName, mIf, mOr, mAnd, mNot, mB, mUn, mBin, mVar, mC, mFn, mCons, mNil, mTup, mLst, mCall, mCall0, mChain, mAndV, mOrV, mNotV, mSl, mSome, mNone, M.bind, M.pure, M.opt, mFail, ioOut, Option.map_some, List.map_cons, List.map_nil, List.length_cons, List.length_nil, List.cons_append, List.nil_append, List.replicate_succ, List.replicate_zero, Nat.reduceSub, Nat.reduceAdd, List.getElem?_cons_zero, List.getElem?_cons_succ, List.set_cons_zero, List.set_cons_succ, Bool.not_true, Bool.not_false, Bool.false_eq_true, if_true, if_false, ite_true, ite_false, reduceIte]
  | _ => simp [F__law_is_id, mb__law_is_id, h1, D.kind, isK, idB, fnOf, startE, sSeq, sSet, sRet, sPass, sBind, bTup, bAll, bName, mIf, mOr, mAnd, mNot, mB, mUn, mBin, mVar, mC, mFn, mCons, mNil, mTup, mLst, mCall, mCall0, mChain, mAndV, mOrV, mNotV, mSl, mSome, mNone, M.bind, M.pure, M.opt, mFail, ioOut, Option.map_some, List.map_cons, List.map_nil, List.length_cons, List.length_nil, List.cons_append, List.nil_append, List.replicate_succ, List.replicate_zero, Nat.reduceSub, Nat.reduceAdd, List.getElem?_cons_zero, List.getElem?_cons_succ, List.set_cons_zero, List.set_cons_succ, Bool.not_true, Bool.not_false, Bool.false_eq_true, if_true, if_false, ite_true, ite_false, reduceIte]
end K37
set_option maxHeartbeats 1000000
namespace K37
open PySem PySem.Spec PyProof.Rows L2 Bx
theorem forL_ret {b : Bd} {body : M Fl} {r : D} (g : D → Bool) (I : Bx.Env → Prop) : ∀ (ds : List D) (ρ : Bx.Env), I ρ → (∀ d ∈ ds, ∀ ρ, I ρ → ∃ ρ1, b d ρ = some ρ1 ∧ body ρ1 = some (.ok (if g d = true then .nx else .rt r) ρ1) ∧ I ρ1) → ∃ ρ', forL b body ds ρ = some (.ok (if ds.all g = true then .nx else .rt r) ρ') ∧ I ρ'
  | [], ρ, h0, _ => ⟨ρ, rfl, h0⟩
  | d :: ds, ρ, h0, h => by
    obtain ⟨ρ1, e1, e2, i1⟩ := h d (by simp) ρ h0
    cases hg : g d with
    | true =>
      rw [hg] at e2
      simp only [if_true] at e2
      obtain ⟨ρ', e3, i3⟩ := forL_ret (r := r) g I ds ρ1 i1 fun d' m => h d' (by simp [m])
      refine ⟨ρ', ?_, i3⟩
      rw [forL]
      simp only [e1, e2, List.all_cons, hg, Bool.true_and]
      exact e3
    | false =>
      rw [hg] at e2
      simp only [Bool.false_eq_true, if_false] at e2
      refine ⟨ρ1, ?_, i1⟩
      rw [forL]
      simp [e1, e2, List.all_cons, hg]
theorem lcell_body {x0 : D} {d : D} (h : gd d = true) (x : Option D) : (mIf (mOr (mNot (mB (mUn (dIsi "tuple") (mVar 1)))) (mOr (mB (mBin dNe2 (mFn dLen (mCons (mVar 1) mNil)) (mC (.int 2)))) (mOr (mNot (mB (mCall F__law_is_id (mCons (mBin dIx (mVar 1) (mC (.int 0))) mNil)))) (mNot (mB (mCall F__law_is_value (mCons (mBin dIx (mVar 1) (mC (.int 1))) mNil))))))) (sRet (mC (.bl false))) sPass) [some x0, some d, none, none] = some (.ok (if cellB d = true then .nx else .rt (.bl false)) [some x0, some d, none, none]) := by
  have h1 := isi_of (T := "tuple") (gd_e h)
  cases d with
  | tup ds =>
    match ds, h with
    | [a, b], h =>
      have ga := gds_mem (d := a) (by rwa [gd] at h) (by simp)
      have gb := gd_e (gds_mem (d := b) (by rwa [gd] at h) (by simp))
      have i0 : dIx (.tup [a, b]) (.int 0) = some a := rfl
      have i1 : dIx (.tup [a, b]) (.int 1) = some b := rfl
      cases ha : idB a <;> cases hb : valueB b <;> simp [h1, D.kind, isK, len_tup, ne_int, i0, i1, lid_ok ga, lvalue_ok gb, ha, hb, cellB, fnOf, startE, sSeq, sSet, sRet, sPass, sBind, bTup, bAll, bName, mIf, mOr, mAnd, mNot, mB, mUn, mBin, mVar, mC, mFn, mCons, mNil, mTup, mLst, mCall, mCall0, mChain, mAndV, mOrV, mNotV, mSl, mSome, mNone, M.bind, M.pure, M.opt, mFail, ioOut, Option.map_some, List.map_cons, List.map_nil, List.length_cons, List.length_nil, List.cons_append, List.nil_append, List.replicate_succ, List.replicate_zero, Nat.reduceSub, Nat.reduceAdd, List.getElem?_cons_zero, List.getElem?_cons_succ, List.set_cons_zero, List.set_cons_succ, Bool.not_true, Bool.not_false, Bool.false_eq_true, if_true, if_false, ite_true, ite_false, reduceIte]
    | [], _ => simp [h1, D.kind, isK, len_tup, ne_int, cellB, fnOf, startE, sSeq, sSet, sRet, sPass, sBind, bTup, bAll, bName, mIf, mOr, mAnd, mNot, mB, mUn, mBin, mVar, mC, mFn, mCons, mNil, mTup, mLst, mCall, mCall0, mChain, mAndV, mOrV, mNotV, mSl, mSome, mNone, M.bind, M.pure, M.opt, mFail, ioOut, Option.map_some, List.map_cons, List.map_nil, List.length_cons, List.length_nil, List.cons_append, List.nil_append, List.replicate_succ, List.replicate_zero, Nat.reduceSub, Nat.reduceAdd, List.getElem?_cons_zero, List.getElem?_cons_succ, List.set_cons_zero, List.set_cons_succ, Bool.not_true, Bool.not_false, Bool.false_eq_true, if_true, if_false, ite_true, ite_false, reduceIte]
    | [a], _ => simp [h1, D.kind, isK, len_tup, ne_int, cellB, fnOf, startE, sSeq, sSet, sRet, sPass, sBind, bTup, bAll, bName, mIf, mOr, mAnd, mNot, mB, mUn, mBin, mVar, mC, mFn, mCons, mNil, mTup, mLst, mCall, mCall0, mChain, mAndV, mOrV, mNotV, mSl, mSome, mNone, M.bind, M.pure, M.opt, mFail, ioOut, Option.map_some, List.map_cons, List.map_nil, List.length_cons, List.length_nil, List.cons_append, List.nil_append, List.replicate_succ, List.replicate_zero, Nat.reduceSub, Nat.reduceAdd, List.getElem?_cons_zero, List.getElem?_cons_succ, List.set_cons_zero, List.set_cons_succ, Bool.not_true, Bool.not_false, Bool.false_eq_true, if_true, if_false, ite_true, ite_false, reduceIte]
    | a :: b :: c :: r, _ =>
      have hn : dNe2 (.int ((a :: b :: c :: r).length : Nat)) (.int 2) = some (.bl true) := by
        rw [ne_int]
        have : (((a :: b :: c :: r).length : Int) == 2) = false := beq_false_of_ne (by simp only [List.length_cons]; omega)
        rw [this]; rfl
      have hl := len_tup (a :: b :: c :: r)
      have hi : cellB (.tup (a :: b :: c :: r)) = false := rfl
      generalize (a :: b :: c :: r) = ds at *
      simp [h1, D.kind, isK, hl, hn, hi, fnOf, startE, sSeq, sSet, sRet, sPass, sBind, bTup, bAll, bName, mIf, mOr, mAnd, mNot, mB, mUn, mBin, mVar, mC, mFn, mCons, mNil, mTup, mLst, mCall, mCall0, mChain, mAndV, mOrV, mNotV, mSl, mSome, mNone, M.bind, M.pure, M.opt, mFail, ioOut, Option.map_some, List.map_cons, List.map_nil, List.length_cons, List.length_nil, List.cons_append, List.nil_append, List.replicate_succ, List.replicate_zero, Nat.reduceSub, Nat.reduceAdd, List.getElem?_cons_zero, List.getElem?_cons_succ, List.set_cons_zero, List.set_cons_succ, Bool.not_true, Bool.not_false, Bool.false_eq_true, if_true, if_false, ite_true, ite_false, reduceIte]
  | _ => simp [h1, D.kind, isK, cellB, fnOf, startE, sSeq, sSet, sRet, sPass, sBind, bTup, bAll, bName, mIf, mOr, mAnd, mNot, mB, mUn, mBin, mVar, mC, mFn, mCons, mNil, mTup, mLst, mCall, mCall0, mChain, mAndV, mOrV, mNotV, mSl, mSome, mNone, M.bind, M.pure, M.opt, mFail, ioOut, Option.map_some, List.map_cons, List.map_nil, List.length_cons, List.length_nil, List.cons_append, List.nil_append, List.replicate_succ, List.replicate_zero, Nat.reduceSub, Nat.reduceAdd, List.getElem?_cons_zero, List.getElem?_cons_succ, List.set_cons_zero, List.set_cons_succ, Bool.not_true, Bool.not_false, Bool.false_eq_true, if_true, if_false, ite_true, ite_false, reduceIte]
theorem rises_zip (ds : List D) : ((zipD ds (ds.drop 1)).filter fun d => !ltD (pr1 (pr1 d)) (pr1 (pr2 d))).isEmpty = risesB (ds.map pr1) := by
  unfold risesB zipD
  rw [List.filter_map, List.isEmpty_map, ← List.map_drop, List.zip_map, List.all_map]
  generalize ds.zip (ds.drop 1) = L
  induction L with
  | nil => rfl
  | cons p r ih =>
    rw [List.filter_cons, List.all_cons, ← ih]
    have e1 : ((fun d => !ltD (pr1 (pr1 d)) (pr1 (pr2 d))) ∘ fun p : D × D => D.tup [p.fst, p.snd]) p = !ltD (pr1 p.1) (pr1 p.2) := rfl
    have e2 : ((fun p : D × D => ltD p.fst p.snd) ∘ Prod.map pr1 pr1) p = ltD (pr1 p.1) (pr1 p.2) := rfl
    rw [e1, e2]
    cases hp : ltD (pr1 p.1) (pr1 p.2) with
    | true => rfl
    | false => rfl
theorem lare_cells_ok {d : D} (h : gd d = true) : F__law_are_cells [d] = some (.ok (.bl (cellsB d)) .non) := by
  have h1 := isi_of (T := "tuple") (gd_e h)
  cases d with
  | tup ds =>
    have gm : ∀ x ∈ ds, gd x = true := fun x hx => gds_mem (by rwa [gd] at h) hx
    have hl := len_tup ds
    by_cases h6 : ds.length ≤ 6
    · have hg : dGt (.int ds.length) (.int 6) = some (.bl false) := by rw [dGt_int, decide_eq_false (by omega)]
      have hm : ds.length ≤ maxL := by have : (maxL : Nat) = 1000000 := rfl; omega
      have hs : ∀ x, mSeq (mVar 0) [some (.tup ds), x, none, none] = some (.ok ds [some (.tup ds), x, none, none]) := fun _ => rfl
      obtain ⟨ρ', ef, x, rfl⟩ := forL_ret (b := bName 1) (body := (mIf (mOr (mNot (mB (mUn (dIsi "tuple") (mVar 1)))) (mOr (mB (mBin dNe2 (mFn dLen (mCons (mVar 1) mNil)) (mC (.int 2)))) (mOr (mNot (mB (mCall F__law_is_id (mCons (mBin dIx (mVar 1) (mC (.int 0))) mNil)))) (mNot (mB (mCall F__law_is_value (mCons (mBin dIx (mVar 1) (mC (.int 1))) mNil))))))) (sRet (mC (.bl false))) sPass)) (r := .bl false) cellB (fun ρ => ∃ x, ρ = [some (.tup ds), x, none, none]) ds [some (.tup ds), none, none, none] ⟨none, rfl⟩ (fun d hd ρ ⟨x, hx⟩ => by
        subst hx
        exact ⟨[some (.tup ds), some d, none, none], rfl, lcell_body (gm d hd) x, some d, rfl⟩)
      have ef2 : (sFor (bName 1) (mSeq (mVar 0)) (mIf (mOr (mNot (mB (mUn (dIsi "tuple") (mVar 1)))) (mOr (mB (mBin dNe2 (mFn dLen (mCons (mVar 1) mNil)) (mC (.int 2)))) (mOr (mNot (mB (mCall F__law_is_id (mCons (mBin dIx (mVar 1) (mC (.int 0))) mNil)))) (mNot (mB (mCall F__law_is_value (mCons (mBin dIx (mVar 1) (mC (.int 1))) mNil))))))) (sRet (mC (.bl false))) sPass)) [some (.tup ds), none, none, none] = some (.ok (if ds.all cellB = true then .nx else .rt (.bl false)) [some (.tup ds), x, none, none]) := by
        unfold sFor
        rw [bind_ok (hs none)]
        exact ef
      cases hall : ds.all cellB with
      | false =>
        have hv : cellsB (.tup ds) = false := by
          show (decide (ds.length ≤ 6) && (ds.all cellB && risesB (ds.map pr1))) = false
          rw [hall, Bool.false_and, Bool.and_false]
        rw [hall] at ef2
        simp only [Bool.false_eq_true, if_false] at ef2
        have key : ∀ (m1 : M Fl) (m2 : M D), m1 [some (.tup ds), none, none, none] = some (.ok (.rt (.bl false)) [some (.tup ds), x, none, none]) → (fnOf 4 none (sSeq (mIf (mOr (mNot (mB (mUn (dIsi "tuple") (mVar 0)))) (mB (mBin dGt (mFn dLen (mCons (mVar 0) mNil)) (mC (.int 6))))) (sRet (mC (.bl false))) sPass) (sSeq m1 (sRet (mBin dEq m2 (mLst mNil)))))) [.tup ds] = some (.ok (.bl (cellsB (.tup ds))) .non) := fun m1 m2 hc => by
          simp [h1, D.kind, isK, hl, hg, hc, hv, fnOf, startE, sSeq, sSet, sRet, sPass, sBind, bTup, bAll, bName, mIf, mOr, mAnd, mNot, mB, mUn, mBin, mVar, mC, mFn, mCons, mNil, mTup, mLst, mCall, mCall0, mChain, mAndV, mOrV, mNotV, mSl, mSome, mNone, M.bind, M.pure, M.opt, mFail, ioOut, Option.map_some, List.map_cons, List.map_nil, List.length_cons, List.length_nil, List.cons_append, List.nil_append, List.replicate_succ, List.replicate_zero, Nat.reduceSub, Nat.reduceAdd, List.getElem?_cons_zero, List.getElem?_cons_succ, List.set_cons_zero, List.set_cons_succ, Bool.not_true, Bool.not_false, Bool.false_eq_true, if_true, if_false, ite_true, ite_false, reduceIte]
        exact key _ _ ef2
      | true =>
        rw [hall] at ef2
        simp only [if_true] at ef2
        have hce : ∀ x ∈ ds, cellB x = true := List.all_eq_true.mp hall
        have hz : mZip (mCons (mVar 0) (mCons (mSl dSl (mVar 0) (mSome (mC (.int 1))) mNone) mNil)) [some (.tup ds), x, none, none] = some (.ok (zipD ds (ds.drop 1)) [some (.tup ds), x, none, none]) := by
          have hs : dSl (.tup ds) (some 1) none = some (.tup (ds.drop 1)) := by
            show some (D.tup (cutL ds (some 1) none)) = _
            rw [cutL_one]
          simp [mZip, hs, fnOf, startE, sSeq, sSet, sRet, sPass, sBind, bTup, bAll, bName, mIf, mOr, mAnd, mNot, mB, mUn, mBin, mVar, mC, mFn, mCons, mNil, mTup, mLst, mCall, mCall0, mChain, mAndV, mOrV, mNotV, mSl, mSome, mNone, M.bind, M.pure, M.opt, mFail, ioOut, Option.map_some, List.map_cons, List.map_nil, List.length_cons, List.length_nil, List.cons_append, List.nil_append, List.replicate_succ, List.replicate_zero, Nat.reduceSub, Nat.reduceAdd, List.getElem?_cons_zero, List.getElem?_cons_succ, List.set_cons_zero, List.set_cons_succ, Bool.not_true, Bool.not_false, Bool.false_eq_true, if_true, if_false, ite_true, ite_false, reduceIte]
        have hc2 := mComp_of (vs := [2, 3]) (b := bTup [bName 2, bName 3]) (c := mNot (mB (mBin dLt (mBin dIx (mVar 2) (mC (.int 0))) (mBin dIx (mVar 3) (mC (.int 0)))))) (e := mC (.int 1)) hz (fun d => !ltD (pr1 (pr1 d)) (pr1 (pr2 d))) (fun _ => .int 1) (fun d hd => by
          obtain ⟨a, b, rfl, hm⟩ := zipD_mem hd
          have h1 := List.of_mem_zip hm
          have ca := hce a h1.1
          have cb := hce b (List.mem_of_mem_drop h1.2)
          obtain ⟨a1, a2, rfl, qa⟩ := cellB_inv ca
          obtain ⟨b1, b2, rfl, qb⟩ := cellB_inv cb
          refine ⟨[some (.tup ds), x, some (.tup [a1, a2]), some (.tup [b1, b2])], rfl, ?_, fun _ => rfl, rfl⟩
          have i0 : dIx (.tup [a1, a2]) (.int 0) = some a1 := rfl
          have i1 : dIx (.tup [b1, b2]) (.int 0) = some b1 := rfl
          have hlt : dLt a1 b1 = some (.bl (ltD a1 b1)) := if_pos (id_lt qa qb)
          simp [i0, i1, hlt, pr1, pr2, fnOf, startE, sSeq, sSet, sRet, sPass, sBind, bTup, bAll, bName, mIf, mOr, mAnd, mNot, mB, mUn, mBin, mVar, mC, mFn, mCons, mNil, mTup, mLst, mCall, mCall0, mChain, mAndV, mOrV, mNotV, mSl, mSome, mNone, M.bind, M.pure, M.opt, mFail, ioOut, Option.map_some, List.map_cons, List.map_nil, List.length_cons, List.length_nil, List.cons_append, List.nil_append, List.replicate_succ, List.replicate_zero, Nat.reduceSub, Nat.reduceAdd, List.getElem?_cons_zero, List.getElem?_cons_succ, List.set_cons_zero, List.set_cons_succ, Bool.not_true, Bool.not_false, Bool.false_eq_true, if_true, if_false, ite_true, ite_false, reduceIte]) (by
            unfold zipD
            rw [List.length_map, List.length_zip]
            have : (maxL : Nat) = 1000000 := rfl
            omega)
        have hd := eqD_nil ((List.filter (fun d => !ltD (pr1 (pr1 d)) (pr1 (pr2 d))) (zipD ds (ds.drop 1))).map fun _ => D.int 1)
        rw [if_pos (dep_ones _), List.isEmpty_map, rises_zip] at hd
        have hv : cellsB (.tup ds) = risesB (ds.map pr1) := by
          show (decide (ds.length ≤ 6) && (ds.all cellB && risesB (ds.map pr1))) = _
          rw [hall, decide_eq_true h6]; rfl
        have key : ∀ (m1 : M Fl) (m2 : M D) (L : List D), m1 [some (.tup ds), none, none, none] = some (.ok .nx [some (.tup ds), x, none, none]) → m2 [some (.tup ds), x, none, none] = some (.ok (.lst L) [some (.tup ds), x, none, none]) → dEq (.lst L) (.lst []) = some (.bl (risesB (ds.map pr1))) → (fnOf 4 none (sSeq (mIf (mOr (mNot (mB (mUn (dIsi "tuple") (mVar 0)))) (mB (mBin dGt (mFn dLen (mCons (mVar 0) mNil)) (mC (.int 6))))) (sRet (mC (.bl false))) sPass) (sSeq m1 (sRet (mBin dEq m2 (mLst mNil)))))) [.tup ds] = some (.ok (.bl (cellsB (.tup ds))) .non) := fun m1 m2 L hc hc2 hd => by
          simp [h1, D.kind, isK, hl, hg, hc, hc2, hd, hv, fnOf, startE, sSeq, sSet, sRet, sPass, sBind, bTup, bAll, bName, mIf, mOr, mAnd, mNot, mB, mUn, mBin, mVar, mC, mFn, mCons, mNil, mTup, mLst, mCall, mCall0, mChain, mAndV, mOrV, mNotV, mSl, mSome, mNone, M.bind, M.pure, M.opt, mFail, ioOut, Option.map_some, List.map_cons, List.map_nil, List.length_cons, List.length_nil, List.cons_append, List.nil_append, List.replicate_succ, List.replicate_zero, Nat.reduceSub, Nat.reduceAdd, List.getElem?_cons_zero, List.getElem?_cons_succ, List.set_cons_zero, List.set_cons_succ, Bool.not_true, Bool.not_false, Bool.false_eq_true, if_true, if_false, ite_true, ite_false, reduceIte]
        exact key _ _ _ ef2 hc2 hd
    · have hg : dGt (.int ds.length) (.int 6) = some (.bl true) := by rw [dGt_int, decide_eq_true (by omega)]
      have hv : cellsB (.tup ds) = false := by
        show (decide (ds.length ≤ 6) && (ds.all cellB && risesB (ds.map pr1))) = false
        rw [decide_eq_false h6]; rfl
      have key : ∀ (m1 : M Fl) (m2 : M D), (fnOf 4 none (sSeq (mIf (mOr (mNot (mB (mUn (dIsi "tuple") (mVar 0)))) (mB (mBin dGt (mFn dLen (mCons (mVar 0) mNil)) (mC (.int 6))))) (sRet (mC (.bl false))) sPass) (sSeq m1 (sRet (mBin dEq m2 (mLst mNil)))))) [.tup ds] = some (.ok (.bl (cellsB (.tup ds))) .non) := fun m1 m2 => by
        simp [h1, D.kind, isK, hl, hg, hv, fnOf, startE, sSeq, sSet, sRet, sPass, sBind, bTup, bAll, bName, mIf, mOr, mAnd, mNot, mB, mUn, mBin, mVar, mC, mFn, mCons, mNil, mTup, mLst, mCall, mCall0, mChain, mAndV, mOrV, mNotV, mSl, mSome, mNone, M.bind, M.pure, M.opt, mFail, ioOut, Option.map_some, List.map_cons, List.map_nil, List.length_cons, List.length_nil, List.cons_append, List.nil_append, List.replicate_succ, List.replicate_zero, Nat.reduceSub, Nat.reduceAdd, List.getElem?_cons_zero, List.getElem?_cons_succ, List.set_cons_zero, List.set_cons_succ, Bool.not_true, Bool.not_false, Bool.false_eq_true, if_true, if_false, ite_true, ite_false, reduceIte]
      exact key _ _
  | _ =>
    have key : ∀ (m1 : M Fl) (m2 : M D) (x : D), dIsi "tuple" x = some (.bl false) → (fnOf 4 none (sSeq (mIf (mOr (mNot (mB (mUn (dIsi "tuple") (mVar 0)))) (mB (mBin dGt (mFn dLen (mCons (mVar 0) mNil)) (mC (.int 6))))) (sRet (mC (.bl false))) sPass) (sSeq m1 (sRet (mBin dEq m2 (mLst mNil)))))) [x] = some (.ok (.bl false) .non) := fun m1 m2 x hx => by
      simp [hx, fnOf, startE, sSeq, sSet, sRet, sPass, sBind, bTup, bAll, bName, mIf, mOr, mAnd, mNot, mB, mUn, mBin, mVar, mC, mFn, mCons, mNil, mTup, mLst, mCall, mCall0, mChain, mAndV, mOrV, mNotV, mSl, mSome, mNone, M.bind, M.pure, M.opt, mFail, ioOut, Option.map_some, List.map_cons, List.map_nil, List.length_cons, List.length_nil, List.cons_append, List.nil_append, List.replicate_succ, List.replicate_zero, Nat.reduceSub, Nat.reduceAdd, List.getElem?_cons_zero, List.getElem?_cons_succ, List.set_cons_zero, List.set_cons_succ, Bool.not_true, Bool.not_false, Bool.false_eq_true, if_true, if_false, ite_true, ite_false, reduceIte]
    exact key _ _ _ (by simpa [D.kind, isK] using h1)
/-! a part by its sign -/
theorem eq_strs (s t : Str) : dEq (.str s) (.str t) = some (.bl (s == t)) := eq_str (d := .str s) rfl (Nat.zero_le _) t
theorem q_nn : (("n" : Str) == "n") = true := by decide +kernel
theorem q_ni : (("n" : Str) == "i") = false := by decide +kernel
theorem q_nt : (("n" : Str) == "t") = false := by decide +kernel
theorem q_nv : (("n" : Str) == "v") = false := by decide +kernel
theorem q_nc : (("n" : Str) == "c") = false := by decide +kernel
theorem q_in : (("i" : Str) == "n") = false := by decide +kernel
theorem q_ii : (("i" : Str) == "i") = true := by decide +kernel
theorem q_it : (("i" : Str) == "t") = false := by decide +kernel
theorem q_iv : (("i" : Str) == "v") = false := by decide +kernel
theorem q_ic : (("i" : Str) == "c") = false := by decide +kernel
theorem q_tn : (("t" : Str) == "n") = false := by decide +kernel
theorem q_ti : (("t" : Str) == "i") = false := by decide +kernel
theorem q_tt : (("t" : Str) == "t") = true := by decide +kernel
theorem q_tv : (("t" : Str) == "v") = false := by decide +kernel
theorem q_tc : (("t" : Str) == "c") = false := by decide +kernel
theorem q_vn : (("v" : Str) == "n") = false := by decide +kernel
theorem q_vi : (("v" : Str) == "i") = false := by decide +kernel
theorem q_vt : (("v" : Str) == "t") = false := by decide +kernel
theorem q_vv : (("v" : Str) == "v") = true := by decide +kernel
theorem q_vc : (("v" : Str) == "c") = false := by decide +kernel
theorem q_cn : (("c" : Str) == "n") = false := by decide +kernel
theorem q_ci : (("c" : Str) == "i") = false := by decide +kernel
theorem q_ct : (("c" : Str) == "t") = false := by decide +kernel
theorem q_cv : (("c" : Str) == "v") = false := by decide +kernel
theorem q_cc : (("c" : Str) == "c") = true := by decide +kernel
theorem q_kn : (("k" : Str) == "n") = false := by decide +kernel
theorem q_ki : (("k" : Str) == "i") = false := by decide +kernel
theorem q_kt : (("k" : Str) == "t") = false := by decide +kernel
theorem q_kv : (("k" : Str) == "v") = false := by decide +kernel
theorem q_kc : (("k" : Str) == "c") = false := by decide +kernel
theorem q_hn : (("h" : Str) == "n") = false := by decide +kernel
theorem q_hi : (("h" : Str) == "i") = false := by decide +kernel
theorem q_ht : (("h" : Str) == "t") = false := by decide +kernel
theorem q_hv : (("h" : Str) == "v") = false := by decide +kernel
theorem q_hc : (("h" : Str) == "c") = false := by decide +kernel
theorem q_mn : (("m" : Str) == "n") = false := by decide +kernel
theorem q_mi : (("m" : Str) == "i") = false := by decide +kernel
theorem q_mt : (("m" : Str) == "t") = false := by decide +kernel
theorem q_mv : (("m" : Str) == "v") = false := by decide +kernel
theorem q_mc : (("m" : Str) == "c") = false := by decide +kernel
theorem in_kinds {d : D} (h : isE d = false) : dIn d (.tup [.str "number", .str "word", .str "any"]) = some (.bl (kindB d)) := by
  have h1 : eqokA d (List.map D.str ["number", "word", "any"]) = true := by
    unfold eqokA
    simp only [List.map_cons, List.map_nil, List.all_cons, List.all_nil, (eqok_str h _).2, Bool.true_and, Bool.and_true]
    decide
  refine (if_pos h1).trans ?_
  unfold inD kindB
  simp only [List.any_cons, List.any_nil, (eqD_str d _).2, Bool.or_false]
theorem part_n {d : D} (g : gd d = true) : F__law_is_part [.str "n", d] = some (.ok (.bl (nameB d)) .non) := by
  simp [F__law_is_part, mb__law_is_part, eq_strs, q_nn, q_ni, q_nt, q_nv, q_nc, lname_ok (gd_e g), fnOf, startE, sSeq, sSet, sRet, sPass, sBind, bTup, bAll, bName, mIf, mOr, mAnd, mNot, mB, mUn, mBin, mVar, mC, mFn, mCons, mNil, mTup, mLst, mCall, mCall0, mChain, mAndV, mOrV, mNotV, mSl, mSome, mNone, M.bind, M.pure, M.opt, mFail, ioOut, Option.map_some, List.map_cons, List.map_nil, List.length_cons, List.length_nil, List.cons_append, List.nil_append, List.replicate_succ, List.replicate_zero, Nat.reduceSub, Nat.reduceAdd, List.getElem?_cons_zero, List.getElem?_cons_succ, List.set_cons_zero, List.set_cons_succ, Bool.not_true, Bool.not_false, Bool.false_eq_true, if_true, if_false, ite_true, ite_false, reduceIte]
theorem part_i {d : D} (g : gd d = true) : F__law_is_part [.str "i", d] = some (.ok (.bl (idB d)) .non) := by
  simp [F__law_is_part, mb__law_is_part, eq_strs, q_in, q_ii, q_it, q_iv, q_ic, lid_ok g, fnOf, startE, sSeq, sSet, sRet, sPass, sBind, bTup, bAll, bName, mIf, mOr, mAnd, mNot, mB, mUn, mBin, mVar, mC, mFn, mCons, mNil, mTup, mLst, mCall, mCall0, mChain, mAndV, mOrV, mNotV, mSl, mSome, mNone, M.bind, M.pure, M.opt, mFail, ioOut, Option.map_some, List.map_cons, List.map_nil, List.length_cons, List.length_nil, List.cons_append, List.nil_append, List.replicate_succ, List.replicate_zero, Nat.reduceSub, Nat.reduceAdd, List.getElem?_cons_zero, List.getElem?_cons_succ, List.set_cons_zero, List.set_cons_succ, Bool.not_true, Bool.not_false, Bool.false_eq_true, if_true, if_false, ite_true, ite_false, reduceIte]
theorem part_c {d : D} (g : gd d = true) : F__law_is_part [.str "c", d] = some (.ok (.bl (cellsB d)) .non) := by
  simp [F__law_is_part, mb__law_is_part, eq_strs, q_cn, q_ci, q_ct, q_cv, q_cc, lare_cells_ok g, fnOf, startE, sSeq, sSet, sRet, sPass, sBind, bTup, bAll, bName, mIf, mOr, mAnd, mNot, mB, mUn, mBin, mVar, mC, mFn, mCons, mNil, mTup, mLst, mCall, mCall0, mChain, mAndV, mOrV, mNotV, mSl, mSome, mNone, M.bind, M.pure, M.opt, mFail, ioOut, Option.map_some, List.map_cons, List.map_nil, List.length_cons, List.length_nil, List.cons_append, List.nil_append, List.replicate_succ, List.replicate_zero, Nat.reduceSub, Nat.reduceAdd, List.getElem?_cons_zero, List.getElem?_cons_succ, List.set_cons_zero, List.set_cons_succ, Bool.not_true, Bool.not_false, Bool.false_eq_true, if_true, if_false, ite_true, ite_false, reduceIte]
theorem part_t {d : D} (g : gd d = true) : F__law_is_part [.str "t", d] = some (.ok (.bl (kindB d)) .non) := by
  have h1 := isi_of (T := "str") (gd_e g)
  have h2 := in_kinds (gd_e g)
  have hl : 3 ≤ maxL := by decide
  cases d with
  | str z => simp [F__law_is_part, mb__law_is_part, eq_strs, q_tn, q_ti, q_tt, q_tv, q_tc, h1, h2, hl, D.kind, isK, fnOf, startE, sSeq, sSet, sRet, sPass, sBind, bTup, bAll, bName, mIf, mOr, mAnd, mNot, mB, mUn, mBin, mVar, mC, mFn, mCons, mNil, mTup, mLst, mCall, mCall0, mChain, mAndV, mOrV, mNotV, mSl, mSome, mNone, M.bind, M.pure, M.opt, mFail, ioOut, Option.map_some, List.map_cons, List.map_nil, List.length_cons, List.length_nil, List.cons_append, List.nil_append, List.replicate_succ, List.replicate_zero, Nat.reduceSub, Nat.reduceAdd, List.getElem?_cons_zero, List.getElem?_cons_succ, List.set_cons_zero, List.set_cons_succ, Bool.not_true, Bool.not_false, Bool.false_eq_true, if_true, if_false, ite_true, ite_false, reduceIte]
  | _ => simp [F__law_is_part, mb__law_is_part, eq_strs, q_tn, q_ti, q_tt, q_tv, q_tc, h1, kindB, isStr, D.kind, isK, fnOf, startE, sSeq, sSet, sRet, sPass, sBind, bTup, bAll, bName, mIf, mOr, mAnd, mNot, mB, mUn, mBin, mVar, mC, mFn, mCons, mNil, mTup, mLst, mCall, mCall0, mChain, mAndV, mOrV, mNotV, mSl, mSome, mNone, M.bind, M.pure, M.opt, mFail, ioOut, Option.map_some, List.map_cons, List.map_nil, List.length_cons, List.length_nil, List.cons_append, List.nil_append, List.replicate_succ, List.replicate_zero, Nat.reduceSub, Nat.reduceAdd, List.getElem?_cons_zero, List.getElem?_cons_succ, List.set_cons_zero, List.set_cons_succ, Bool.not_true, Bool.not_false, Bool.false_eq_true, if_true, if_false, ite_true, ite_false, reduceIte]
theorem part_v {d : D} (g : gd d = true) : F__law_is_part [.str "v", d] = some (.ok (.bl (mayB d)) .non) := by
  cases hn : isNon d <;> simp [F__law_is_part, mb__law_is_part, eq_strs, q_vn, q_vi, q_vt, q_vv, q_vc, is_non, hn, lvalue_ok (gd_e g), mayB, fnOf, startE, sSeq, sSet, sRet, sPass, sBind, bTup, bAll, bName, mIf, mOr, mAnd, mNot, mB, mUn, mBin, mVar, mC, mFn, mCons, mNil, mTup, mLst, mCall, mCall0, mChain, mAndV, mOrV, mNotV, mSl, mSome, mNone, M.bind, M.pure, M.opt, mFail, ioOut, Option.map_some, List.map_cons, List.map_nil, List.length_cons, List.length_nil, List.cons_append, List.nil_append, List.replicate_succ, List.replicate_zero, Nat.reduceSub, Nat.reduceAdd, List.getElem?_cons_zero, List.getElem?_cons_succ, List.set_cons_zero, List.set_cons_succ, Bool.not_true, Bool.not_false, Bool.false_eq_true, if_true, if_false, ite_true, ite_false, reduceIte]
theorem ix_k : dIxK (.dct [.str "k", .str "h", .str "m"] [.int 1000000000, .int 7, .int 1000000]) (.str "k") = some (.int 1000000000) := by
  show valKD _ _ _ = _
  rw [valKD, if_pos rfl]
theorem part_k {d : D} (g : gd d = true) : F__law_is_part [.str "k", d] = some (.ok (.bl (wholeB 0 1000000000 d)) .non) := by
  simp [F__law_is_part, mb__law_is_part, eq_strs, q_kn, q_ki, q_kt, q_kv, q_kc, ix_k, between_ok (gd_e g), fnOf, startE, sSeq, sSet, sRet, sPass, sBind, bTup, bAll, bName, mIf, mOr, mAnd, mNot, mB, mUn, mBin, mVar, mC, mFn, mCons, mNil, mTup, mLst, mCall, mCall0, mChain, mAndV, mOrV, mNotV, mSl, mSome, mNone, M.bind, M.pure, M.opt, mFail, ioOut, Option.map_some, List.map_cons, List.map_nil, List.length_cons, List.length_nil, List.cons_append, List.nil_append, List.replicate_succ, List.replicate_zero, Nat.reduceSub, Nat.reduceAdd, List.getElem?_cons_zero, List.getElem?_cons_succ, List.set_cons_zero, List.set_cons_succ, Bool.not_true, Bool.not_false, Bool.false_eq_true, if_true, if_false, ite_true, ite_false, reduceIte]
theorem ix_h : dIxK (.dct [.str "k", .str "h", .str "m"] [.int 1000000000, .int 7, .int 1000000]) (.str "h") = some (.int 7) := by
  show valKD _ _ _ = _
  rw [valKD, if_neg (by decide +kernel), valKD, if_pos rfl]
theorem part_h {d : D} (g : gd d = true) : F__law_is_part [.str "h", d] = some (.ok (.bl (wholeB 0 7 d)) .non) := by
  simp [F__law_is_part, mb__law_is_part, eq_strs, q_hn, q_hi, q_ht, q_hv, q_hc, ix_h, between_ok (gd_e g), fnOf, startE, sSeq, sSet, sRet, sPass, sBind, bTup, bAll, bName, mIf, mOr, mAnd, mNot, mB, mUn, mBin, mVar, mC, mFn, mCons, mNil, mTup, mLst, mCall, mCall0, mChain, mAndV, mOrV, mNotV, mSl, mSome, mNone, M.bind, M.pure, M.opt, mFail, ioOut, Option.map_some, List.map_cons, List.map_nil, List.length_cons, List.length_nil, List.cons_append, List.nil_append, List.replicate_succ, List.replicate_zero, Nat.reduceSub, Nat.reduceAdd, List.getElem?_cons_zero, List.getElem?_cons_succ, List.set_cons_zero, List.set_cons_succ, Bool.not_true, Bool.not_false, Bool.false_eq_true, if_true, if_false, ite_true, ite_false, reduceIte]
theorem ix_m : dIxK (.dct [.str "k", .str "h", .str "m"] [.int 1000000000, .int 7, .int 1000000]) (.str "m") = some (.int 1000000) := by
  show valKD _ _ _ = _
  rw [valKD, if_neg (by decide +kernel), valKD, if_neg (by decide +kernel), valKD, if_pos rfl]
theorem part_m {d : D} (g : gd d = true) : F__law_is_part [.str "m", d] = some (.ok (.bl (wholeB 0 1000000 d)) .non) := by
  simp [F__law_is_part, mb__law_is_part, eq_strs, q_mn, q_mi, q_mt, q_mv, q_mc, ix_m, between_ok (gd_e g), fnOf, startE, sSeq, sSet, sRet, sPass, sBind, bTup, bAll, bName, mIf, mOr, mAnd, mNot, mB, mUn, mBin, mVar, mC, mFn, mCons, mNil, mTup, mLst, mCall, mCall0, mChain, mAndV, mOrV, mNotV, mSl, mSome, mNone, M.bind, M.pure, M.opt, mFail, ioOut, Option.map_some, List.map_cons, List.map_nil, List.length_cons, List.length_nil, List.cons_append, List.nil_append, List.replicate_succ, List.replicate_zero, Nat.reduceSub, Nat.reduceAdd, List.getElem?_cons_zero, List.getElem?_cons_succ, List.set_cons_zero, List.set_cons_succ, Bool.not_true, Bool.not_false, Bool.false_eq_true, if_true, if_false, ite_true, ite_false, reduceIte]
end K37
set_option maxHeartbeats 0
namespace K37
open PySem PySem.Spec PyProof.Rows L2 Bx
section
variable {P : Program} {w : World} {K : PySem.W.Frag} {mg : Str → Option Value} {base : Heap}
/-- the words and what they ask for -/
def formK : List D := [.str "table", .str "column", .str "call", .str "kind", .str "else", .str "put", .str "blank", .str "drop", .str "leave", .str "end", .str "undo"]
def formV : List D := [.str "n", .str "nntv", .str "nin", .str "nit", .str "niv", .str "nkc", .str "nki", .str "nk", .str "ni", .str "n", .str "nhnm"]
def F__law_forms : List D → Option FR
  | [] => some (.ok (.dct formK formV) .non)
  | _ => none
def kv1 : List (Key × V) := [(.inr "table", .str "n"), (.inr "column", .str "nntv"), (.inr "call", .str "nin"), (.inr "kind", .str "nit"), (.inr "else", .str "niv"), (.inr "put", .str "nkc"), (.inr "blank", .str "nki")]
def kv2 : List (Key × V) := [(.inr "drop", .str "nk"), (.inr "leave", .str "ni"), (.inr "end", .str "n"), (.inr "undo", .str "nhnm")]
theorem isS {U : Bx.Un} {A : Ad} {H : Hp} : ∀ {zs : List Str}, (∀ z ∈ zs, okS z) → IsAll U A H (zs.map V.str) (zs.map D.str) := isAll_strs
theorem mK : mergeK [] kv1 = kv1 := rfl
theorem mK2 : mergeK kv1 kv2 = kv1 ++ kv2 := rfl
theorem okF : ∀ z ∈ (["table", "column", "call", "kind", "else", "put", "blank", "drop", "leave", "end", "undo", "n", "nntv", "nin", "nit", "niv", "nkc", "nki", "nk", "ni", "nhnm"] : List Str), okS z := by decide +kernel
theorem cpsF1_r {σ : L2.St} {H : Hp} {Q : List (V × V) → Hp → Prop} (q : ∀ H', Same H H' → Q (kv1.map fun kv => (kV kv.1, kv.2)) H') : tPairs [(tC (.str "table"), tC (.str "n")), (tC (.str "column"), tC (.str "nntv")), (tC (.str "call"), tC (.str "nin")), (tC (.str "kind"), tC (.str "nit")), (tC (.str "else"), tC (.str "niv")), (tC (.str "put"), tC (.str "nkc")), (tC (.str "blank"), tC (.str "nki"))] σ H Q := q H Same.refl'
theorem cpsF2_r {σ : L2.St} {H : Hp} {Q : List (V × V) → Hp → Prop} (q : ∀ H', Same H H' → Q (kv2.map fun kv => (kV kv.1, kv.2)) H') : tPairs [(tC (.str "drop"), tC (.str "nk")), (tC (.str "leave"), tC (.str "ni")), (tC (.str "end"), tC (.str "n")), (tC (.str "undo"), tC (.str "nhnm"))] σ H Q := q H Same.refl'
theorem ok__law_forms {k : Nat} (T : Txt K mg) : FnOk P w K mg base CX0 (k + 1) T.f__law_forms T.d__law_forms [] (spF (UU P w K T) none 0 F__law_forms) := by
  refine (T.F__law_forms).ok sc__law_forms (fun vs H Q E h => ?_) (fun cdv A outer s H vs Q E hr h => ?_)
  · obtain ⟨_, _, _, hl, _⟩ := h
    exact hl
  · obtain ⟨A0, ds, r, hl, al, ha, hf, q⟩ := h
    have hv : vs = [] := List.length_eq_zero_iff.mp hl
    subst hv
    have hd : ds = [] := List.length_eq_zero_iff.mp ha.1.symm
    subst hd
    cases hf
    refine ⟨_, pss_cons (ps_set (i := 0) sc__law_forms.nd rfl (Or.inl rfl) (pe_disp (pps_cons pe_str pe_str (pps_cons pe_str pe_str (pps_cons pe_str pe_str (pps_cons pe_str pe_str (pps_cons pe_str pe_str (pps_cons pe_str pe_str (pps_cons pe_str pe_str pps_nil))))))) rfl rfl (fun z => nomatch z) (by decide))) (pss_cons (ps_expr (pe_dupd (pv 0) (pe_disp (pps_cons pe_str pe_str (pps_cons pe_str pe_str (pps_cons pe_str pe_str (pps_cons pe_str pe_str pps_nil)))) rfl rfl (fun z => nomatch z) (by decide)) ⟨rfl, rfl, rfl, rfl⟩)) (pss_one (ps_ret (pv 0)))), ?_⟩
    intro p hp
    refine cpsF1_r fun H2 s2 => ⟨s2 _ _ upd_same, kv1, rfl, by decide, ?_⟩
    rw [mK]
    have s1 : Same H (upd H2 p (.dK kv1)) := same_put hp s2
    refine ⟨_, rfl, p, rfl, .inl ⟨kv1, .inl upd_same⟩, fun p2 hp2 => ?_⟩
    refine cpsF2_r fun H3 s3 => ⟨s3 _ _ upd_same, kv2, rfl, by decide, ?_⟩
    have s4 : Same (upd H2 p (.dK kv1)) (upd H3 p2 (.dK kv2)) := same_put hp2 s3
    have np : p2 ≠ p := fun z => by subst z; rw [upd_same] at hp2; cases hp2
    refine ⟨p2, kv1, kv2, rfl, Ne.symm np, s4 _ _ upd_same, ?_, by decide, ?_⟩
    · show upd H3 p2 _ p2 = _
      have : mergeK [] kv2 = kv2 := rfl
      rw [this]; exact upd_same
    · refine ⟨_, rfl, ?_⟩
      rw [mK2]
      have keep : ∀ a o, H a = some o → upd (upd H3 p2 (.dK (mergeK [] kv2))) p (.dK (kv1 ++ kv2)) a = some o := fun a o e => by
        rw [upd_ne (ne_of_none e hp)]
        exact s4 _ _ (s1 _ _ e)
      refine q (.ref p) _ (fun a o e _ => keep a o e) (fun j hj => nomatch hj) (fun a za n => ?_) (.dct (.k (kv1 ++ kv2) upd_same) ?_ ?_ fun z => al p z hp)
      · cases ho : H a with
        | none => exact al a za ho
        | some o => rw [keep a o ho] at n; cases n
      · exact isAll_strs (zs := ["table", "column", "call", "kind", "else", "put", "blank", "drop", "leave", "end", "undo"]) (by decide +kernel)
      · exact isAll_strs (zs := ["n", "nntv", "nin", "nit", "niv", "nkc", "nki", "nk", "ni", "n", "nhnm"]) (by decide +kernel)

end
end K37
set_option maxHeartbeats 0
namespace K37
open PySem PySem.Spec PyProof.Rows L2 Bx
section
variable {P : Program} {w : World} {K : PySem.W.Frag} {mg : Str → Option Value} {base : Heap}
noncomputable def mb__law_due : M Fl := (sSeq (mIf (mOr (mNot (mB (mUn (dIsi "tuple") (mVar 0)))) (mOr (mB (mBin dEq (mVar 0) (mTup mNil))) (mOr (mNot (mB (mUn (dIsi "str") (mBin dIx (mVar 0) (mC (.int 0)))))) (mB (mBin dNotInK (mBin dIx (mVar 0) (mC (.int 0))) (mCall0 F__law_forms)))))) (sRet (mC (.bl false))) sPass) (sSeq (sSet 1 (mBin dIxK (mCall0 F__law_forms) (mBin dIx (mVar 0) (mC (.int 0))))) (sSeq (mIf (mB (mBin dNe2 (mFn dLen (mCons (mVar 0) mNil)) (mBin dAdd (mC (.int 1)) (mFn dLen (mCons (mVar 1) mNil))))) (sRet (mC (.bl false))) sPass) (sRet (mBin dNotIn (mC (.bl false)) (mComp [2, 3] (bTup [(bName 2), (bName 3)]) mYes (mCall F__law_is_part (mCons (mVar 2) (mCons (mVar 3) mNil))) (mZipS (mCons (mVar 1) (mCons (mSl dSl (mVar 0) (mSome (mC (.int 1))) mNone) mNil)))))))))
noncomputable def F__law_due : List D → Option FR := fnOf 4 none mb__law_due
theorem ok__law_due {k : Nat} (T : Txt K mg) : FnOk P w K mg base CX0 (k + 6) T.f__law_due T.d__law_due ["thing"] (spF (UU P w K T) none 1 F__law_due) :=
  fn_data (own := []) (io := none) (mb := mb__law_due) (U := (UU P w K T)) (k := k + 5) T.F__law_due sc__law_due (by decide) (by decide) (fun j hj => nomatch hj) fun cdv A outer s H E hr => fun pa A2 => ⟨_, (dss_cons (ds_if (dt_w (dw_or (dt_not (dt_val (de_isi (Ts := "tuple") ⟨rfl, rfl, rfl⟩ (by rfl) T.n_isinstance (de_var (i := 0)) (by unfold okT; decide) (by rfl) T.n_tuple (by decide +kernel)))) (dw_or (dt_cmp (o_eq ⟨rfl, rfl, rfl⟩ (room200 hr)) (de_var (i := 0)) (de_tup da_nil) (nomark _)) (dw_or (dt_not (dt_val (de_isi (Ts := "str") ⟨rfl, rfl, rfl⟩ (by rfl) T.n_isinstance (de_ix (o_ix ⟨rfl, rfl, rfl⟩) (de_var (i := 0)) de_int (fun _ _ => rfl)) (by unfold okT; decide) (by rfl) T.n_str (by decide +kernel)))) (dw_or1 (dt_cmp (o_notInK (room200 hr)) (de_ix (o_ix ⟨rfl, rfl, rfl⟩) (de_var (i := 0)) de_int (fun _ _ => rfl)) (de_call0 (ok__law_forms T) hr (by rfl) T.g__law_forms T.F__law_forms.kp T.b__law_forms) (by rfl))))))) (dss_one (ds_ret de_bl)) dss_nil) (dss_cons (ds_set (i := 1) sc__law_due.nd rfl (Or.inl rfl) (de_ix (o_ixK (room200 hr)) (de_call0 (ok__law_forms T) hr (by rfl) T.g__law_forms T.F__law_forms.kp T.b__law_forms) (de_ix (o_ix ⟨rfl, rfl, rfl⟩) (de_var (i := 0)) de_int (fun _ _ => rfl)) (fun _ _ => rfl))) (dss_cons (ds_if (dt_cmp (o_ne (room200 hr)) (de_callB (o_len ⟨rfl, rfl, rfl⟩) (by rfl) T.n_len (by decide +kernel) (da_cons (de_var (i := 0)) da_nil)) (de_op o_add de_int (de_callB (o_len ⟨rfl, rfl, rfl⟩) (by rfl) T.n_len (by decide +kernel) (da_cons (de_var (i := 1)) da_nil))) (nomark _)) (dss_one (ds_ret de_bl)) dss_nil) (dss_one (ds_ret (de_cmp (o_notIn ⟨rfl, rfl, rfl⟩ (room200 hr)) de_bl (DF.de (df_comp (g := gTup K 2 (gCons (gName 2) (gCons (gName 3) gNil))) rfl sc__law_due.nd (di_zipS (by rfl) T.n_zip (de_var (i := 1)) (de_sl (o_sl ⟨rfl, rfl, rfl⟩) (de_var (i := 0)) (do_some de_int) do_none)) (blkOk_by (own := [("sign", 2), ("part", 3)]) (N := N__law_due) (sc := defScope s__law_due) (by decide +kernel)) rfl (of_decide_eq_true rfl) (fun _ _ _ _ _ _ _ => (dg_tup rfl (dgs_cons (dg_name (i := 2) sc__law_due.nd rfl (Or.inl rfl) (of_decide_eq_false rfl) (by decide)) (dgs_cons (dg_name (i := 3) sc__law_due.nd rfl (Or.inl rfl) (of_decide_eq_false rfl) (by decide)) dgs_nil)))) (fun _ _ _ _ _ _ _ => dts_nil) (fun _ _ _ _ _ _ _ => (de_call (ok__law_is_part T) hr (by rfl) T.g__law_is_part T.F__law_is_part.kp T.b__law_is_part (da_cons (de_var (i := 2)) (da_cons (de_var (i := 3)) da_nil)) (many_cons (many_cons many_nil)))))) (by rfl)))))))⟩
end
end K37
set_option maxHeartbeats 2000000
namespace K37
open PySem PySem.Spec PyProof.Rows L2 Bx
theorem ix_0 {w : D} {rest : List D} : dIx (.tup (w :: rest)) (.int 0) = some w := atI_nat (xs := w :: rest) (j := 0) rfl
def signB (c : Nat) (d : D) : Bool :=
  if c = 110 then nameB d else if c = 105 then idB d else if c = 116 then kindB d else if c = 118 then mayB d else if c = 99 then cellsB d else if c = 107 then wholeB 0 1000000000 d else if c = 104 then wholeB 0 7 d else wholeB 0 1000000 d
def codes : List Nat := [110, 105, 116, 118, 99, 107, 104, 109]
theorem part_sign {c : Nat} {d : D} (hc : c ∈ codes) (g : gd d = true) : F__law_is_part [.str (oneS c), d] = some (.ok (.bl (signB c d)) .non) := by
  unfold codes at hc
  simp only [List.mem_cons, List.not_mem_nil, or_false] at hc
  rcases hc with rfl | rfl | rfl | rfl | rfl | rfl | rfl | rfl
  · exact part_n g
  · exact part_i g
  · exact part_t g
  · exact part_v g
  · exact part_c g
  · exact part_k g
  · exact part_h g
  · exact part_m g
def codeD : D → Nat
  | .str s => s.cps.getD 0 0
  | _ => 0
theorem notIn_bls (bs : List Bool) : dNotIn (.bl false) (.lst (bs.map D.bl)) = some (.bl (bs.all id)) := by
  have h1 : eqokA (.bl false) (bs.map D.bl) = true := by
    unfold eqokA
    rw [List.all_map, List.all_eq_true]
    intro b _
    rfl
  have h2 : inD (.bl false) (bs.map D.bl) = !bs.all id := by
    unfold inD
    rw [List.any_map]
    induction bs with
    | nil => rfl
    | cons b r ih =>
      rw [List.any_cons, List.all_cons, ih (by unfold eqokA at h1 ⊢; rw [List.map_cons, List.all_cons, Bool.and_eq_true] at h1; exact h1.2)]
      cases b <;> rfl
  have h3 : dIn (.bl false) (.lst (bs.map D.bl)) = some (.bl (!bs.all id)) := by
    show (if eqokA _ _ = true then some (D.bl (inD _ _)) else none) = _
    rw [if_pos h1, h2]
  unfold dNotIn
  rw [h3]
  simp
theorem due_gen {z sg : Str} {rest : List D} (hz : dIxK (.dct formK formV) (.str z) = some (.str sg)) (hin : dNotInK (.str z) (.dct formK formV) = some (.bl false)) (hs : sg.length ≤ 10) (hcs : ∀ c ∈ sg.cps.toList, c ∈ codes) (h : gd (.tup (.str z :: rest)) = true) (hd : dep (.tup (.str z :: rest)) ≤ 100) :
    F__law_due [.tup (.str z :: rest)] = some (.ok (.bl (decide (rest.length = sg.length) && ((sg.cps.toList.zip rest).all fun p => signB p.1 p.2))) .non) := by
  have h1 := isi_of (T := "tuple") (gd_e h)
  have h2 := isi_of (T := "str") (d := .str z) rfl
  have gr : ∀ x ∈ rest, gd x = true := fun x hx => gds_mem (by rwa [gd] at h) (by simp [hx])
  have he : dEq (.tup (.str z :: rest)) (.tup []) = some (.bl false) := by
    unfold dEq
    rw [if_pos ⟨rfl, hd⟩]; rfl
  have i0 : dIx (.tup (.str z :: rest)) (.int 0) = some (.str z) := ix_0
  have s1 : dSl (.tup (.str z :: rest)) (some 1) none = some (.tup rest) := by
    show some (D.tup (cutL (.str z :: rest) (some 1) none)) = _
    rw [cutL_one]; rfl
  have hl : dLen [.tup (.str z :: rest)] = some (.int ((.str z :: rest : List D).length : Nat)) := len_tup _
  have hl2 : dLen [.str sg] = some (.int sg.length) := rfl
  have ha : dAdd (.int 1) (.int sg.length) = some (.int (1 + sg.length)) := rfl
  have hf : F__law_forms [] = some (.ok (.dct formK formV) .non) := rfl
  have hne := ne_int ((.str z :: rest : List D).length : Nat) (1 + sg.length)
  have hc0 : ∀ (ρ : Bx.Env), mZipS (mCons (mVar 1) (mCons (mSl dSl (mVar 0) (mSome (mC (.int 1))) mNone) mNil)) [some (.tup (.str z :: rest)), some (.str sg), none, none] = some (.ok (zipD (sg.cps.toList.map fun c => .str (oneS c)) rest) [some (.tup (.str z :: rest)), some (.str sg), none, none]) := fun _ => by
    generalize (.str z :: rest) = ds at *
    simp [mZipS, s1, fnOf, startE, sSeq, sSet, sRet, sPass, sBind, bTup, bAll, bName, mIf, mOr, mAnd, mNot, mB, mUn, mBin, mVar, mC, mFn, mCons, mNil, mTup, mLst, mCall, mCall0, mChain, mAndV, mOrV, mNotV, mSl, mSome, mNone, M.bind, M.pure, M.opt, mFail, ioOut, Option.map_some, List.map_cons, List.map_nil, List.length_cons, List.length_nil, List.cons_append, List.nil_append, List.replicate_succ, List.replicate_zero, Nat.reduceSub, Nat.reduceAdd, List.getElem?_cons_zero, List.getElem?_cons_succ, List.set_cons_zero, List.set_cons_succ, Bool.not_true, Bool.not_false, Bool.false_eq_true, if_true, if_false, ite_true, ite_false, reduceIte]
  generalize hds : (.str z :: rest) = ds at *
  by_cases hlen : rest.length = sg.length
  · have hne2 : dNe2 (.int (ds.length : Nat)) (.int (1 + sg.length)) = some (.bl false) := by
      rw [hne]
      have : (((ds.length : Nat) : Int) == 1 + sg.length) = true := by rw [beq_iff_eq, ← hds, List.length_cons]; omega
      rw [this]; rfl
    have hc := mComp_of (vs := [2, 3]) (b := bTup [bName 2, bName 3]) (c := mYes) (e := mCall F__law_is_part (mCons (mVar 2) (mCons (mVar 3) mNil))) (hc0 []) (fun _ => true) (fun d => .bl (signB (codeD (pr1 d)) (pr2 d))) (fun d hd => by
      obtain ⟨x, y, rfl, hm⟩ := zipD_mem hd
      have hx := List.of_mem_zip hm
      obtain ⟨c, hc, rfl⟩ := List.mem_map.mp hx.1
      refine ⟨[some (.tup ds), some (.str sg), some (.str (oneS c)), some y], rfl, rfl, fun _ => ?_, rfl⟩
      have hp := part_sign (hcs c hc) (gr y hx.2)
      have e1 : signB (codeD (pr1 (.tup [.str (oneS c), y]))) (pr2 (.tup [.str (oneS c), y])) = signB c y := rfl
      rw [e1]
      simp [hp, fnOf, startE, sSeq, sSet, sRet, sPass, sBind, bTup, bAll, bName, mIf, mOr, mAnd, mNot, mB, mUn, mBin, mVar, mC, mFn, mCons, mNil, mTup, mLst, mCall, mCall0, mChain, mAndV, mOrV, mNotV, mSl, mSome, mNone, M.bind, M.pure, M.opt, mFail, ioOut, Option.map_some, List.map_cons, List.map_nil, List.length_cons, List.length_nil, List.cons_append, List.nil_append, List.replicate_succ, List.replicate_zero, Nat.reduceSub, Nat.reduceAdd, List.getElem?_cons_zero, List.getElem?_cons_succ, List.set_cons_zero, List.set_cons_succ, Bool.not_true, Bool.not_false, Bool.false_eq_true, if_true, if_false, ite_true, ite_false, reduceIte]) (by
        unfold zipD
        rw [List.length_map, List.length_zip, List.length_map]
        have h1 : sg.cps.toList.length = sg.length := rfl
        have : (maxL : Nat) = 1000000 := rfl
        omega)
    rw [List.filter_eq_self.mpr (fun _ _ => rfl)] at hc
    have hb : (zipD (sg.cps.toList.map fun c => .str (oneS c)) rest).map (fun d => D.bl (signB (codeD (pr1 d)) (pr2 d))) = ((sg.cps.toList.zip rest).map fun p => signB p.1 p.2).map D.bl := by
      unfold zipD
      rw [List.zip_map_left, List.map_map, List.map_map, List.map_map]
      rfl
    rw [hb] at hc
    have hn := notIn_bls ((sg.cps.toList.zip rest).map fun p => signB p.1 p.2)
    rw [List.all_map] at hn
    have key : ∀ (m1 : M D) (L : List D) (b : Bool), dNotIn (.bl false) (.lst L) = some (.bl b) → m1 [some (.tup ds), some (.str sg), none, none] = some (.ok (.lst L) [some (.tup ds), some (.str sg), none, none]) → (fnOf 4 none (sSeq (mIf (mOr (mNot (mB (mUn (dIsi "tuple") (mVar 0)))) (mOr (mB (mBin dEq (mVar 0) (mTup mNil))) (mOr (mNot (mB (mUn (dIsi "str") (mBin dIx (mVar 0) (mC (.int 0)))))) (mB (mBin dNotInK (mBin dIx (mVar 0) (mC (.int 0))) (mCall0 F__law_forms)))))) (sRet (mC (.bl false))) sPass) (sSeq (sSet 1 (mBin dIxK (mCall0 F__law_forms) (mBin dIx (mVar 0) (mC (.int 0))))) (sSeq (mIf (mB (mBin dNe2 (mFn dLen (mCons (mVar 0) mNil)) (mBin dAdd (mC (.int 1)) (mFn dLen (mCons (mVar 1) mNil))))) (sRet (mC (.bl false))) sPass) (sRet (mBin dNotIn (mC (.bl false)) m1)))))) [.tup ds] = some (.ok (.bl b) .non) := fun m1 L b hn hc => by
      simp [h1, h2, D.kind, isK, he, i0, hf, hin, hz, hl, hl2, ha, hne2, hc, hn, fnOf, startE, sSeq, sSet, sRet, sPass, sBind, bTup, bAll, bName, mIf, mOr, mAnd, mNot, mB, mUn, mBin, mVar, mC, mFn, mCons, mNil, mTup, mLst, mCall, mCall0, mChain, mAndV, mOrV, mNotV, mSl, mSome, mNone, M.bind, M.pure, M.opt, mFail, ioOut, Option.map_some, List.map_cons, List.map_nil, List.length_cons, List.length_nil, List.cons_append, List.nil_append, List.replicate_succ, List.replicate_zero, Nat.reduceSub, Nat.reduceAdd, List.getElem?_cons_zero, List.getElem?_cons_succ, List.set_cons_zero, List.set_cons_succ, Bool.not_true, Bool.not_false, Bool.false_eq_true, if_true, if_false, ite_true, ite_false, reduceIte]
    rw [decide_eq_true hlen, Bool.true_and]
    exact key _ _ _ hn hc
  · have hne2 : dNe2 (.int (ds.length : Nat)) (.int (1 + sg.length)) = some (.bl true) := by
      rw [hne]
      have : (((ds.length : Nat) : Int) == 1 + sg.length) = false := by
        refine beq_false_of_ne ?_
        rw [← hds, List.length_cons]
        omega
      rw [this]; rfl
    rw [decide_eq_false hlen, Bool.false_and]
    have key : ∀ (m1 : M D), (fnOf 4 none (sSeq (mIf (mOr (mNot (mB (mUn (dIsi "tuple") (mVar 0)))) (mOr (mB (mBin dEq (mVar 0) (mTup mNil))) (mOr (mNot (mB (mUn (dIsi "str") (mBin dIx (mVar 0) (mC (.int 0)))))) (mB (mBin dNotInK (mBin dIx (mVar 0) (mC (.int 0))) (mCall0 F__law_forms)))))) (sRet (mC (.bl false))) sPass) (sSeq (sSet 1 (mBin dIxK (mCall0 F__law_forms) (mBin dIx (mVar 0) (mC (.int 0))))) (sSeq (mIf (mB (mBin dNe2 (mFn dLen (mCons (mVar 0) mNil)) (mBin dAdd (mC (.int 1)) (mFn dLen (mCons (mVar 1) mNil))))) (sRet (mC (.bl false))) sPass) (sRet (mBin dNotIn (mC (.bl false)) m1)))))) [.tup ds] = some (.ok (.bl false) .non) := fun m1 => by
      simp [h1, h2, D.kind, isK, he, i0, hf, hin, hz, hl, hl2, ha, hne2, fnOf, startE, sSeq, sSet, sRet, sPass, sBind, bTup, bAll, bName, mIf, mOr, mAnd, mNot, mB, mUn, mBin, mVar, mC, mFn, mCons, mNil, mTup, mLst, mCall, mCall0, mChain, mAndV, mOrV, mNotV, mSl, mSome, mNone, M.bind, M.pure, M.opt, mFail, ioOut, Option.map_some, List.map_cons, List.map_nil, List.length_cons, List.length_nil, List.cons_append, List.nil_append, List.replicate_succ, List.replicate_zero, Nat.reduceSub, Nat.reduceAdd, List.getElem?_cons_zero, List.getElem?_cons_succ, List.set_cons_zero, List.set_cons_succ, Bool.not_true, Bool.not_false, Bool.false_eq_true, if_true, if_false, ite_true, ite_false, reduceIte]
    exact key _
theorem nk_ne {a b : Str} (h : b ≠ a) : ¬ nk (.str a) = nk (.str b) := fun e => h (by rw [nk, nk] at e; cases e; rfl)
theorem isS_ne {s z : Str} (h : z ≠ s) : isStr s (.str z) = false := beq_false_of_ne h
theorem isS_eq {s : Str} : isStr s (.str s) = true := by
  show (s == s) = true
  exact beq_self_eq_true s
theorem w_table_column : ("table" : Str) ≠ "column" := by decide +kernel
theorem w_table_call : ("table" : Str) ≠ "call" := by decide +kernel
theorem w_table_kind : ("table" : Str) ≠ "kind" := by decide +kernel
theorem w_table_else : ("table" : Str) ≠ "else" := by decide +kernel
theorem w_table_put : ("table" : Str) ≠ "put" := by decide +kernel
theorem w_table_blank : ("table" : Str) ≠ "blank" := by decide +kernel
theorem w_table_drop : ("table" : Str) ≠ "drop" := by decide +kernel
theorem w_table_leave : ("table" : Str) ≠ "leave" := by decide +kernel
theorem w_table_end : ("table" : Str) ≠ "end" := by decide +kernel
theorem w_table_undo : ("table" : Str) ≠ "undo" := by decide +kernel
theorem w_column_table : ("column" : Str) ≠ "table" := by decide +kernel
theorem w_column_call : ("column" : Str) ≠ "call" := by decide +kernel
theorem w_column_kind : ("column" : Str) ≠ "kind" := by decide +kernel
theorem w_column_else : ("column" : Str) ≠ "else" := by decide +kernel
theorem w_column_put : ("column" : Str) ≠ "put" := by decide +kernel
theorem w_column_blank : ("column" : Str) ≠ "blank" := by decide +kernel
theorem w_column_drop : ("column" : Str) ≠ "drop" := by decide +kernel
theorem w_column_leave : ("column" : Str) ≠ "leave" := by decide +kernel
theorem w_column_end : ("column" : Str) ≠ "end" := by decide +kernel
theorem w_column_undo : ("column" : Str) ≠ "undo" := by decide +kernel
theorem w_call_table : ("call" : Str) ≠ "table" := by decide +kernel
theorem w_call_column : ("call" : Str) ≠ "column" := by decide +kernel
theorem w_call_kind : ("call" : Str) ≠ "kind" := by decide +kernel
theorem w_call_else : ("call" : Str) ≠ "else" := by decide +kernel
theorem w_call_put : ("call" : Str) ≠ "put" := by decide +kernel
theorem w_call_blank : ("call" : Str) ≠ "blank" := by decide +kernel
theorem w_call_drop : ("call" : Str) ≠ "drop" := by decide +kernel
theorem w_call_leave : ("call" : Str) ≠ "leave" := by decide +kernel
theorem w_call_end : ("call" : Str) ≠ "end" := by decide +kernel
theorem w_call_undo : ("call" : Str) ≠ "undo" := by decide +kernel
theorem w_kind_table : ("kind" : Str) ≠ "table" := by decide +kernel
theorem w_kind_column : ("kind" : Str) ≠ "column" := by decide +kernel
theorem w_kind_call : ("kind" : Str) ≠ "call" := by decide +kernel
theorem w_kind_else : ("kind" : Str) ≠ "else" := by decide +kernel
theorem w_kind_put : ("kind" : Str) ≠ "put" := by decide +kernel
theorem w_kind_blank : ("kind" : Str) ≠ "blank" := by decide +kernel
theorem w_kind_drop : ("kind" : Str) ≠ "drop" := by decide +kernel
theorem w_kind_leave : ("kind" : Str) ≠ "leave" := by decide +kernel
theorem w_kind_end : ("kind" : Str) ≠ "end" := by decide +kernel
theorem w_kind_undo : ("kind" : Str) ≠ "undo" := by decide +kernel
theorem w_else_table : ("else" : Str) ≠ "table" := by decide +kernel
theorem w_else_column : ("else" : Str) ≠ "column" := by decide +kernel
theorem w_else_call : ("else" : Str) ≠ "call" := by decide +kernel
theorem w_else_kind : ("else" : Str) ≠ "kind" := by decide +kernel
theorem w_else_put : ("else" : Str) ≠ "put" := by decide +kernel
theorem w_else_blank : ("else" : Str) ≠ "blank" := by decide +kernel
theorem w_else_drop : ("else" : Str) ≠ "drop" := by decide +kernel
theorem w_else_leave : ("else" : Str) ≠ "leave" := by decide +kernel
theorem w_else_end : ("else" : Str) ≠ "end" := by decide +kernel
theorem w_else_undo : ("else" : Str) ≠ "undo" := by decide +kernel
theorem w_put_table : ("put" : Str) ≠ "table" := by decide +kernel
theorem w_put_column : ("put" : Str) ≠ "column" := by decide +kernel
theorem w_put_call : ("put" : Str) ≠ "call" := by decide +kernel
theorem w_put_kind : ("put" : Str) ≠ "kind" := by decide +kernel
theorem w_put_else : ("put" : Str) ≠ "else" := by decide +kernel
theorem w_put_blank : ("put" : Str) ≠ "blank" := by decide +kernel
theorem w_put_drop : ("put" : Str) ≠ "drop" := by decide +kernel
theorem w_put_leave : ("put" : Str) ≠ "leave" := by decide +kernel
theorem w_put_end : ("put" : Str) ≠ "end" := by decide +kernel
theorem w_put_undo : ("put" : Str) ≠ "undo" := by decide +kernel
theorem w_blank_table : ("blank" : Str) ≠ "table" := by decide +kernel
theorem w_blank_column : ("blank" : Str) ≠ "column" := by decide +kernel
theorem w_blank_call : ("blank" : Str) ≠ "call" := by decide +kernel
theorem w_blank_kind : ("blank" : Str) ≠ "kind" := by decide +kernel
theorem w_blank_else : ("blank" : Str) ≠ "else" := by decide +kernel
theorem w_blank_put : ("blank" : Str) ≠ "put" := by decide +kernel
theorem w_blank_drop : ("blank" : Str) ≠ "drop" := by decide +kernel
theorem w_blank_leave : ("blank" : Str) ≠ "leave" := by decide +kernel
theorem w_blank_end : ("blank" : Str) ≠ "end" := by decide +kernel
theorem w_blank_undo : ("blank" : Str) ≠ "undo" := by decide +kernel
theorem w_drop_table : ("drop" : Str) ≠ "table" := by decide +kernel
theorem w_drop_column : ("drop" : Str) ≠ "column" := by decide +kernel
theorem w_drop_call : ("drop" : Str) ≠ "call" := by decide +kernel
theorem w_drop_kind : ("drop" : Str) ≠ "kind" := by decide +kernel
theorem w_drop_else : ("drop" : Str) ≠ "else" := by decide +kernel
theorem w_drop_put : ("drop" : Str) ≠ "put" := by decide +kernel
theorem w_drop_blank : ("drop" : Str) ≠ "blank" := by decide +kernel
theorem w_drop_leave : ("drop" : Str) ≠ "leave" := by decide +kernel
theorem w_drop_end : ("drop" : Str) ≠ "end" := by decide +kernel
theorem w_drop_undo : ("drop" : Str) ≠ "undo" := by decide +kernel
theorem w_leave_table : ("leave" : Str) ≠ "table" := by decide +kernel
theorem w_leave_column : ("leave" : Str) ≠ "column" := by decide +kernel
theorem w_leave_call : ("leave" : Str) ≠ "call" := by decide +kernel
theorem w_leave_kind : ("leave" : Str) ≠ "kind" := by decide +kernel
theorem w_leave_else : ("leave" : Str) ≠ "else" := by decide +kernel
theorem w_leave_put : ("leave" : Str) ≠ "put" := by decide +kernel
theorem w_leave_blank : ("leave" : Str) ≠ "blank" := by decide +kernel
theorem w_leave_drop : ("leave" : Str) ≠ "drop" := by decide +kernel
theorem w_leave_end : ("leave" : Str) ≠ "end" := by decide +kernel
theorem w_leave_undo : ("leave" : Str) ≠ "undo" := by decide +kernel
theorem w_end_table : ("end" : Str) ≠ "table" := by decide +kernel
theorem w_end_column : ("end" : Str) ≠ "column" := by decide +kernel
theorem w_end_call : ("end" : Str) ≠ "call" := by decide +kernel
theorem w_end_kind : ("end" : Str) ≠ "kind" := by decide +kernel
theorem w_end_else : ("end" : Str) ≠ "else" := by decide +kernel
theorem w_end_put : ("end" : Str) ≠ "put" := by decide +kernel
theorem w_end_blank : ("end" : Str) ≠ "blank" := by decide +kernel
theorem w_end_drop : ("end" : Str) ≠ "drop" := by decide +kernel
theorem w_end_leave : ("end" : Str) ≠ "leave" := by decide +kernel
theorem w_end_undo : ("end" : Str) ≠ "undo" := by decide +kernel
theorem w_undo_table : ("undo" : Str) ≠ "table" := by decide +kernel
theorem w_undo_column : ("undo" : Str) ≠ "column" := by decide +kernel
theorem w_undo_call : ("undo" : Str) ≠ "call" := by decide +kernel
theorem w_undo_kind : ("undo" : Str) ≠ "kind" := by decide +kernel
theorem w_undo_else : ("undo" : Str) ≠ "else" := by decide +kernel
theorem w_undo_put : ("undo" : Str) ≠ "put" := by decide +kernel
theorem w_undo_blank : ("undo" : Str) ≠ "blank" := by decide +kernel
theorem w_undo_drop : ("undo" : Str) ≠ "drop" := by decide +kernel
theorem w_undo_leave : ("undo" : Str) ≠ "leave" := by decide +kernel
theorem w_undo_end : ("undo" : Str) ≠ "end" := by decide +kernel
theorem val_table : valKD formK formV (.str "table") = some (.str "n") := by
  unfold formK formV
  rw [valKD, if_pos rfl]
theorem deed_table {rest : List D} : deedB (.tup (.str "table" :: rest)) = (decide (rest.length = 1) && ((([110] : List Nat).zip rest).all fun p => signB p.1 p.2)) := by
  match rest with
  | [] => simp [deedB, oneB, twoB, deedNameB, signB, isS_eq (s := "table"), isS_ne (s := "column") (z := "table") w_table_column, isS_ne (s := "call") (z := "table") w_table_call, isS_ne (s := "kind") (z := "table") w_table_kind, isS_ne (s := "else") (z := "table") w_table_else, isS_ne (s := "put") (z := "table") w_table_put, isS_ne (s := "blank") (z := "table") w_table_blank, isS_ne (s := "drop") (z := "table") w_table_drop, isS_ne (s := "leave") (z := "table") w_table_leave, isS_ne (s := "end") (z := "table") w_table_end, isS_ne (s := "undo") (z := "table") w_table_undo]
  | [a] => simp [deedB, oneB, twoB, deedNameB, signB, isS_eq (s := "table"), isS_ne (s := "column") (z := "table") w_table_column, isS_ne (s := "call") (z := "table") w_table_call, isS_ne (s := "kind") (z := "table") w_table_kind, isS_ne (s := "else") (z := "table") w_table_else, isS_ne (s := "put") (z := "table") w_table_put, isS_ne (s := "blank") (z := "table") w_table_blank, isS_ne (s := "drop") (z := "table") w_table_drop, isS_ne (s := "leave") (z := "table") w_table_leave, isS_ne (s := "end") (z := "table") w_table_end, isS_ne (s := "undo") (z := "table") w_table_undo]
  | [a, x] => simp [deedB, oneB, twoB, deedNameB, signB, isS_eq (s := "table"), isS_ne (s := "column") (z := "table") w_table_column, isS_ne (s := "call") (z := "table") w_table_call, isS_ne (s := "kind") (z := "table") w_table_kind, isS_ne (s := "else") (z := "table") w_table_else, isS_ne (s := "put") (z := "table") w_table_put, isS_ne (s := "blank") (z := "table") w_table_blank, isS_ne (s := "drop") (z := "table") w_table_drop, isS_ne (s := "leave") (z := "table") w_table_leave, isS_ne (s := "end") (z := "table") w_table_end, isS_ne (s := "undo") (z := "table") w_table_undo]
  | [a, x, y] => simp [deedB, oneB, twoB, deedNameB, signB, isS_eq (s := "table"), isS_ne (s := "column") (z := "table") w_table_column, isS_ne (s := "call") (z := "table") w_table_call, isS_ne (s := "kind") (z := "table") w_table_kind, isS_ne (s := "else") (z := "table") w_table_else, isS_ne (s := "put") (z := "table") w_table_put, isS_ne (s := "blank") (z := "table") w_table_blank, isS_ne (s := "drop") (z := "table") w_table_drop, isS_ne (s := "leave") (z := "table") w_table_leave, isS_ne (s := "end") (z := "table") w_table_end, isS_ne (s := "undo") (z := "table") w_table_undo]
  | [a, x, y, z] => simp [deedB, oneB, twoB, deedNameB, signB, isS_eq (s := "table"), isS_ne (s := "column") (z := "table") w_table_column, isS_ne (s := "call") (z := "table") w_table_call, isS_ne (s := "kind") (z := "table") w_table_kind, isS_ne (s := "else") (z := "table") w_table_else, isS_ne (s := "put") (z := "table") w_table_put, isS_ne (s := "blank") (z := "table") w_table_blank, isS_ne (s := "drop") (z := "table") w_table_drop, isS_ne (s := "leave") (z := "table") w_table_leave, isS_ne (s := "end") (z := "table") w_table_end, isS_ne (s := "undo") (z := "table") w_table_undo]
  | a :: x :: y :: z :: u :: r =>
    have : ¬ (a :: x :: y :: z :: u :: r).length = 1 := by simp only [List.length_cons]; omega
    rw [decide_eq_false this, Bool.false_and]
    show (nameB a && false) = false
    rw [Bool.and_false]
theorem val_column : valKD formK formV (.str "column") = some (.str "nntv") := by
  unfold formK formV
  rw [valKD, if_neg (nk_ne w_column_table)]; rw [valKD, if_pos rfl]
theorem deed_column {rest : List D} : deedB (.tup (.str "column" :: rest)) = (decide (rest.length = 4) && ((([110, 110, 116, 118] : List Nat).zip rest).all fun p => signB p.1 p.2)) := by
  match rest with
  | [] => simp [deedB, oneB, twoB, deedNameB, signB, isS_eq (s := "column"), isS_ne (s := "table") (z := "column") w_column_table, isS_ne (s := "call") (z := "column") w_column_call, isS_ne (s := "kind") (z := "column") w_column_kind, isS_ne (s := "else") (z := "column") w_column_else, isS_ne (s := "put") (z := "column") w_column_put, isS_ne (s := "blank") (z := "column") w_column_blank, isS_ne (s := "drop") (z := "column") w_column_drop, isS_ne (s := "leave") (z := "column") w_column_leave, isS_ne (s := "end") (z := "column") w_column_end, isS_ne (s := "undo") (z := "column") w_column_undo]
  | [a] => simp [deedB, oneB, twoB, deedNameB, signB, isS_eq (s := "column"), isS_ne (s := "table") (z := "column") w_column_table, isS_ne (s := "call") (z := "column") w_column_call, isS_ne (s := "kind") (z := "column") w_column_kind, isS_ne (s := "else") (z := "column") w_column_else, isS_ne (s := "put") (z := "column") w_column_put, isS_ne (s := "blank") (z := "column") w_column_blank, isS_ne (s := "drop") (z := "column") w_column_drop, isS_ne (s := "leave") (z := "column") w_column_leave, isS_ne (s := "end") (z := "column") w_column_end, isS_ne (s := "undo") (z := "column") w_column_undo]
  | [a, x] => simp [deedB, oneB, twoB, deedNameB, signB, isS_eq (s := "column"), isS_ne (s := "table") (z := "column") w_column_table, isS_ne (s := "call") (z := "column") w_column_call, isS_ne (s := "kind") (z := "column") w_column_kind, isS_ne (s := "else") (z := "column") w_column_else, isS_ne (s := "put") (z := "column") w_column_put, isS_ne (s := "blank") (z := "column") w_column_blank, isS_ne (s := "drop") (z := "column") w_column_drop, isS_ne (s := "leave") (z := "column") w_column_leave, isS_ne (s := "end") (z := "column") w_column_end, isS_ne (s := "undo") (z := "column") w_column_undo]
  | [a, x, y] => simp [deedB, oneB, twoB, deedNameB, signB, isS_eq (s := "column"), isS_ne (s := "table") (z := "column") w_column_table, isS_ne (s := "call") (z := "column") w_column_call, isS_ne (s := "kind") (z := "column") w_column_kind, isS_ne (s := "else") (z := "column") w_column_else, isS_ne (s := "put") (z := "column") w_column_put, isS_ne (s := "blank") (z := "column") w_column_blank, isS_ne (s := "drop") (z := "column") w_column_drop, isS_ne (s := "leave") (z := "column") w_column_leave, isS_ne (s := "end") (z := "column") w_column_end, isS_ne (s := "undo") (z := "column") w_column_undo]
  | [a, x, y, z] => simp [deedB, oneB, twoB, deedNameB, signB, isS_eq (s := "column"), isS_ne (s := "table") (z := "column") w_column_table, isS_ne (s := "call") (z := "column") w_column_call, isS_ne (s := "kind") (z := "column") w_column_kind, isS_ne (s := "else") (z := "column") w_column_else, isS_ne (s := "put") (z := "column") w_column_put, isS_ne (s := "blank") (z := "column") w_column_blank, isS_ne (s := "drop") (z := "column") w_column_drop, isS_ne (s := "leave") (z := "column") w_column_leave, isS_ne (s := "end") (z := "column") w_column_end, isS_ne (s := "undo") (z := "column") w_column_undo]
  | a :: x :: y :: z :: u :: r =>
    have : ¬ (a :: x :: y :: z :: u :: r).length = 4 := by simp only [List.length_cons]; omega
    rw [decide_eq_false this, Bool.false_and]
    show (nameB a && false) = false
    rw [Bool.and_false]
theorem val_call : valKD formK formV (.str "call") = some (.str "nin") := by
  unfold formK formV
  rw [valKD, if_neg (nk_ne w_call_table)]; rw [valKD, if_neg (nk_ne w_call_column)]; rw [valKD, if_pos rfl]
theorem deed_call {rest : List D} : deedB (.tup (.str "call" :: rest)) = (decide (rest.length = 3) && ((([110, 105, 110] : List Nat).zip rest).all fun p => signB p.1 p.2)) := by
  match rest with
  | [] => simp [deedB, oneB, twoB, deedNameB, signB, isS_eq (s := "call"), isS_ne (s := "table") (z := "call") w_call_table, isS_ne (s := "column") (z := "call") w_call_column, isS_ne (s := "kind") (z := "call") w_call_kind, isS_ne (s := "else") (z := "call") w_call_else, isS_ne (s := "put") (z := "call") w_call_put, isS_ne (s := "blank") (z := "call") w_call_blank, isS_ne (s := "drop") (z := "call") w_call_drop, isS_ne (s := "leave") (z := "call") w_call_leave, isS_ne (s := "end") (z := "call") w_call_end, isS_ne (s := "undo") (z := "call") w_call_undo]
  | [a] => simp [deedB, oneB, twoB, deedNameB, signB, isS_eq (s := "call"), isS_ne (s := "table") (z := "call") w_call_table, isS_ne (s := "column") (z := "call") w_call_column, isS_ne (s := "kind") (z := "call") w_call_kind, isS_ne (s := "else") (z := "call") w_call_else, isS_ne (s := "put") (z := "call") w_call_put, isS_ne (s := "blank") (z := "call") w_call_blank, isS_ne (s := "drop") (z := "call") w_call_drop, isS_ne (s := "leave") (z := "call") w_call_leave, isS_ne (s := "end") (z := "call") w_call_end, isS_ne (s := "undo") (z := "call") w_call_undo]
  | [a, x] => simp [deedB, oneB, twoB, deedNameB, signB, isS_eq (s := "call"), isS_ne (s := "table") (z := "call") w_call_table, isS_ne (s := "column") (z := "call") w_call_column, isS_ne (s := "kind") (z := "call") w_call_kind, isS_ne (s := "else") (z := "call") w_call_else, isS_ne (s := "put") (z := "call") w_call_put, isS_ne (s := "blank") (z := "call") w_call_blank, isS_ne (s := "drop") (z := "call") w_call_drop, isS_ne (s := "leave") (z := "call") w_call_leave, isS_ne (s := "end") (z := "call") w_call_end, isS_ne (s := "undo") (z := "call") w_call_undo]
  | [a, x, y] => simp [deedB, oneB, twoB, deedNameB, signB, isS_eq (s := "call"), isS_ne (s := "table") (z := "call") w_call_table, isS_ne (s := "column") (z := "call") w_call_column, isS_ne (s := "kind") (z := "call") w_call_kind, isS_ne (s := "else") (z := "call") w_call_else, isS_ne (s := "put") (z := "call") w_call_put, isS_ne (s := "blank") (z := "call") w_call_blank, isS_ne (s := "drop") (z := "call") w_call_drop, isS_ne (s := "leave") (z := "call") w_call_leave, isS_ne (s := "end") (z := "call") w_call_end, isS_ne (s := "undo") (z := "call") w_call_undo]
  | [a, x, y, z] => simp [deedB, oneB, twoB, deedNameB, signB, isS_eq (s := "call"), isS_ne (s := "table") (z := "call") w_call_table, isS_ne (s := "column") (z := "call") w_call_column, isS_ne (s := "kind") (z := "call") w_call_kind, isS_ne (s := "else") (z := "call") w_call_else, isS_ne (s := "put") (z := "call") w_call_put, isS_ne (s := "blank") (z := "call") w_call_blank, isS_ne (s := "drop") (z := "call") w_call_drop, isS_ne (s := "leave") (z := "call") w_call_leave, isS_ne (s := "end") (z := "call") w_call_end, isS_ne (s := "undo") (z := "call") w_call_undo]
  | a :: x :: y :: z :: u :: r =>
    have : ¬ (a :: x :: y :: z :: u :: r).length = 3 := by simp only [List.length_cons]; omega
    rw [decide_eq_false this, Bool.false_and]
    show (nameB a && false) = false
    rw [Bool.and_false]
theorem val_kind : valKD formK formV (.str "kind") = some (.str "nit") := by
  unfold formK formV
  rw [valKD, if_neg (nk_ne w_kind_table)]; rw [valKD, if_neg (nk_ne w_kind_column)]; rw [valKD, if_neg (nk_ne w_kind_call)]; rw [valKD, if_pos rfl]
theorem deed_kind {rest : List D} : deedB (.tup (.str "kind" :: rest)) = (decide (rest.length = 3) && ((([110, 105, 116] : List Nat).zip rest).all fun p => signB p.1 p.2)) := by
  match rest with
  | [] => simp [deedB, oneB, twoB, deedNameB, signB, isS_eq (s := "kind"), isS_ne (s := "table") (z := "kind") w_kind_table, isS_ne (s := "column") (z := "kind") w_kind_column, isS_ne (s := "call") (z := "kind") w_kind_call, isS_ne (s := "else") (z := "kind") w_kind_else, isS_ne (s := "put") (z := "kind") w_kind_put, isS_ne (s := "blank") (z := "kind") w_kind_blank, isS_ne (s := "drop") (z := "kind") w_kind_drop, isS_ne (s := "leave") (z := "kind") w_kind_leave, isS_ne (s := "end") (z := "kind") w_kind_end, isS_ne (s := "undo") (z := "kind") w_kind_undo]
  | [a] => simp [deedB, oneB, twoB, deedNameB, signB, isS_eq (s := "kind"), isS_ne (s := "table") (z := "kind") w_kind_table, isS_ne (s := "column") (z := "kind") w_kind_column, isS_ne (s := "call") (z := "kind") w_kind_call, isS_ne (s := "else") (z := "kind") w_kind_else, isS_ne (s := "put") (z := "kind") w_kind_put, isS_ne (s := "blank") (z := "kind") w_kind_blank, isS_ne (s := "drop") (z := "kind") w_kind_drop, isS_ne (s := "leave") (z := "kind") w_kind_leave, isS_ne (s := "end") (z := "kind") w_kind_end, isS_ne (s := "undo") (z := "kind") w_kind_undo]
  | [a, x] => simp [deedB, oneB, twoB, deedNameB, signB, isS_eq (s := "kind"), isS_ne (s := "table") (z := "kind") w_kind_table, isS_ne (s := "column") (z := "kind") w_kind_column, isS_ne (s := "call") (z := "kind") w_kind_call, isS_ne (s := "else") (z := "kind") w_kind_else, isS_ne (s := "put") (z := "kind") w_kind_put, isS_ne (s := "blank") (z := "kind") w_kind_blank, isS_ne (s := "drop") (z := "kind") w_kind_drop, isS_ne (s := "leave") (z := "kind") w_kind_leave, isS_ne (s := "end") (z := "kind") w_kind_end, isS_ne (s := "undo") (z := "kind") w_kind_undo]
  | [a, x, y] => simp [deedB, oneB, twoB, deedNameB, signB, isS_eq (s := "kind"), isS_ne (s := "table") (z := "kind") w_kind_table, isS_ne (s := "column") (z := "kind") w_kind_column, isS_ne (s := "call") (z := "kind") w_kind_call, isS_ne (s := "else") (z := "kind") w_kind_else, isS_ne (s := "put") (z := "kind") w_kind_put, isS_ne (s := "blank") (z := "kind") w_kind_blank, isS_ne (s := "drop") (z := "kind") w_kind_drop, isS_ne (s := "leave") (z := "kind") w_kind_leave, isS_ne (s := "end") (z := "kind") w_kind_end, isS_ne (s := "undo") (z := "kind") w_kind_undo]
  | [a, x, y, z] => simp [deedB, oneB, twoB, deedNameB, signB, isS_eq (s := "kind"), isS_ne (s := "table") (z := "kind") w_kind_table, isS_ne (s := "column") (z := "kind") w_kind_column, isS_ne (s := "call") (z := "kind") w_kind_call, isS_ne (s := "else") (z := "kind") w_kind_else, isS_ne (s := "put") (z := "kind") w_kind_put, isS_ne (s := "blank") (z := "kind") w_kind_blank, isS_ne (s := "drop") (z := "kind") w_kind_drop, isS_ne (s := "leave") (z := "kind") w_kind_leave, isS_ne (s := "end") (z := "kind") w_kind_end, isS_ne (s := "undo") (z := "kind") w_kind_undo]
  | a :: x :: y :: z :: u :: r =>
    have : ¬ (a :: x :: y :: z :: u :: r).length = 3 := by simp only [List.length_cons]; omega
    rw [decide_eq_false this, Bool.false_and]
    show (nameB a && false) = false
    rw [Bool.and_false]
theorem val_else : valKD formK formV (.str "else") = some (.str "niv") := by
  unfold formK formV
  rw [valKD, if_neg (nk_ne w_else_table)]; rw [valKD, if_neg (nk_ne w_else_column)]; rw [valKD, if_neg (nk_ne w_else_call)]; rw [valKD, if_neg (nk_ne w_else_kind)]; rw [valKD, if_pos rfl]
theorem deed_else {rest : List D} : deedB (.tup (.str "else" :: rest)) = (decide (rest.length = 3) && ((([110, 105, 118] : List Nat).zip rest).all fun p => signB p.1 p.2)) := by
  match rest with
  | [] => simp [deedB, oneB, twoB, deedNameB, signB, isS_eq (s := "else"), isS_ne (s := "table") (z := "else") w_else_table, isS_ne (s := "column") (z := "else") w_else_column, isS_ne (s := "call") (z := "else") w_else_call, isS_ne (s := "kind") (z := "else") w_else_kind, isS_ne (s := "put") (z := "else") w_else_put, isS_ne (s := "blank") (z := "else") w_else_blank, isS_ne (s := "drop") (z := "else") w_else_drop, isS_ne (s := "leave") (z := "else") w_else_leave, isS_ne (s := "end") (z := "else") w_else_end, isS_ne (s := "undo") (z := "else") w_else_undo]
  | [a] => simp [deedB, oneB, twoB, deedNameB, signB, isS_eq (s := "else"), isS_ne (s := "table") (z := "else") w_else_table, isS_ne (s := "column") (z := "else") w_else_column, isS_ne (s := "call") (z := "else") w_else_call, isS_ne (s := "kind") (z := "else") w_else_kind, isS_ne (s := "put") (z := "else") w_else_put, isS_ne (s := "blank") (z := "else") w_else_blank, isS_ne (s := "drop") (z := "else") w_else_drop, isS_ne (s := "leave") (z := "else") w_else_leave, isS_ne (s := "end") (z := "else") w_else_end, isS_ne (s := "undo") (z := "else") w_else_undo]
  | [a, x] => simp [deedB, oneB, twoB, deedNameB, signB, isS_eq (s := "else"), isS_ne (s := "table") (z := "else") w_else_table, isS_ne (s := "column") (z := "else") w_else_column, isS_ne (s := "call") (z := "else") w_else_call, isS_ne (s := "kind") (z := "else") w_else_kind, isS_ne (s := "put") (z := "else") w_else_put, isS_ne (s := "blank") (z := "else") w_else_blank, isS_ne (s := "drop") (z := "else") w_else_drop, isS_ne (s := "leave") (z := "else") w_else_leave, isS_ne (s := "end") (z := "else") w_else_end, isS_ne (s := "undo") (z := "else") w_else_undo]
  | [a, x, y] => simp [deedB, oneB, twoB, deedNameB, signB, isS_eq (s := "else"), isS_ne (s := "table") (z := "else") w_else_table, isS_ne (s := "column") (z := "else") w_else_column, isS_ne (s := "call") (z := "else") w_else_call, isS_ne (s := "kind") (z := "else") w_else_kind, isS_ne (s := "put") (z := "else") w_else_put, isS_ne (s := "blank") (z := "else") w_else_blank, isS_ne (s := "drop") (z := "else") w_else_drop, isS_ne (s := "leave") (z := "else") w_else_leave, isS_ne (s := "end") (z := "else") w_else_end, isS_ne (s := "undo") (z := "else") w_else_undo]
  | [a, x, y, z] => simp [deedB, oneB, twoB, deedNameB, signB, isS_eq (s := "else"), isS_ne (s := "table") (z := "else") w_else_table, isS_ne (s := "column") (z := "else") w_else_column, isS_ne (s := "call") (z := "else") w_else_call, isS_ne (s := "kind") (z := "else") w_else_kind, isS_ne (s := "put") (z := "else") w_else_put, isS_ne (s := "blank") (z := "else") w_else_blank, isS_ne (s := "drop") (z := "else") w_else_drop, isS_ne (s := "leave") (z := "else") w_else_leave, isS_ne (s := "end") (z := "else") w_else_end, isS_ne (s := "undo") (z := "else") w_else_undo]
  | a :: x :: y :: z :: u :: r =>
    have : ¬ (a :: x :: y :: z :: u :: r).length = 3 := by simp only [List.length_cons]; omega
    rw [decide_eq_false this, Bool.false_and]
    show (nameB a && false) = false
    rw [Bool.and_false]
theorem val_put : valKD formK formV (.str "put") = some (.str "nkc") := by
  unfold formK formV
  rw [valKD, if_neg (nk_ne w_put_table)]; rw [valKD, if_neg (nk_ne w_put_column)]; rw [valKD, if_neg (nk_ne w_put_call)]; rw [valKD, if_neg (nk_ne w_put_kind)]; rw [valKD, if_neg (nk_ne w_put_else)]; rw [valKD, if_pos rfl]
theorem deed_put {rest : List D} : deedB (.tup (.str "put" :: rest)) = (decide (rest.length = 3) && ((([110, 107, 99] : List Nat).zip rest).all fun p => signB p.1 p.2)) := by
  match rest with
  | [] => simp [deedB, oneB, twoB, deedNameB, signB, isS_eq (s := "put"), isS_ne (s := "table") (z := "put") w_put_table, isS_ne (s := "column") (z := "put") w_put_column, isS_ne (s := "call") (z := "put") w_put_call, isS_ne (s := "kind") (z := "put") w_put_kind, isS_ne (s := "else") (z := "put") w_put_else, isS_ne (s := "blank") (z := "put") w_put_blank, isS_ne (s := "drop") (z := "put") w_put_drop, isS_ne (s := "leave") (z := "put") w_put_leave, isS_ne (s := "end") (z := "put") w_put_end, isS_ne (s := "undo") (z := "put") w_put_undo]
  | [a] => simp [deedB, oneB, twoB, deedNameB, signB, isS_eq (s := "put"), isS_ne (s := "table") (z := "put") w_put_table, isS_ne (s := "column") (z := "put") w_put_column, isS_ne (s := "call") (z := "put") w_put_call, isS_ne (s := "kind") (z := "put") w_put_kind, isS_ne (s := "else") (z := "put") w_put_else, isS_ne (s := "blank") (z := "put") w_put_blank, isS_ne (s := "drop") (z := "put") w_put_drop, isS_ne (s := "leave") (z := "put") w_put_leave, isS_ne (s := "end") (z := "put") w_put_end, isS_ne (s := "undo") (z := "put") w_put_undo]
  | [a, x] => simp [deedB, oneB, twoB, deedNameB, signB, isS_eq (s := "put"), isS_ne (s := "table") (z := "put") w_put_table, isS_ne (s := "column") (z := "put") w_put_column, isS_ne (s := "call") (z := "put") w_put_call, isS_ne (s := "kind") (z := "put") w_put_kind, isS_ne (s := "else") (z := "put") w_put_else, isS_ne (s := "blank") (z := "put") w_put_blank, isS_ne (s := "drop") (z := "put") w_put_drop, isS_ne (s := "leave") (z := "put") w_put_leave, isS_ne (s := "end") (z := "put") w_put_end, isS_ne (s := "undo") (z := "put") w_put_undo]
  | [a, x, y] => simp [deedB, oneB, twoB, deedNameB, signB, isS_eq (s := "put"), isS_ne (s := "table") (z := "put") w_put_table, isS_ne (s := "column") (z := "put") w_put_column, isS_ne (s := "call") (z := "put") w_put_call, isS_ne (s := "kind") (z := "put") w_put_kind, isS_ne (s := "else") (z := "put") w_put_else, isS_ne (s := "blank") (z := "put") w_put_blank, isS_ne (s := "drop") (z := "put") w_put_drop, isS_ne (s := "leave") (z := "put") w_put_leave, isS_ne (s := "end") (z := "put") w_put_end, isS_ne (s := "undo") (z := "put") w_put_undo]
  | [a, x, y, z] => simp [deedB, oneB, twoB, deedNameB, signB, isS_eq (s := "put"), isS_ne (s := "table") (z := "put") w_put_table, isS_ne (s := "column") (z := "put") w_put_column, isS_ne (s := "call") (z := "put") w_put_call, isS_ne (s := "kind") (z := "put") w_put_kind, isS_ne (s := "else") (z := "put") w_put_else, isS_ne (s := "blank") (z := "put") w_put_blank, isS_ne (s := "drop") (z := "put") w_put_drop, isS_ne (s := "leave") (z := "put") w_put_leave, isS_ne (s := "end") (z := "put") w_put_end, isS_ne (s := "undo") (z := "put") w_put_undo]
  | a :: x :: y :: z :: u :: r =>
    have : ¬ (a :: x :: y :: z :: u :: r).length = 3 := by simp only [List.length_cons]; omega
    rw [decide_eq_false this, Bool.false_and]
    show (nameB a && false) = false
    rw [Bool.and_false]
theorem val_blank : valKD formK formV (.str "blank") = some (.str "nki") := by
  unfold formK formV
  rw [valKD, if_neg (nk_ne w_blank_table)]; rw [valKD, if_neg (nk_ne w_blank_column)]; rw [valKD, if_neg (nk_ne w_blank_call)]; rw [valKD, if_neg (nk_ne w_blank_kind)]; rw [valKD, if_neg (nk_ne w_blank_else)]; rw [valKD, if_neg (nk_ne w_blank_put)]; rw [valKD, if_pos rfl]
theorem deed_blank {rest : List D} : deedB (.tup (.str "blank" :: rest)) = (decide (rest.length = 3) && ((([110, 107, 105] : List Nat).zip rest).all fun p => signB p.1 p.2)) := by
  match rest with
  | [] => simp [deedB, oneB, twoB, deedNameB, signB, isS_eq (s := "blank"), isS_ne (s := "table") (z := "blank") w_blank_table, isS_ne (s := "column") (z := "blank") w_blank_column, isS_ne (s := "call") (z := "blank") w_blank_call, isS_ne (s := "kind") (z := "blank") w_blank_kind, isS_ne (s := "else") (z := "blank") w_blank_else, isS_ne (s := "put") (z := "blank") w_blank_put, isS_ne (s := "drop") (z := "blank") w_blank_drop, isS_ne (s := "leave") (z := "blank") w_blank_leave, isS_ne (s := "end") (z := "blank") w_blank_end, isS_ne (s := "undo") (z := "blank") w_blank_undo]
  | [a] => simp [deedB, oneB, twoB, deedNameB, signB, isS_eq (s := "blank"), isS_ne (s := "table") (z := "blank") w_blank_table, isS_ne (s := "column") (z := "blank") w_blank_column, isS_ne (s := "call") (z := "blank") w_blank_call, isS_ne (s := "kind") (z := "blank") w_blank_kind, isS_ne (s := "else") (z := "blank") w_blank_else, isS_ne (s := "put") (z := "blank") w_blank_put, isS_ne (s := "drop") (z := "blank") w_blank_drop, isS_ne (s := "leave") (z := "blank") w_blank_leave, isS_ne (s := "end") (z := "blank") w_blank_end, isS_ne (s := "undo") (z := "blank") w_blank_undo]
  | [a, x] => simp [deedB, oneB, twoB, deedNameB, signB, isS_eq (s := "blank"), isS_ne (s := "table") (z := "blank") w_blank_table, isS_ne (s := "column") (z := "blank") w_blank_column, isS_ne (s := "call") (z := "blank") w_blank_call, isS_ne (s := "kind") (z := "blank") w_blank_kind, isS_ne (s := "else") (z := "blank") w_blank_else, isS_ne (s := "put") (z := "blank") w_blank_put, isS_ne (s := "drop") (z := "blank") w_blank_drop, isS_ne (s := "leave") (z := "blank") w_blank_leave, isS_ne (s := "end") (z := "blank") w_blank_end, isS_ne (s := "undo") (z := "blank") w_blank_undo]
  | [a, x, y] => simp [deedB, oneB, twoB, deedNameB, signB, isS_eq (s := "blank"), isS_ne (s := "table") (z := "blank") w_blank_table, isS_ne (s := "column") (z := "blank") w_blank_column, isS_ne (s := "call") (z := "blank") w_blank_call, isS_ne (s := "kind") (z := "blank") w_blank_kind, isS_ne (s := "else") (z := "blank") w_blank_else, isS_ne (s := "put") (z := "blank") w_blank_put, isS_ne (s := "drop") (z := "blank") w_blank_drop, isS_ne (s := "leave") (z := "blank") w_blank_leave, isS_ne (s := "end") (z := "blank") w_blank_end, isS_ne (s := "undo") (z := "blank") w_blank_undo]
  | [a, x, y, z] => simp [deedB, oneB, twoB, deedNameB, signB, isS_eq (s := "blank"), isS_ne (s := "table") (z := "blank") w_blank_table, isS_ne (s := "column") (z := "blank") w_blank_column, isS_ne (s := "call") (z := "blank") w_blank_call, isS_ne (s := "kind") (z := "blank") w_blank_kind, isS_ne (s := "else") (z := "blank") w_blank_else, isS_ne (s := "put") (z := "blank") w_blank_put, isS_ne (s := "drop") (z := "blank") w_blank_drop, isS_ne (s := "leave") (z := "blank") w_blank_leave, isS_ne (s := "end") (z := "blank") w_blank_end, isS_ne (s := "undo") (z := "blank") w_blank_undo]
  | a :: x :: y :: z :: u :: r =>
    have : ¬ (a :: x :: y :: z :: u :: r).length = 3 := by simp only [List.length_cons]; omega
    rw [decide_eq_false this, Bool.false_and]
    show (nameB a && false) = false
    rw [Bool.and_false]
theorem val_drop : valKD formK formV (.str "drop") = some (.str "nk") := by
  unfold formK formV
  rw [valKD, if_neg (nk_ne w_drop_table)]; rw [valKD, if_neg (nk_ne w_drop_column)]; rw [valKD, if_neg (nk_ne w_drop_call)]; rw [valKD, if_neg (nk_ne w_drop_kind)]; rw [valKD, if_neg (nk_ne w_drop_else)]; rw [valKD, if_neg (nk_ne w_drop_put)]; rw [valKD, if_neg (nk_ne w_drop_blank)]; rw [valKD, if_pos rfl]
theorem deed_drop {rest : List D} : deedB (.tup (.str "drop" :: rest)) = (decide (rest.length = 2) && ((([110, 107] : List Nat).zip rest).all fun p => signB p.1 p.2)) := by
  match rest with
  | [] => simp [deedB, oneB, twoB, deedNameB, signB, isS_eq (s := "drop"), isS_ne (s := "table") (z := "drop") w_drop_table, isS_ne (s := "column") (z := "drop") w_drop_column, isS_ne (s := "call") (z := "drop") w_drop_call, isS_ne (s := "kind") (z := "drop") w_drop_kind, isS_ne (s := "else") (z := "drop") w_drop_else, isS_ne (s := "put") (z := "drop") w_drop_put, isS_ne (s := "blank") (z := "drop") w_drop_blank, isS_ne (s := "leave") (z := "drop") w_drop_leave, isS_ne (s := "end") (z := "drop") w_drop_end, isS_ne (s := "undo") (z := "drop") w_drop_undo]
  | [a] => simp [deedB, oneB, twoB, deedNameB, signB, isS_eq (s := "drop"), isS_ne (s := "table") (z := "drop") w_drop_table, isS_ne (s := "column") (z := "drop") w_drop_column, isS_ne (s := "call") (z := "drop") w_drop_call, isS_ne (s := "kind") (z := "drop") w_drop_kind, isS_ne (s := "else") (z := "drop") w_drop_else, isS_ne (s := "put") (z := "drop") w_drop_put, isS_ne (s := "blank") (z := "drop") w_drop_blank, isS_ne (s := "leave") (z := "drop") w_drop_leave, isS_ne (s := "end") (z := "drop") w_drop_end, isS_ne (s := "undo") (z := "drop") w_drop_undo]
  | [a, x] => simp [deedB, oneB, twoB, deedNameB, signB, isS_eq (s := "drop"), isS_ne (s := "table") (z := "drop") w_drop_table, isS_ne (s := "column") (z := "drop") w_drop_column, isS_ne (s := "call") (z := "drop") w_drop_call, isS_ne (s := "kind") (z := "drop") w_drop_kind, isS_ne (s := "else") (z := "drop") w_drop_else, isS_ne (s := "put") (z := "drop") w_drop_put, isS_ne (s := "blank") (z := "drop") w_drop_blank, isS_ne (s := "leave") (z := "drop") w_drop_leave, isS_ne (s := "end") (z := "drop") w_drop_end, isS_ne (s := "undo") (z := "drop") w_drop_undo]
  | [a, x, y] => simp [deedB, oneB, twoB, deedNameB, signB, isS_eq (s := "drop"), isS_ne (s := "table") (z := "drop") w_drop_table, isS_ne (s := "column") (z := "drop") w_drop_column, isS_ne (s := "call") (z := "drop") w_drop_call, isS_ne (s := "kind") (z := "drop") w_drop_kind, isS_ne (s := "else") (z := "drop") w_drop_else, isS_ne (s := "put") (z := "drop") w_drop_put, isS_ne (s := "blank") (z := "drop") w_drop_blank, isS_ne (s := "leave") (z := "drop") w_drop_leave, isS_ne (s := "end") (z := "drop") w_drop_end, isS_ne (s := "undo") (z := "drop") w_drop_undo]
  | [a, x, y, z] => simp [deedB, oneB, twoB, deedNameB, signB, isS_eq (s := "drop"), isS_ne (s := "table") (z := "drop") w_drop_table, isS_ne (s := "column") (z := "drop") w_drop_column, isS_ne (s := "call") (z := "drop") w_drop_call, isS_ne (s := "kind") (z := "drop") w_drop_kind, isS_ne (s := "else") (z := "drop") w_drop_else, isS_ne (s := "put") (z := "drop") w_drop_put, isS_ne (s := "blank") (z := "drop") w_drop_blank, isS_ne (s := "leave") (z := "drop") w_drop_leave, isS_ne (s := "end") (z := "drop") w_drop_end, isS_ne (s := "undo") (z := "drop") w_drop_undo]
  | a :: x :: y :: z :: u :: r =>
    have : ¬ (a :: x :: y :: z :: u :: r).length = 2 := by simp only [List.length_cons]; omega
    rw [decide_eq_false this, Bool.false_and]
    show (nameB a && false) = false
    rw [Bool.and_false]
theorem val_leave : valKD formK formV (.str "leave") = some (.str "ni") := by
  unfold formK formV
  rw [valKD, if_neg (nk_ne w_leave_table)]; rw [valKD, if_neg (nk_ne w_leave_column)]; rw [valKD, if_neg (nk_ne w_leave_call)]; rw [valKD, if_neg (nk_ne w_leave_kind)]; rw [valKD, if_neg (nk_ne w_leave_else)]; rw [valKD, if_neg (nk_ne w_leave_put)]; rw [valKD, if_neg (nk_ne w_leave_blank)]; rw [valKD, if_neg (nk_ne w_leave_drop)]; rw [valKD, if_pos rfl]
theorem deed_leave {rest : List D} : deedB (.tup (.str "leave" :: rest)) = (decide (rest.length = 2) && ((([110, 105] : List Nat).zip rest).all fun p => signB p.1 p.2)) := by
  match rest with
  | [] => simp [deedB, oneB, twoB, deedNameB, signB, isS_eq (s := "leave"), isS_ne (s := "table") (z := "leave") w_leave_table, isS_ne (s := "column") (z := "leave") w_leave_column, isS_ne (s := "call") (z := "leave") w_leave_call, isS_ne (s := "kind") (z := "leave") w_leave_kind, isS_ne (s := "else") (z := "leave") w_leave_else, isS_ne (s := "put") (z := "leave") w_leave_put, isS_ne (s := "blank") (z := "leave") w_leave_blank, isS_ne (s := "drop") (z := "leave") w_leave_drop, isS_ne (s := "end") (z := "leave") w_leave_end, isS_ne (s := "undo") (z := "leave") w_leave_undo]
  | [a] => simp [deedB, oneB, twoB, deedNameB, signB, isS_eq (s := "leave"), isS_ne (s := "table") (z := "leave") w_leave_table, isS_ne (s := "column") (z := "leave") w_leave_column, isS_ne (s := "call") (z := "leave") w_leave_call, isS_ne (s := "kind") (z := "leave") w_leave_kind, isS_ne (s := "else") (z := "leave") w_leave_else, isS_ne (s := "put") (z := "leave") w_leave_put, isS_ne (s := "blank") (z := "leave") w_leave_blank, isS_ne (s := "drop") (z := "leave") w_leave_drop, isS_ne (s := "end") (z := "leave") w_leave_end, isS_ne (s := "undo") (z := "leave") w_leave_undo]
  | [a, x] => simp [deedB, oneB, twoB, deedNameB, signB, isS_eq (s := "leave"), isS_ne (s := "table") (z := "leave") w_leave_table, isS_ne (s := "column") (z := "leave") w_leave_column, isS_ne (s := "call") (z := "leave") w_leave_call, isS_ne (s := "kind") (z := "leave") w_leave_kind, isS_ne (s := "else") (z := "leave") w_leave_else, isS_ne (s := "put") (z := "leave") w_leave_put, isS_ne (s := "blank") (z := "leave") w_leave_blank, isS_ne (s := "drop") (z := "leave") w_leave_drop, isS_ne (s := "end") (z := "leave") w_leave_end, isS_ne (s := "undo") (z := "leave") w_leave_undo]
  | [a, x, y] => simp [deedB, oneB, twoB, deedNameB, signB, isS_eq (s := "leave"), isS_ne (s := "table") (z := "leave") w_leave_table, isS_ne (s := "column") (z := "leave") w_leave_column, isS_ne (s := "call") (z := "leave") w_leave_call, isS_ne (s := "kind") (z := "leave") w_leave_kind, isS_ne (s := "else") (z := "leave") w_leave_else, isS_ne (s := "put") (z := "leave") w_leave_put, isS_ne (s := "blank") (z := "leave") w_leave_blank, isS_ne (s := "drop") (z := "leave") w_leave_drop, isS_ne (s := "end") (z := "leave") w_leave_end, isS_ne (s := "undo") (z := "leave") w_leave_undo]
  | [a, x, y, z] => simp [deedB, oneB, twoB, deedNameB, signB, isS_eq (s := "leave"), isS_ne (s := "table") (z := "leave") w_leave_table, isS_ne (s := "column") (z := "leave") w_leave_column, isS_ne (s := "call") (z := "leave") w_leave_call, isS_ne (s := "kind") (z := "leave") w_leave_kind, isS_ne (s := "else") (z := "leave") w_leave_else, isS_ne (s := "put") (z := "leave") w_leave_put, isS_ne (s := "blank") (z := "leave") w_leave_blank, isS_ne (s := "drop") (z := "leave") w_leave_drop, isS_ne (s := "end") (z := "leave") w_leave_end, isS_ne (s := "undo") (z := "leave") w_leave_undo]
  | a :: x :: y :: z :: u :: r =>
    have : ¬ (a :: x :: y :: z :: u :: r).length = 2 := by simp only [List.length_cons]; omega
    rw [decide_eq_false this, Bool.false_and]
    show (nameB a && false) = false
    rw [Bool.and_false]
theorem val_end : valKD formK formV (.str "end") = some (.str "n") := by
  unfold formK formV
  rw [valKD, if_neg (nk_ne w_end_table)]; rw [valKD, if_neg (nk_ne w_end_column)]; rw [valKD, if_neg (nk_ne w_end_call)]; rw [valKD, if_neg (nk_ne w_end_kind)]; rw [valKD, if_neg (nk_ne w_end_else)]; rw [valKD, if_neg (nk_ne w_end_put)]; rw [valKD, if_neg (nk_ne w_end_blank)]; rw [valKD, if_neg (nk_ne w_end_drop)]; rw [valKD, if_neg (nk_ne w_end_leave)]; rw [valKD, if_pos rfl]
theorem deed_end {rest : List D} : deedB (.tup (.str "end" :: rest)) = (decide (rest.length = 1) && ((([110] : List Nat).zip rest).all fun p => signB p.1 p.2)) := by
  match rest with
  | [] => simp [deedB, oneB, twoB, deedNameB, signB, isS_eq (s := "end"), isS_ne (s := "table") (z := "end") w_end_table, isS_ne (s := "column") (z := "end") w_end_column, isS_ne (s := "call") (z := "end") w_end_call, isS_ne (s := "kind") (z := "end") w_end_kind, isS_ne (s := "else") (z := "end") w_end_else, isS_ne (s := "put") (z := "end") w_end_put, isS_ne (s := "blank") (z := "end") w_end_blank, isS_ne (s := "drop") (z := "end") w_end_drop, isS_ne (s := "leave") (z := "end") w_end_leave, isS_ne (s := "undo") (z := "end") w_end_undo]
  | [a] => simp [deedB, oneB, twoB, deedNameB, signB, isS_eq (s := "end"), isS_ne (s := "table") (z := "end") w_end_table, isS_ne (s := "column") (z := "end") w_end_column, isS_ne (s := "call") (z := "end") w_end_call, isS_ne (s := "kind") (z := "end") w_end_kind, isS_ne (s := "else") (z := "end") w_end_else, isS_ne (s := "put") (z := "end") w_end_put, isS_ne (s := "blank") (z := "end") w_end_blank, isS_ne (s := "drop") (z := "end") w_end_drop, isS_ne (s := "leave") (z := "end") w_end_leave, isS_ne (s := "undo") (z := "end") w_end_undo]
  | [a, x] => simp [deedB, oneB, twoB, deedNameB, signB, isS_eq (s := "end"), isS_ne (s := "table") (z := "end") w_end_table, isS_ne (s := "column") (z := "end") w_end_column, isS_ne (s := "call") (z := "end") w_end_call, isS_ne (s := "kind") (z := "end") w_end_kind, isS_ne (s := "else") (z := "end") w_end_else, isS_ne (s := "put") (z := "end") w_end_put, isS_ne (s := "blank") (z := "end") w_end_blank, isS_ne (s := "drop") (z := "end") w_end_drop, isS_ne (s := "leave") (z := "end") w_end_leave, isS_ne (s := "undo") (z := "end") w_end_undo]
  | [a, x, y] => simp [deedB, oneB, twoB, deedNameB, signB, isS_eq (s := "end"), isS_ne (s := "table") (z := "end") w_end_table, isS_ne (s := "column") (z := "end") w_end_column, isS_ne (s := "call") (z := "end") w_end_call, isS_ne (s := "kind") (z := "end") w_end_kind, isS_ne (s := "else") (z := "end") w_end_else, isS_ne (s := "put") (z := "end") w_end_put, isS_ne (s := "blank") (z := "end") w_end_blank, isS_ne (s := "drop") (z := "end") w_end_drop, isS_ne (s := "leave") (z := "end") w_end_leave, isS_ne (s := "undo") (z := "end") w_end_undo]
  | [a, x, y, z] => simp [deedB, oneB, twoB, deedNameB, signB, isS_eq (s := "end"), isS_ne (s := "table") (z := "end") w_end_table, isS_ne (s := "column") (z := "end") w_end_column, isS_ne (s := "call") (z := "end") w_end_call, isS_ne (s := "kind") (z := "end") w_end_kind, isS_ne (s := "else") (z := "end") w_end_else, isS_ne (s := "put") (z := "end") w_end_put, isS_ne (s := "blank") (z := "end") w_end_blank, isS_ne (s := "drop") (z := "end") w_end_drop, isS_ne (s := "leave") (z := "end") w_end_leave, isS_ne (s := "undo") (z := "end") w_end_undo]
  | a :: x :: y :: z :: u :: r =>
    have : ¬ (a :: x :: y :: z :: u :: r).length = 1 := by simp only [List.length_cons]; omega
    rw [decide_eq_false this, Bool.false_and]
    show (nameB a && false) = false
    rw [Bool.and_false]
theorem val_undo : valKD formK formV (.str "undo") = some (.str "nhnm") := by
  unfold formK formV
  rw [valKD, if_neg (nk_ne w_undo_table)]; rw [valKD, if_neg (nk_ne w_undo_column)]; rw [valKD, if_neg (nk_ne w_undo_call)]; rw [valKD, if_neg (nk_ne w_undo_kind)]; rw [valKD, if_neg (nk_ne w_undo_else)]; rw [valKD, if_neg (nk_ne w_undo_put)]; rw [valKD, if_neg (nk_ne w_undo_blank)]; rw [valKD, if_neg (nk_ne w_undo_drop)]; rw [valKD, if_neg (nk_ne w_undo_leave)]; rw [valKD, if_neg (nk_ne w_undo_end)]; rw [valKD, if_pos rfl]
theorem deed_undo {rest : List D} : deedB (.tup (.str "undo" :: rest)) = (decide (rest.length = 4) && ((([110, 104, 110, 109] : List Nat).zip rest).all fun p => signB p.1 p.2)) := by
  match rest with
  | [] => simp [deedB, oneB, twoB, deedNameB, signB, isS_eq (s := "undo"), isS_ne (s := "table") (z := "undo") w_undo_table, isS_ne (s := "column") (z := "undo") w_undo_column, isS_ne (s := "call") (z := "undo") w_undo_call, isS_ne (s := "kind") (z := "undo") w_undo_kind, isS_ne (s := "else") (z := "undo") w_undo_else, isS_ne (s := "put") (z := "undo") w_undo_put, isS_ne (s := "blank") (z := "undo") w_undo_blank, isS_ne (s := "drop") (z := "undo") w_undo_drop, isS_ne (s := "leave") (z := "undo") w_undo_leave, isS_ne (s := "end") (z := "undo") w_undo_end]
  | [a] => simp [deedB, oneB, twoB, deedNameB, signB, isS_eq (s := "undo"), isS_ne (s := "table") (z := "undo") w_undo_table, isS_ne (s := "column") (z := "undo") w_undo_column, isS_ne (s := "call") (z := "undo") w_undo_call, isS_ne (s := "kind") (z := "undo") w_undo_kind, isS_ne (s := "else") (z := "undo") w_undo_else, isS_ne (s := "put") (z := "undo") w_undo_put, isS_ne (s := "blank") (z := "undo") w_undo_blank, isS_ne (s := "drop") (z := "undo") w_undo_drop, isS_ne (s := "leave") (z := "undo") w_undo_leave, isS_ne (s := "end") (z := "undo") w_undo_end]
  | [a, x] => simp [deedB, oneB, twoB, deedNameB, signB, isS_eq (s := "undo"), isS_ne (s := "table") (z := "undo") w_undo_table, isS_ne (s := "column") (z := "undo") w_undo_column, isS_ne (s := "call") (z := "undo") w_undo_call, isS_ne (s := "kind") (z := "undo") w_undo_kind, isS_ne (s := "else") (z := "undo") w_undo_else, isS_ne (s := "put") (z := "undo") w_undo_put, isS_ne (s := "blank") (z := "undo") w_undo_blank, isS_ne (s := "drop") (z := "undo") w_undo_drop, isS_ne (s := "leave") (z := "undo") w_undo_leave, isS_ne (s := "end") (z := "undo") w_undo_end]
  | [a, x, y] => simp [deedB, oneB, twoB, deedNameB, signB, isS_eq (s := "undo"), isS_ne (s := "table") (z := "undo") w_undo_table, isS_ne (s := "column") (z := "undo") w_undo_column, isS_ne (s := "call") (z := "undo") w_undo_call, isS_ne (s := "kind") (z := "undo") w_undo_kind, isS_ne (s := "else") (z := "undo") w_undo_else, isS_ne (s := "put") (z := "undo") w_undo_put, isS_ne (s := "blank") (z := "undo") w_undo_blank, isS_ne (s := "drop") (z := "undo") w_undo_drop, isS_ne (s := "leave") (z := "undo") w_undo_leave, isS_ne (s := "end") (z := "undo") w_undo_end]
  | [a, x, y, z] => simp [deedB, oneB, twoB, deedNameB, signB, isS_eq (s := "undo"), isS_ne (s := "table") (z := "undo") w_undo_table, isS_ne (s := "column") (z := "undo") w_undo_column, isS_ne (s := "call") (z := "undo") w_undo_call, isS_ne (s := "kind") (z := "undo") w_undo_kind, isS_ne (s := "else") (z := "undo") w_undo_else, isS_ne (s := "put") (z := "undo") w_undo_put, isS_ne (s := "blank") (z := "undo") w_undo_blank, isS_ne (s := "drop") (z := "undo") w_undo_drop, isS_ne (s := "leave") (z := "undo") w_undo_leave, isS_ne (s := "end") (z := "undo") w_undo_end]
  | a :: x :: y :: z :: u :: r =>
    have : ¬ (a :: x :: y :: z :: u :: r).length = 4 := by simp only [List.length_cons]; omega
    rw [decide_eq_false this, Bool.false_and]
    show (nameB a && false) = false
    rw [Bool.and_false]
theorem notIn_none {z : Str} (h : valKD formK formV (.str z) = none) : dNotInK (.str z) (.dct formK formV) = some (.bl true) := by
  have : dInK (.str z) (.dct formK formV) = some (.bl (valKD formK formV (.str z)).isSome) := rfl
  unfold dNotInK
  rw [this, h]; rfl
theorem notIn_some {z : Str} {d : D} (h : valKD formK formV (.str z) = some d) : dNotInK (.str z) (.dct formK formV) = some (.bl false) := by
  have : dInK (.str z) (.dct formK formV) = some (.bl (valKD formK formV (.str z)).isSome) := rfl
  unfold dNotInK
  rw [this, h]; rfl
theorem due_ok {d : D} (h : gd d = true) (hd : dep d ≤ 100) : F__law_due [d] = some (.ok (.bl (deedB d)) .non) := by
  have h1 := isi_of (T := "tuple") (gd_e h)
  have hf : F__law_forms [] = some (.ok (.dct formK formV) .non) := rfl
  cases d with
  | tup ds =>
    match ds, h, hd with
    | [], _, _ =>
      have he : dEq (.tup []) (.tup []) = some (.bl true) := by unfold dEq; exact if_pos ⟨rfl, by decide⟩
      have hv : deedB (.tup []) = false := rfl
      rw [hv]
      have key : ∀ (m1 : M D), (fnOf 4 none (sSeq (mIf (mOr (mNot (mB (mUn (dIsi "tuple") (mVar 0)))) (mOr (mB (mBin dEq (mVar 0) (mTup mNil))) (mOr (mNot (mB (mUn (dIsi "str") (mBin dIx (mVar 0) (mC (.int 0)))))) (mB (mBin dNotInK (mBin dIx (mVar 0) (mC (.int 0))) (mCall0 F__law_forms)))))) (sRet (mC (.bl false))) sPass) (sSeq (sSet 1 (mBin dIxK (mCall0 F__law_forms) (mBin dIx (mVar 0) (mC (.int 0))))) (sSeq (mIf (mB (mBin dNe2 (mFn dLen (mCons (mVar 0) mNil)) (mBin dAdd (mC (.int 1)) (mFn dLen (mCons (mVar 1) mNil))))) (sRet (mC (.bl false))) sPass) (sRet (mBin dNotIn (mC (.bl false)) m1)))))) [.tup []] = some (.ok (.bl false) .non) := fun m1 => by
        simp [h1, D.kind, isK, he, fnOf, startE, sSeq, sSet, sRet, sPass, sBind, bTup, bAll, bName, mIf, mOr, mAnd, mNot, mB, mUn, mBin, mVar, mC, mFn, mCons, mNil, mTup, mLst, mCall, mCall0, mChain, mAndV, mOrV, mNotV, mSl, mSome, mNone, M.bind, M.pure, M.opt, mFail, ioOut, Option.map_some, List.map_cons, List.map_nil, List.length_cons, List.length_nil, List.cons_append, List.nil_append, List.replicate_succ, List.replicate_zero, Nat.reduceSub, Nat.reduceAdd, List.getElem?_cons_zero, List.getElem?_cons_succ, List.set_cons_zero, List.set_cons_succ, Bool.not_true, Bool.not_false, Bool.false_eq_true, if_true, if_false, ite_true, ite_false, reduceIte]
      exact key _
    | .str z :: rest, h, hd =>
      by_cases e_table : z = "table"
      · subst e_table
        rw [deed_table]
        exact due_gen (sg := "n") val_table (notIn_some val_table) (by decide) (by decide) h hd
      by_cases e_column : z = "column"
      · subst e_column
        rw [deed_column]
        exact due_gen (sg := "nntv") val_column (notIn_some val_column) (by decide) (by decide) h hd
      by_cases e_call : z = "call"
      · subst e_call
        rw [deed_call]
        exact due_gen (sg := "nin") val_call (notIn_some val_call) (by decide) (by decide) h hd
      by_cases e_kind : z = "kind"
      · subst e_kind
        rw [deed_kind]
        exact due_gen (sg := "nit") val_kind (notIn_some val_kind) (by decide) (by decide) h hd
      by_cases e_else : z = "else"
      · subst e_else
        rw [deed_else]
        exact due_gen (sg := "niv") val_else (notIn_some val_else) (by decide) (by decide) h hd
      by_cases e_put : z = "put"
      · subst e_put
        rw [deed_put]
        exact due_gen (sg := "nkc") val_put (notIn_some val_put) (by decide) (by decide) h hd
      by_cases e_blank : z = "blank"
      · subst e_blank
        rw [deed_blank]
        exact due_gen (sg := "nki") val_blank (notIn_some val_blank) (by decide) (by decide) h hd
      by_cases e_drop : z = "drop"
      · subst e_drop
        rw [deed_drop]
        exact due_gen (sg := "nk") val_drop (notIn_some val_drop) (by decide) (by decide) h hd
      by_cases e_leave : z = "leave"
      · subst e_leave
        rw [deed_leave]
        exact due_gen (sg := "ni") val_leave (notIn_some val_leave) (by decide) (by decide) h hd
      by_cases e_end : z = "end"
      · subst e_end
        rw [deed_end]
        exact due_gen (sg := "n") val_end (notIn_some val_end) (by decide) (by decide) h hd
      by_cases e_undo : z = "undo"
      · subst e_undo
        rw [deed_undo]
        exact due_gen (sg := "nhnm") val_undo (notIn_some val_undo) (by decide) (by decide) h hd
      have hv : valKD formK formV (.str z) = none := by
        unfold formK formV
        rw [valKD, if_neg (nk_ne e_table)]
        rw [valKD, if_neg (nk_ne e_column)]
        rw [valKD, if_neg (nk_ne e_call)]
        rw [valKD, if_neg (nk_ne e_kind)]
        rw [valKD, if_neg (nk_ne e_else)]
        rw [valKD, if_neg (nk_ne e_put)]
        rw [valKD, if_neg (nk_ne e_blank)]
        rw [valKD, if_neg (nk_ne e_drop)]
        rw [valKD, if_neg (nk_ne e_leave)]
        rw [valKD, if_neg (nk_ne e_end)]
        rw [valKD, if_neg (nk_ne e_undo)]
        rfl
      have hb : deedB (.tup (.str z :: rest)) = false := by
        match rest with
        | [] => rfl
        | [a] => simp [deedB, isS_ne e_table, isS_ne e_end]
        | [a, x] => simp [deedB, oneB, isS_ne e_drop, isS_ne e_leave]
        | [a, x, y] => simp [deedB, twoB, isS_ne e_put, isS_ne e_blank, isS_ne e_call, isS_ne e_kind, isS_ne e_else]
        | [a, x, y, u] => simp [deedB, isS_ne e_undo, isS_ne e_column]
        | a :: x :: y :: u :: v :: r => 
          show (nameB a && false) = false
          rw [Bool.and_false]
      have hn := notIn_none hv
      have h2 := isi_of (T := "str") (d := .str z) rfl
      have he : dEq (.tup (.str z :: rest)) (.tup []) = some (.bl false) := by
        unfold dEq
        rw [if_pos ⟨rfl, hd⟩]; rfl
      have i0 : dIx (.tup (.str z :: rest)) (.int 0) = some (.str z) := ix_0
      rw [hb]
      clear hb
      generalize (.str z :: rest) = ds at *
      have key : ∀ (m1 : M D), (fnOf 4 none (sSeq (mIf (mOr (mNot (mB (mUn (dIsi "tuple") (mVar 0)))) (mOr (mB (mBin dEq (mVar 0) (mTup mNil))) (mOr (mNot (mB (mUn (dIsi "str") (mBin dIx (mVar 0) (mC (.int 0)))))) (mB (mBin dNotInK (mBin dIx (mVar 0) (mC (.int 0))) (mCall0 F__law_forms)))))) (sRet (mC (.bl false))) sPass) (sSeq (sSet 1 (mBin dIxK (mCall0 F__law_forms) (mBin dIx (mVar 0) (mC (.int 0))))) (sSeq (mIf (mB (mBin dNe2 (mFn dLen (mCons (mVar 0) mNil)) (mBin dAdd (mC (.int 1)) (mFn dLen (mCons (mVar 1) mNil))))) (sRet (mC (.bl false))) sPass) (sRet (mBin dNotIn (mC (.bl false)) m1)))))) [.tup ds] = some (.ok (.bl false) .non) := fun m1 => by
        simp [h1, h2, D.kind, isK, he, i0, hf, hn, fnOf, startE, sSeq, sSet, sRet, sPass, sBind, bTup, bAll, bName, mIf, mOr, mAnd, mNot, mB, mUn, mBin, mVar, mC, mFn, mCons, mNil, mTup, mLst, mCall, mCall0, mChain, mAndV, mOrV, mNotV, mSl, mSome, mNone, M.bind, M.pure, M.opt, mFail, ioOut, Option.map_some, List.map_cons, List.map_nil, List.length_cons, List.length_nil, List.cons_append, List.nil_append, List.replicate_succ, List.replicate_zero, Nat.reduceSub, Nat.reduceAdd, List.getElem?_cons_zero, List.getElem?_cons_succ, List.set_cons_zero, List.set_cons_succ, Bool.not_true, Bool.not_false, Bool.false_eq_true, if_true, if_false, ite_true, ite_false, reduceIte]
      exact key _
    | .non :: rest, h, hd =>
      have h2 := isi_of (T := "str") (d := .non) (gd_e (gds_mem (d := .non) (by rwa [gd] at h) (by simp)))
      have he : dEq (.tup (.non :: rest)) (.tup []) = some (.bl false) := by
        unfold dEq
        rw [if_pos ⟨rfl, hd⟩]; rfl
      have i0 : dIx (.tup (.non :: rest)) (.int 0) = some (.non) := ix_0
      have hb : deedB (.tup (.non :: rest)) = false := by
        match rest with
        | [] => rfl
        | [a] => simp [deedB, isStr]
        | [a, x] => simp [deedB, oneB, isStr]
        | [a, x, y] => simp [deedB, twoB, isStr]
        | [a, x, y, u] => simp [deedB, isStr]
        | a :: x :: y :: u :: v :: r => 
          show (nameB a && false) = false
          rw [Bool.and_false]
      rw [hb]
      clear hb
      generalize (.non :: rest) = ds at *
      have key : ∀ (m1 : M D), (fnOf 4 none (sSeq (mIf (mOr (mNot (mB (mUn (dIsi "tuple") (mVar 0)))) (mOr (mB (mBin dEq (mVar 0) (mTup mNil))) (mOr (mNot (mB (mUn (dIsi "str") (mBin dIx (mVar 0) (mC (.int 0)))))) (mB (mBin dNotInK (mBin dIx (mVar 0) (mC (.int 0))) (mCall0 F__law_forms)))))) (sRet (mC (.bl false))) sPass) (sSeq (sSet 1 (mBin dIxK (mCall0 F__law_forms) (mBin dIx (mVar 0) (mC (.int 0))))) (sSeq (mIf (mB (mBin dNe2 (mFn dLen (mCons (mVar 0) mNil)) (mBin dAdd (mC (.int 1)) (mFn dLen (mCons (mVar 1) mNil))))) (sRet (mC (.bl false))) sPass) (sRet (mBin dNotIn (mC (.bl false)) m1)))))) [.tup ds] = some (.ok (.bl false) .non) := fun m1 => by
        simp [h1, h2, D.kind, isK, he, i0, fnOf, startE, sSeq, sSet, sRet, sPass, sBind, bTup, bAll, bName, mIf, mOr, mAnd, mNot, mB, mUn, mBin, mVar, mC, mFn, mCons, mNil, mTup, mLst, mCall, mCall0, mChain, mAndV, mOrV, mNotV, mSl, mSome, mNone, M.bind, M.pure, M.opt, mFail, ioOut, Option.map_some, List.map_cons, List.map_nil, List.length_cons, List.length_nil, List.cons_append, List.nil_append, List.replicate_succ, List.replicate_zero, Nat.reduceSub, Nat.reduceAdd, List.getElem?_cons_zero, List.getElem?_cons_succ, List.set_cons_zero, List.set_cons_succ, Bool.not_true, Bool.not_false, Bool.false_eq_true, if_true, if_false, ite_true, ite_false, reduceIte]
      exact key _
    | .bl b :: rest, h, hd =>
      have h2 := isi_of (T := "str") (d := .bl b) (gd_e (gds_mem (d := .bl b) (by rwa [gd] at h) (by simp)))
      have he : dEq (.tup (.bl b :: rest)) (.tup []) = some (.bl false) := by
        unfold dEq
        rw [if_pos ⟨rfl, hd⟩]; rfl
      have i0 : dIx (.tup (.bl b :: rest)) (.int 0) = some (.bl b) := ix_0
      have hb : deedB (.tup (.bl b :: rest)) = false := by
        match rest with
        | [] => rfl
        | [a] => simp [deedB, isStr]
        | [a, x] => simp [deedB, oneB, isStr]
        | [a, x, y] => simp [deedB, twoB, isStr]
        | [a, x, y, u] => simp [deedB, isStr]
        | a :: x :: y :: u :: v :: r => 
          show (nameB a && false) = false
          rw [Bool.and_false]
      rw [hb]
      clear hb
      generalize (.bl b :: rest) = ds at *
      have key : ∀ (m1 : M D), (fnOf 4 none (sSeq (mIf (mOr (mNot (mB (mUn (dIsi "tuple") (mVar 0)))) (mOr (mB (mBin dEq (mVar 0) (mTup mNil))) (mOr (mNot (mB (mUn (dIsi "str") (mBin dIx (mVar 0) (mC (.int 0)))))) (mB (mBin dNotInK (mBin dIx (mVar 0) (mC (.int 0))) (mCall0 F__law_forms)))))) (sRet (mC (.bl false))) sPass) (sSeq (sSet 1 (mBin dIxK (mCall0 F__law_forms) (mBin dIx (mVar 0) (mC (.int 0))))) (sSeq (mIf (mB (mBin dNe2 (mFn dLen (mCons (mVar 0) mNil)) (mBin dAdd (mC (.int 1)) (mFn dLen (mCons (mVar 1) mNil))))) (sRet (mC (.bl false))) sPass) (sRet (mBin dNotIn (mC (.bl false)) m1)))))) [.tup ds] = some (.ok (.bl false) .non) := fun m1 => by
        simp [h1, h2, D.kind, isK, he, i0, fnOf, startE, sSeq, sSet, sRet, sPass, sBind, bTup, bAll, bName, mIf, mOr, mAnd, mNot, mB, mUn, mBin, mVar, mC, mFn, mCons, mNil, mTup, mLst, mCall, mCall0, mChain, mAndV, mOrV, mNotV, mSl, mSome, mNone, M.bind, M.pure, M.opt, mFail, ioOut, Option.map_some, List.map_cons, List.map_nil, List.length_cons, List.length_nil, List.cons_append, List.nil_append, List.replicate_succ, List.replicate_zero, Nat.reduceSub, Nat.reduceAdd, List.getElem?_cons_zero, List.getElem?_cons_succ, List.set_cons_zero, List.set_cons_succ, Bool.not_true, Bool.not_false, Bool.false_eq_true, if_true, if_false, ite_true, ite_false, reduceIte]
      exact key _
    | .int b :: rest, h, hd =>
      have h2 := isi_of (T := "str") (d := .int b) (gd_e (gds_mem (d := .int b) (by rwa [gd] at h) (by simp)))
      have he : dEq (.tup (.int b :: rest)) (.tup []) = some (.bl false) := by
        unfold dEq
        rw [if_pos ⟨rfl, hd⟩]; rfl
      have i0 : dIx (.tup (.int b :: rest)) (.int 0) = some (.int b) := ix_0
      have hb : deedB (.tup (.int b :: rest)) = false := by
        match rest with
        | [] => rfl
        | [a] => simp [deedB, isStr]
        | [a, x] => simp [deedB, oneB, isStr]
        | [a, x, y] => simp [deedB, twoB, isStr]
        | [a, x, y, u] => simp [deedB, isStr]
        | a :: x :: y :: u :: v :: r => 
          show (nameB a && false) = false
          rw [Bool.and_false]
      rw [hb]
      clear hb
      generalize (.int b :: rest) = ds at *
      have key : ∀ (m1 : M D), (fnOf 4 none (sSeq (mIf (mOr (mNot (mB (mUn (dIsi "tuple") (mVar 0)))) (mOr (mB (mBin dEq (mVar 0) (mTup mNil))) (mOr (mNot (mB (mUn (dIsi "str") (mBin dIx (mVar 0) (mC (.int 0)))))) (mB (mBin dNotInK (mBin dIx (mVar 0) (mC (.int 0))) (mCall0 F__law_forms)))))) (sRet (mC (.bl false))) sPass) (sSeq (sSet 1 (mBin dIxK (mCall0 F__law_forms) (mBin dIx (mVar 0) (mC (.int 0))))) (sSeq (mIf (mB (mBin dNe2 (mFn dLen (mCons (mVar 0) mNil)) (mBin dAdd (mC (.int 1)) (mFn dLen (mCons (mVar 1) mNil))))) (sRet (mC (.bl false))) sPass) (sRet (mBin dNotIn (mC (.bl false)) m1)))))) [.tup ds] = some (.ok (.bl false) .non) := fun m1 => by
        simp [h1, h2, D.kind, isK, he, i0, fnOf, startE, sSeq, sSet, sRet, sPass, sBind, bTup, bAll, bName, mIf, mOr, mAnd, mNot, mB, mUn, mBin, mVar, mC, mFn, mCons, mNil, mTup, mLst, mCall, mCall0, mChain, mAndV, mOrV, mNotV, mSl, mSome, mNone, M.bind, M.pure, M.opt, mFail, ioOut, Option.map_some, List.map_cons, List.map_nil, List.length_cons, List.length_nil, List.cons_append, List.nil_append, List.replicate_succ, List.replicate_zero, Nat.reduceSub, Nat.reduceAdd, List.getElem?_cons_zero, List.getElem?_cons_succ, List.set_cons_zero, List.set_cons_succ, Bool.not_true, Bool.not_false, Bool.false_eq_true, if_true, if_false, ite_true, ite_false, reduceIte]
      exact key _
    | .tup b :: rest, h, hd =>
      have h2 := isi_of (T := "str") (d := .tup b) (gd_e (gds_mem (d := .tup b) (by rwa [gd] at h) (by simp)))
      have he : dEq (.tup (.tup b :: rest)) (.tup []) = some (.bl false) := by
        unfold dEq
        rw [if_pos ⟨rfl, hd⟩]; rfl
      have i0 : dIx (.tup (.tup b :: rest)) (.int 0) = some (.tup b) := ix_0
      have hb : deedB (.tup (.tup b :: rest)) = false := by
        match rest with
        | [] => rfl
        | [a] => simp [deedB, isStr]
        | [a, x] => simp [deedB, oneB, isStr]
        | [a, x, y] => simp [deedB, twoB, isStr]
        | [a, x, y, u] => simp [deedB, isStr]
        | a :: x :: y :: u :: v :: r => 
          show (nameB a && false) = false
          rw [Bool.and_false]
      rw [hb]
      clear hb
      generalize (.tup b :: rest) = ds at *
      have key : ∀ (m1 : M D), (fnOf 4 none (sSeq (mIf (mOr (mNot (mB (mUn (dIsi "tuple") (mVar 0)))) (mOr (mB (mBin dEq (mVar 0) (mTup mNil))) (mOr (mNot (mB (mUn (dIsi "str") (mBin dIx (mVar 0) (mC (.int 0)))))) (mB (mBin dNotInK (mBin dIx (mVar 0) (mC (.int 0))) (mCall0 F__law_forms)))))) (sRet (mC (.bl false))) sPass) (sSeq (sSet 1 (mBin dIxK (mCall0 F__law_forms) (mBin dIx (mVar 0) (mC (.int 0))))) (sSeq (mIf (mB (mBin dNe2 (mFn dLen (mCons (mVar 0) mNil)) (mBin dAdd (mC (.int 1)) (mFn dLen (mCons (mVar 1) mNil))))) (sRet (mC (.bl false))) sPass) (sRet (mBin dNotIn (mC (.bl false)) m1)))))) [.tup ds] = some (.ok (.bl false) .non) := fun m1 => by
        simp [h1, h2, D.kind, isK, he, i0, fnOf, startE, sSeq, sSet, sRet, sPass, sBind, bTup, bAll, bName, mIf, mOr, mAnd, mNot, mB, mUn, mBin, mVar, mC, mFn, mCons, mNil, mTup, mLst, mCall, mCall0, mChain, mAndV, mOrV, mNotV, mSl, mSome, mNone, M.bind, M.pure, M.opt, mFail, ioOut, Option.map_some, List.map_cons, List.map_nil, List.length_cons, List.length_nil, List.cons_append, List.nil_append, List.replicate_succ, List.replicate_zero, Nat.reduceSub, Nat.reduceAdd, List.getElem?_cons_zero, List.getElem?_cons_succ, List.set_cons_zero, List.set_cons_succ, Bool.not_true, Bool.not_false, Bool.false_eq_true, if_true, if_false, ite_true, ite_false, reduceIte]
      exact key _
    | .lst b :: rest, h, hd =>
      have h2 := isi_of (T := "str") (d := .lst b) (gd_e (gds_mem (d := .lst b) (by rwa [gd] at h) (by simp)))
      have he : dEq (.tup (.lst b :: rest)) (.tup []) = some (.bl false) := by
        unfold dEq
        rw [if_pos ⟨rfl, hd⟩]; rfl
      have i0 : dIx (.tup (.lst b :: rest)) (.int 0) = some (.lst b) := ix_0
      have hb : deedB (.tup (.lst b :: rest)) = false := by
        match rest with
        | [] => rfl
        | [a] => simp [deedB, isStr]
        | [a, x] => simp [deedB, oneB, isStr]
        | [a, x, y] => simp [deedB, twoB, isStr]
        | [a, x, y, u] => simp [deedB, isStr]
        | a :: x :: y :: u :: v :: r => 
          show (nameB a && false) = false
          rw [Bool.and_false]
      rw [hb]
      clear hb
      generalize (.lst b :: rest) = ds at *
      have key : ∀ (m1 : M D), (fnOf 4 none (sSeq (mIf (mOr (mNot (mB (mUn (dIsi "tuple") (mVar 0)))) (mOr (mB (mBin dEq (mVar 0) (mTup mNil))) (mOr (mNot (mB (mUn (dIsi "str") (mBin dIx (mVar 0) (mC (.int 0)))))) (mB (mBin dNotInK (mBin dIx (mVar 0) (mC (.int 0))) (mCall0 F__law_forms)))))) (sRet (mC (.bl false))) sPass) (sSeq (sSet 1 (mBin dIxK (mCall0 F__law_forms) (mBin dIx (mVar 0) (mC (.int 0))))) (sSeq (mIf (mB (mBin dNe2 (mFn dLen (mCons (mVar 0) mNil)) (mBin dAdd (mC (.int 1)) (mFn dLen (mCons (mVar 1) mNil))))) (sRet (mC (.bl false))) sPass) (sRet (mBin dNotIn (mC (.bl false)) m1)))))) [.tup ds] = some (.ok (.bl false) .non) := fun m1 => by
        simp [h1, h2, D.kind, isK, he, i0, fnOf, startE, sSeq, sSet, sRet, sPass, sBind, bTup, bAll, bName, mIf, mOr, mAnd, mNot, mB, mUn, mBin, mVar, mC, mFn, mCons, mNil, mTup, mLst, mCall, mCall0, mChain, mAndV, mOrV, mNotV, mSl, mSome, mNone, M.bind, M.pure, M.opt, mFail, ioOut, Option.map_some, List.map_cons, List.map_nil, List.length_cons, List.length_nil, List.cons_append, List.nil_append, List.replicate_succ, List.replicate_zero, Nat.reduceSub, Nat.reduceAdd, List.getElem?_cons_zero, List.getElem?_cons_succ, List.set_cons_zero, List.set_cons_succ, Bool.not_true, Bool.not_false, Bool.false_eq_true, if_true, if_false, ite_true, ite_false, reduceIte]
      exact key _
    | .dct b c :: rest, h, hd =>
      have h2 := isi_of (T := "str") (d := .dct b c) (gd_e (gds_mem (d := .dct b c) (by rwa [gd] at h) (by simp)))
      have he : dEq (.tup (.dct b c :: rest)) (.tup []) = some (.bl false) := by
        unfold dEq
        rw [if_pos ⟨rfl, hd⟩]; rfl
      have i0 : dIx (.tup (.dct b c :: rest)) (.int 0) = some (.dct b c) := ix_0
      have hb : deedB (.tup (.dct b c :: rest)) = false := by
        match rest with
        | [] => rfl
        | [a] => simp [deedB, isStr]
        | [a, x] => simp [deedB, oneB, isStr]
        | [a, x, y] => simp [deedB, twoB, isStr]
        | [a, x, y, u] => simp [deedB, isStr]
        | a :: x :: y :: u :: v :: r => 
          show (nameB a && false) = false
          rw [Bool.and_false]
      rw [hb]
      clear hb
      generalize (.dct b c :: rest) = ds at *
      have key : ∀ (m1 : M D), (fnOf 4 none (sSeq (mIf (mOr (mNot (mB (mUn (dIsi "tuple") (mVar 0)))) (mOr (mB (mBin dEq (mVar 0) (mTup mNil))) (mOr (mNot (mB (mUn (dIsi "str") (mBin dIx (mVar 0) (mC (.int 0)))))) (mB (mBin dNotInK (mBin dIx (mVar 0) (mC (.int 0))) (mCall0 F__law_forms)))))) (sRet (mC (.bl false))) sPass) (sSeq (sSet 1 (mBin dIxK (mCall0 F__law_forms) (mBin dIx (mVar 0) (mC (.int 0))))) (sSeq (mIf (mB (mBin dNe2 (mFn dLen (mCons (mVar 0) mNil)) (mBin dAdd (mC (.int 1)) (mFn dLen (mCons (mVar 1) mNil))))) (sRet (mC (.bl false))) sPass) (sRet (mBin dNotIn (mC (.bl false)) m1)))))) [.tup ds] = some (.ok (.bl false) .non) := fun m1 => by
        simp [h1, h2, D.kind, isK, he, i0, fnOf, startE, sSeq, sSet, sRet, sPass, sBind, bTup, bAll, bName, mIf, mOr, mAnd, mNot, mB, mUn, mBin, mVar, mC, mFn, mCons, mNil, mTup, mLst, mCall, mCall0, mChain, mAndV, mOrV, mNotV, mSl, mSome, mNone, M.bind, M.pure, M.opt, mFail, ioOut, Option.map_some, List.map_cons, List.map_nil, List.length_cons, List.length_nil, List.cons_append, List.nil_append, List.replicate_succ, List.replicate_zero, Nat.reduceSub, Nat.reduceAdd, List.getElem?_cons_zero, List.getElem?_cons_succ, List.set_cons_zero, List.set_cons_succ, Bool.not_true, Bool.not_false, Bool.false_eq_true, if_true, if_false, ite_true, ite_false, reduceIte]
      exact key _
  | _ =>
    have key : ∀ (m1 : M D) (x : D), dIsi "tuple" x = some (.bl false) → (fnOf 4 none (sSeq (mIf (mOr (mNot (mB (mUn (dIsi "tuple") (mVar 0)))) (mOr (mB (mBin dEq (mVar 0) (mTup mNil))) (mOr (mNot (mB (mUn (dIsi "str") (mBin dIx (mVar 0) (mC (.int 0)))))) (mB (mBin dNotInK (mBin dIx (mVar 0) (mC (.int 0))) (mCall0 F__law_forms)))))) (sRet (mC (.bl false))) sPass) (sSeq (sSet 1 (mBin dIxK (mCall0 F__law_forms) (mBin dIx (mVar 0) (mC (.int 0))))) (sSeq (mIf (mB (mBin dNe2 (mFn dLen (mCons (mVar 0) mNil)) (mBin dAdd (mC (.int 1)) (mFn dLen (mCons (mVar 1) mNil))))) (sRet (mC (.bl false))) sPass) (sRet (mBin dNotIn (mC (.bl false)) m1)))))) [x] = some (.ok (.bl false) .non) := fun m1 x hx => by
      simp [hx, fnOf, startE, sSeq, sSet, sRet, sPass, sBind, bTup, bAll, bName, mIf, mOr, mAnd, mNot, mB, mUn, mBin, mVar, mC, mFn, mCons, mNil, mTup, mLst, mCall, mCall0, mChain, mAndV, mOrV, mNotV, mSl, mSome, mNone, M.bind, M.pure, M.opt, mFail, ioOut, Option.map_some, List.map_cons, List.map_nil, List.length_cons, List.length_nil, List.cons_append, List.nil_append, List.replicate_succ, List.replicate_zero, Nat.reduceSub, Nat.reduceAdd, List.getElem?_cons_zero, List.getElem?_cons_succ, List.set_cons_zero, List.set_cons_succ, Bool.not_true, Bool.not_false, Bool.false_eq_true, if_true, if_false, ite_true, ite_false, reduceIte]
    exact key _ _ (by simpa [D.kind, isK] using h1)
end K37
set_option maxHeartbeats 0
namespace K37
open PySem PySem.Spec PyProof.Rows L2 Bx
section
variable {P : Program} {w : World} {K : PySem.W.Frag} {mg : Str → Option Value} {base : Heap}
noncomputable def mb__law_word : M Fl := (sSeq (sSet 1 (mBin dIx (mLst (mCons (mC (.int 1)) (mCons (mC (.int 2)) (mCons (mBin dAdd (mC (.int 1)) (mCallO takeF 0 (mCons (mC (.int 8)) mNil))) mNil)))) (mCallO takeF 0 (mCons (mC (.int 3)) mNil)))) (sSeq (sSet 2 (mJoin (mC (.str "")) (mComp [3] (bName 3) mYes (mBin dIx (mC (.str "abcdefghijklmnopqrstuvwxyz")) (mCallO takeF 0 (mCons (mC (.int 26)) mNil))) (mRange (mCons (mVar 1) mNil))))) (sRet (mIf (mB (mBin dEq (mVar 2) (mC (.str "key")))) (mC (.str "keys")) (mVar 2)))))
noncomputable def F__law_word : List D → Option FR := fnOf 4 (some 0) mb__law_word
theorem ok__law_word {k : Nat} (T : Txt K mg) : FnOk P w K mg base CX0 (k + 2) T.f__law_word T.d__law_word ["pot"] (spF (UU P w K T) (some 0) 1 F__law_word) :=
  fn_data (own := [0]) (io := (some 0)) (mb := mb__law_word) (U := (UU P w K T)) (k := k + 1) T.F__law_word sc__law_word (by decide) (by decide) (fun j hj => by cases hj; decide) fun cdv A outer s H E hr => fun pa A2 => ⟨_, (dss_cons (ds_set (i := 1) sc__law_word.nd rfl (Or.inl rfl) (de_ix (o_ix ⟨rfl, rfl, rfl⟩) (DF.de (df_lst (da_cons de_int (da_cons de_int (da_cons (de_op o_add de_int (de_callO (i := 0) (take_ok T _) hr (by rfl) T.g__law_take T.F__law_take.kp T.b__law_take (da_cons de_int da_nil) (many_cons many_nil))) da_nil))))) (de_callO (i := 0) (take_ok T _) hr (by rfl) T.g__law_take T.F__law_take.kp T.b__law_take (da_cons de_int da_nil) (many_cons many_nil)) (fun _ _ => rfl))) (dss_cons (ds_set (i := 2) sc__law_word.nd rfl (Or.inl rfl) (de_join de_str (DF.de (df_comp rfl sc__law_word.nd (di_range1 (by rfl) T.n_range (de_var (i := 1))) (blkOk_by (own := [("k", 3)]) (N := N__law_word) (sc := defScope s__law_word) (by decide +kernel)) rfl (of_decide_eq_true rfl) (fun _ _ _ _ _ _ _ => (dg_name (i := 3) sc__law_word.nd rfl (Or.inl rfl) (of_decide_eq_false rfl) (by decide))) (fun _ _ _ _ _ _ _ => dts_nil) (fun _ _ _ _ _ _ _ => (de_ix (o_ix ⟨rfl, rfl, rfl⟩) de_str (de_callO (i := 0) (take_ok T _) hr (by rfl) T.g__law_take T.F__law_take.kp T.b__law_take (da_cons de_int da_nil) (many_cons many_nil)) (fun _ _ => rfl))))))) (dss_one (ds_ret (de_if (dt_cmp (o_eq ⟨rfl, rfl, rfl⟩ (room200 hr)) (de_var (i := 2)) de_str (nomark _)) de_str (de_var (i := 2)))))))⟩
noncomputable def mb__law_value : M Fl := (sSeq (sSet 1 (mCallO takeF 0 (mCons (mC (.int 4)) mNil))) (sSeq (mIf (mB (mBin dLt (mVar 1) (mC (.int 2)))) (sRet (mCallO takeF 0 (mCons (mC (.int 4)) mNil))) sPass) (sSeq (mIf (mB (mBin dEq (mVar 1) (mC (.int 2)))) (sRet (mBin dSub (mCallO takeF 0 (mCons (mBin dAdd (mBin dMul (mC (.int 2)) (mBin dPow (mC (.int 10)) (mC (.int 9)))) (mC (.int 1))) mNil)) (mBin dPow (mC (.int 10)) (mC (.int 9))))) sPass) (sRet (mCallO F__law_word 0 mNil)))))
noncomputable def F__law_value : List D → Option FR := fnOf 2 (some 0) mb__law_value
theorem ok__law_value {k : Nat} (T : Txt K mg) : FnOk P w K mg base CX0 (k + 3) T.f__law_value T.d__law_value ["pot"] (spF (UU P w K T) (some 0) 1 F__law_value) :=
  fn_data (own := [0]) (io := (some 0)) (mb := mb__law_value) (U := (UU P w K T)) (k := k + 2) T.F__law_value sc__law_value (by decide) (by decide) (fun j hj => by cases hj; decide) fun cdv A outer s H E hr => fun pa A2 => ⟨_, (dss_cons (ds_set (i := 1) sc__law_value.nd rfl (Or.inl rfl) (de_callO (i := 0) (take_ok T _) hr (by rfl) T.g__law_take T.F__law_take.kp T.b__law_take (da_cons de_int da_nil) (many_cons many_nil))) (dss_cons (ds_if (dt_cmp (o_lt (room200 hr)) (de_var (i := 1)) de_int (nomark _)) (dss_one (ds_ret (de_callO (i := 0) (take_ok T _) hr (by rfl) T.g__law_take T.F__law_take.kp T.b__law_take (da_cons de_int da_nil) (many_cons many_nil)))) dss_nil) (dss_cons (ds_if (dt_cmp (o_eq ⟨rfl, rfl, rfl⟩ (room200 hr)) (de_var (i := 1)) de_int (nomark _)) (dss_one (ds_ret (de_op o_sub (de_callO (i := 0) (take_ok T _) hr (by rfl) T.g__law_take T.F__law_take.kp T.b__law_take (da_cons (de_op o_add (de_op o_mul de_int (de_op o_pow de_int de_int)) de_int) da_nil) (many_cons many_nil)) (de_op o_pow de_int de_int)))) dss_nil) (dss_one (ds_ret (de_callO (i := 0) (ok__law_word T) hr (by rfl) T.g__law_word T.F__law_word.kp T.b__law_word da_nil many_nil))))))⟩
noncomputable def mb__law_id : M Fl := (sSeq (sPar 1 2 (mLst (mCons (mC (.int 0)) (mCons (mC (.int 7)) (mCons (mCallO takeF 0 (mCons (mC (.int 8)) mNil)) mNil)))) (mLst (mCons (mC (.int 0)) (mCons (mBin dPow (mC (.int 10)) (mC (.int 6))) (mCons (mCallO takeF 0 (mCons (mC (.int 99)) mNil)) mNil))))) (sRet (mTup (mCons (mBin dIx (mVar 1) (mCallO takeF 0 (mCons (mC (.int 3)) mNil))) (mCons (mCallO F__law_word 0 mNil) (mCons (mBin dIx (mVar 2) (mCallO takeF 0 (mCons (mC (.int 3)) mNil))) mNil))))))
noncomputable def F__law_id : List D → Option FR := fnOf 3 (some 0) mb__law_id
theorem ok__law_id {k : Nat} (T : Txt K mg) : FnOk P w K mg base CX0 (k + 3) T.f__law_id T.d__law_id ["pot"] (spF (UU P w K T) (some 0) 1 F__law_id) :=
  fn_data (own := [0]) (io := (some 0)) (mb := mb__law_id) (U := (UU P w K T)) (k := k + 2) T.F__law_id sc__law_id (by decide) (by decide) (fun j hj => by cases hj; decide) fun cdv A outer s H E hr => fun pa A2 => ⟨_, (dss_cons (ds_par (i := 1) (j := 2) sc__law_id.nd (DF.de (df_lst (da_cons de_int (da_cons de_int (da_cons (de_callO (i := 0) (take_ok T _) hr (by rfl) T.g__law_take T.F__law_take.kp T.b__law_take (da_cons de_int da_nil) (many_cons many_nil)) da_nil))))) (DF.de (df_lst (da_cons de_int (da_cons (de_op o_pow de_int de_int) (da_cons (de_callO (i := 0) (take_ok T _) hr (by rfl) T.g__law_take T.F__law_take.kp T.b__law_take (da_cons de_int da_nil) (many_cons many_nil)) da_nil)))))) (dss_one (ds_ret (de_tup (da_cons (de_ix (o_ix ⟨rfl, rfl, rfl⟩) (de_var (i := 1)) (de_callO (i := 0) (take_ok T _) hr (by rfl) T.g__law_take T.F__law_take.kp T.b__law_take (da_cons de_int da_nil) (many_cons many_nil)) (fun _ _ => rfl)) (da_cons (de_callO (i := 0) (ok__law_word T) hr (by rfl) T.g__law_word T.F__law_word.kp T.b__law_word da_nil many_nil) (da_cons (de_ix (o_ix ⟨rfl, rfl, rfl⟩) (de_var (i := 2)) (de_callO (i := 0) (take_ok T _) hr (by rfl) T.g__law_take T.F__law_take.kp T.b__law_take (da_cons de_int da_nil) (many_cons many_nil)) (fun _ _ => rfl)) da_nil)))))))⟩
end
end K37
/-! What a mirror answers: further steps, and draws. -/
namespace Bx
open PySem PySem.Spec PyProof.Rows L2
section
variable {α β : Type} {ρ : Env}
theorem ixN_n {n j : Nat} (hj : j < n) : ixN n (j : Int) = some j := by
  unfold ixN
  rw [if_pos (by omega), if_pos (by omega)]
  rfl
theorem W.call0 {F : List D → Option FR} {d o : D} {Q : D → Env → Prop} (e : F [] = some (.ok d o)) (q : Q d ρ) : W (mCall0 F) ρ Q := ⟨d, ρ, by unfold mCall0; rw [e], q⟩
theorem W.par {i j : Nat} {ma mb : M D} {Q : Fl → Env → Prop} (h : W ma ρ fun x ρ1 => W mb ρ1 fun y ρ2 => Q .nx ((ρ2.set i (some x)).set j (some y))) : W (sPar i j ma mb) ρ Q :=
  W.bind (h.imp fun x ρ1 h1 => W.bind (h1.imp fun y ρ2 q => ⟨.nx, _, rfl, q⟩))
theorem W.join {ma mb : M D} {a : Str} {Q : D → Env → Prop} (h : W ma ρ fun x ρ1 => x = .str a ∧ W mb ρ1 fun y ρ2 => ∃ d, dJoin a y = some d ∧ Q d ρ2) : W (mJoin ma mb) ρ Q :=
  W.bind (h.imp fun x ρ1 ⟨e, h1⟩ => by subst e; exact W.bind (h1.imp fun y ρ2 ⟨d, e2, q⟩ => W.opt e2 q))
theorem W.setN {i : Nat} {me mk : M D} {Q : Fl → Env → Prop} (h : W me ρ fun d ρ1 => (∃ ks vs, ρ1[i]? = some (some (.dct ks vs))) ∧ W mk ρ1 fun k ρ2 => ∃ ks vs, ρ2[i]? = some (some (.dct ks vs)) ∧ okKeys ks = true ∧ okKey k = true ∧ ks.length < maxL ∧ Q .nx (ρ2.set i (some (dPut ks vs k d)))) : W (sSetN i me mk) ρ Q :=
  W.bind (h.imp fun d ρ1 ⟨⟨ks0, vs0, e0⟩, h1⟩ => by
    obtain ⟨k, ρ2, e1, ks, vs, e2, o1, o2, l, q⟩ := h1
    refine ⟨.nx, _, ?_, q⟩
    unfold ownD
    rw [e0]
    show M.bind mk _ ρ1 = _
    rw [bind_ok e1]
    simp only [e2]
    rw [if_pos ⟨o1, o2, l⟩])
theorem W.ownIx {i : Nat} {mk : M D} {Q : D → Env → Prop} {o0 : D} (e0 : ρ[i]? = some (some o0)) (h : W mk ρ fun k ρ1 => ∃ o d, ρ1[i]? = some (some o) ∧ ixOwn o k = some d ∧ Q d ρ1) : W (mOwnIx i mk) ρ Q := by
  obtain ⟨k, ρ1, e, o, d, e1, e2, q⟩ := h
  refine ⟨d, ρ1, ?_, q⟩
  unfold mOwnIx
  rw [e0]
  show M.bind mk _ ρ = _
  rw [bind_ok e]
  simp only [e1, e2]
  rfl
theorem W.ownTuple {i : Nat} {ds : List D} {Q : D → Env → Prop} (e0 : ρ[i]? = some (some (.lst ds))) (q : Q (.tup ds) ρ) : W (mOwnTuple i) ρ Q := ⟨_, ρ, by unfold mOwnTuple ownAt; rw [e0], q⟩
theorem W.sortedK {i : Nat} {ks vs : List D} {Q : D → Env → Prop} (e0 : ρ[i]? = some (some (.dct ks vs))) (h1 : okKeys ks = true) (h2 : Sorts ks) (h3 : Tight ks) (q : Q (.lst (sortD ks)) ρ) : W (mOwnSortedK i) ρ Q := ⟨_, ρ, by unfold mOwnSortedK ownD; rw [e0]; exact if_pos ⟨h1, h2, h3⟩, q⟩
theorem sortD_perm (ds : List D) : (sortD ds).Perm ds := by
  unfold sortD
  split
  · rename_i h
    exact (Classical.choose_spec h).1
  · exact List.Perm.refl _
theorem W.swap {i j k : Nat} {ds : List D} {a b : Int} {Q : Fl → Env → Prop} (e0 : ρ[i]? = some (some (.lst ds))) (e1 : ρ[j]? = some (some (.int a))) (e2 : ρ[k]? = some (some (.int b))) (a0 : 0 ≤ a) (a1 : a < ds.length) (b0 : 0 ≤ b) (b1 : b < ds.length)
    (q : ∀ es : List D, es.length = ds.length → (∀ x ∈ es, x ∈ ds) → Q .nx (ρ.set i (some (.lst es)))) : W (sSwap i j k) ρ Q := by
  obtain ⟨s, rfl⟩ := Int.eq_ofNat_of_zero_le a0
  obtain ⟨t, rfl⟩ := Int.eq_ofNat_of_zero_le b0
  have hs : s < ds.length := by omega
  have ht : t < ds.length := by omega
  have n1 : ixN ds.length (s : Int) = some s := ixN_n hs
  have n2 : ixN ds.length (t : Int) = some t := ixN_n ht
  refine ⟨.nx, ρ.set i (some (.lst ((ds.set s ds[t]).set t ds[s]))), ?_, q _ (by simp) (fun x hx => ?_)⟩
  · unfold sSwap
    rw [e0, e1, e2]
    simp only [n1, n2, List.getElem?_eq_getElem hs, List.getElem?_eq_getElem ht]
  · rcases List.mem_or_eq_of_mem_set hx with h | rfl
    · rcases List.mem_or_eq_of_mem_set h with h | rfl
      · exact h
      · exact List.getElem_mem ht
    · exact List.getElem_mem hs
/-- a comprehension whose turns change what stands around -/
theorem comp_st {vs : List Nat} {b : Bd} {e : M D} (I : Nat → Env → Prop) (R : D → Prop) : ∀ (ds acc : List D) (n : Nat) (ρ : Env), I n ρ → (∀ j d ρ, ds[j]? = some d → I (n + j) ρ → ∃ ρ1, b d (wipeE ρ vs) = some ρ1 ∧ W e ρ1 fun x ρ2 => R x ∧ I (n + j + 1) (putBack ρ vs ρ2)) → acc.length + ds.length ≤ maxL →
    ∃ xs ρ', compL vs b mYes e ds acc ρ = some (acc ++ xs, ρ') ∧ xs.length = ds.length ∧ (∀ x ∈ xs, R x) ∧ I (n + ds.length) ρ'
  | [], acc, n, ρ, h0, _, _ => ⟨[], ρ, by simp [compL], rfl, fun x hx => (List.not_mem_nil hx).elim, h0⟩
  | d :: ds, acc, n, ρ, h0, h, hl => by
    have hl2 : acc.length + (ds.length + 1) ≤ maxL := hl
    obtain ⟨ρ1, e1, x, ρ2, e2, r2, i2⟩ := h 0 d ρ rfl h0
    obtain ⟨xs, ρ', e3, l3, r3, i3⟩ := comp_st I R ds (acc ++ [x]) (n + 1) (putBack ρ vs ρ2) i2 (fun j d' ρ' hj hi => by
      have := h (j + 1) d' ρ' (by simpa using hj) (by rw [Nat.add_comm j 1, ← Nat.add_assoc]; exact hi)
      rw [Nat.add_comm j 1, ← Nat.add_assoc] at this
      exact this) (by simp; omega)
    refine ⟨x :: xs, ρ', ?_, by rw [List.length_cons, List.length_cons, l3], fun y hy => ?_, by rw [List.length_cons, Nat.add_comm ds.length 1, ← Nat.add_assoc]; exact i3⟩
    · rw [compL, e1]
      have hy : mYes ρ1 = some (.ok true ρ1) := rfl
      simp only [hy, e2]
      rw [if_pos (by omega), e3]
      simp
    · rcases List.mem_cons.mp hy with rfl | hy
      · exact r2
      · exact r3 y hy
theorem W.compS {vs : List Nat} {b : Bd} {e : M D} {mi : M (List D)} {Q : D → Env → Prop} (I : Nat → Env → Prop) (R : D → Prop) (h : W mi ρ fun ds ρ1 => ds.length ≤ maxL ∧ I 0 ρ1 ∧ (∀ j d ρ, ds[j]? = some d → I j ρ → ∃ ρ1, b d (wipeE ρ vs) = some ρ1 ∧ W e ρ1 fun x ρ2 => R x ∧ I (j + 1) (putBack ρ vs ρ2)) ∧ ∀ xs ρ2, xs.length = ds.length → (∀ x ∈ xs, R x) → I ds.length ρ2 → Q (.lst xs) ρ2) : W (mComp vs b mYes e mi) ρ Q :=
  W.bind (h.imp fun ds ρ1 ⟨hl, i0, st, q⟩ => by
    obtain ⟨xs, ρ', e1, l1, r1, i1⟩ := comp_st I R ds [] 0 ρ1 i0 (by simpa using st) (by simpa using hl)
    refine ⟨.lst xs, ρ', ?_, q xs ρ' l1 r1 (by simpa using i1)⟩
    show (match compL vs b mYes e ds [] ρ1 with | some (acc, ρ') => some (Rs.ok (D.lst acc) ρ') | none => none) = _
    rw [e1]; rfl)
end
/-! draws: a def whose first parameter is a pot -/
def Draws (F : List D → Option FR) (ds : List D) (k : Int) (R : D → Prop) : Prop := ∀ n p, isPot n p → n + k ≤ 99999 → ∃ d o, F (p :: ds) = some (.ok d o) ∧ isPot (n + k) o ∧ R d
theorem Draws.imp {F : List D → Option FR} {ds : List D} {k l : Int} {R S : D → Prop} (h : Draws F ds k R) (hk : k ≤ l) (i : ∀ d, R d → S d) : Draws F ds l S := fun n p hp hn => by
  obtain ⟨d, o, e, po, r⟩ := h n p hp (by omega)
  exact ⟨d, o, e, po.mono (by omega), i d r⟩
theorem take_draws {many : Int} (h0 : 0 < many) (h1 : many < 2 ^ 64) : Draws takeF [.int many] 1 fun d => ∃ r, d = .int r ∧ 0 ≤ r ∧ r < many := fun n p hp hn => by
  obtain ⟨r, o, e, r0, r1, po⟩ := hp.take (by omega) h0 h1
  exact ⟨_, o, e, po, r, rfl, r0, r1⟩
theorem W.draw {F : List D → Option FR} {i : Nat} {mr : M (List D)} {ρ : Env} {Q : D → Env → Prop} {p0 : D} (e0 : ρ[i]? = some (some p0)) (h : W mr ρ fun ds ρ1 => ∃ k R n p, Draws F ds k R ∧ ρ1[i]? = some (some p) ∧ isPot n p ∧ n + k ≤ 99999 ∧ ∀ d o, R d → isPot (n + k) o → Q d (ρ1.set i (some o))) : W (mCallO F i mr) ρ Q :=
  W.callO e0 (h.imp fun ds ρ1 ⟨k, R, n, p, D, e1, hp, hn, q⟩ => by
    obtain ⟨d, o, e, po, r⟩ := D n p hp hn
    exact ⟨p, d, o, e1, e, q d o r po⟩)
theorem draws_fn {N : Nat} {m : M Fl} {ds : List D} {k : Int} {R : D → Prop} (h : ∀ n p, isPot n p → n + k ≤ 99999 → W m (startE N (p :: ds)) fun f ρ => ∃ d o, f = .rt d ∧ ρ[0]? = some (some o) ∧ isPot (n + k) o ∧ R d) : Draws (fnOf N (some 0) m) ds k R := fun n p hp hn => by
  obtain ⟨d, o, e, q⟩ := fn_io (j := 0) (Q := fun d o => isPot (n + k) o ∧ R d) (h n p hp hn)
  exact ⟨d, o, e, q⟩
theorem atI_mem {α : Type} {ds : List α} {r : Int} (n : Int) (hn : (ds.length : Int) = n) (h0 : 0 ≤ r) (h1 : r < n) : ∃ d, atI ds r = some d ∧ d ∈ ds := by
  obtain ⟨d, e, m, _⟩ := atI_in (ds := ds) h0 (by omega)
  exact ⟨d, e, m⟩
theorem strsD_map : ∀ zs : List Str, strsD (zs.map D.str) = some zs
  | [] => rfl
  | z :: r => by
    rw [List.map_cons, strsD, strsD_map r]; rfl
theorem strs_of {xs : List D} {R : Str → Prop} (h : ∀ x ∈ xs, ∃ z, x = .str z ∧ R z) : ∃ zs : List Str, xs = zs.map D.str ∧ zs.length = xs.length ∧ ∀ z ∈ zs, R z := by
  induction xs with
  | nil => exact ⟨[], rfl, rfl, fun z hz => (List.not_mem_nil hz).elim⟩
  | cons x r ih =>
    obtain ⟨z, rfl, hz⟩ := h x List.mem_cons_self
    obtain ⟨zs, e, l, hr⟩ := ih fun y hy => h y (List.mem_cons_of_mem _ hy)
    refine ⟨z :: zs, by rw [e]; rfl, by rw [List.length_cons, List.length_cons, l], fun y hy => ?_⟩
    rcases List.mem_cons.mp hy with rfl | hy
    · exact hz
    · exact hr y hy
/-- few signs put together -/
theorem join_signs {xs : List D} (h : ∀ x ∈ xs, ∃ z, x = .str z ∧ z.length = 1 ∧ PyData.strOk z = true) (hl : xs.length ≤ 1000) : ∃ z, dJoin "" (.lst xs) = some (.str z) := by
  obtain ⟨zs, e, l, hz⟩ := strs_of h
  refine ⟨Txt.join "" zs, ?_⟩
  have hs := Pr.sum_ones zs fun y hy => (hz y hy).1
  have hj := Pr.join_le "" zs
  have h0 : ("" : Str).length = 0 := by decide +kernel
  rw [h0, Nat.mul_zero, Nat.add_zero, hs] at hj
  have ok : okS (Txt.join "" zs) := ⟨by show _ ≤ 100000; omega, Pr.strOk_joinT (by decide +kernel) fun y hy => (hz y hy).2⟩
  rw [e]
  show (match strsD (zs.map D.str) with
    | some ys => if ((ys : List Str).map fun y : Str => y.length).sum + ys.length * ("" : Str).length ≤ 16777216 ∧ okS (Txt.join "" ys) then some (D.str (Txt.join "" ys)) else none
    | none => none) = _
  rw [strsD_map]
  simp only [h0, Nat.mul_zero, Nat.add_zero, hs]
  rw [if_pos ⟨by omega, ok⟩]
/-! data of bounded depth and width, without errors -/
mutual
def wid : D → Nat
  | .tup ds => max ds.length (wids ds)
  | .lst ds => max ds.length (wids ds)
  | _ => 0
def wids : List D → Nat
  | [] => 0
  | d :: r => max (wid d) (wids r)
end
theorem wids_le {k : Nat} : ∀ {ds : List D}, (∀ d ∈ ds, wid d ≤ k) ↔ wids ds ≤ k
  | [] => by simp [wids]
  | d :: r => by
    rw [wids, List.forall_mem_cons, wids_le (ds := r)]
    omega
theorem deps_le {k : Nat} : ∀ {ds : List D}, (∀ d ∈ ds, dep d ≤ k) ↔ deps ds ≤ k
  | [] => by simp [deps]
  | d :: r => by
    rw [deps, List.forall_mem_cons, deps_le (ds := r)]
    omega
end Bx
set_option maxHeartbeats 1000000
namespace K37
open PySem PySem.Spec PyProof.Rows L2 Bx
/-! data without errors, of bounded depth and width -/
def okd (k : Nat) (d : D) : Prop := gd d = true ∧ dep d ≤ k ∧ wid d ≤ k
theorem okd.mono {k l : Nat} {d : D} (h : okd k d) (hl : k ≤ l) : okd l d := ⟨h.1, Nat.le_trans h.2.1 hl, Nat.le_trans h.2.2 hl⟩
theorem gds_of : ∀ {ds : List D}, (∀ d ∈ ds, gd d = true) → gds ds = true
  | [], _ => rfl
  | d :: r, h => by
    rw [gds, h d List.mem_cons_self, gds_of fun x hx => h x (List.mem_cons_of_mem _ hx)]; rfl
theorem okd.tup {k : Nat} {ds : List D} (h : ∀ x ∈ ds, okd k x) (hl : ds.length ≤ k + 1) : okd (k + 1) (.tup ds) := by
  refine ⟨by rw [gd]; exact gds_of fun d hd => (h d hd).1, ?_, ?_⟩
  · rw [dep]
    have := deps_le.mp fun d hd => (h d hd).2.1
    omega
  · rw [wid]
    have := wids_le.mp fun d hd => (h d hd).2.2
    omega
theorem okd.lst {k : Nat} {ds : List D} (h : ∀ x ∈ ds, okd k x) (hl : ds.length ≤ k + 1) : okd (k + 1) (.lst ds) := by
  refine ⟨by rw [gd]; exact gds_of fun d hd => (h d hd).1, ?_, ?_⟩
  · rw [dep]
    have := deps_le.mp fun d hd => (h d hd).2.1
    omega
  · rw [wid]
    have := wids_le.mp fun d hd => (h d hd).2.2
    omega
theorem okd.mem {k : Nat} {ds : List D} (h : okd k (.tup ds)) {x : D} (hx : x ∈ ds) : okd k x := by
  obtain ⟨h1, h2, h3⟩ := h
  rw [gd] at h1
  rw [dep] at h2
  rw [wid] at h3
  exact ⟨gds_mem h1 hx, (deps_le (k := k)).mpr (by omega) x hx, (wids_le (k := k)).mpr (by omega) x hx⟩
theorem okd.len {k : Nat} {ds : List D} (h : okd k (.tup ds)) : ds.length ≤ k := by
  have h3 := h.2.2
  rw [wid] at h3
  omega
theorem okd.int {k : Nat} {i : Int} : okd k (.int i) := ⟨rfl, Nat.zero_le _, Nat.zero_le _⟩
theorem okd.str {k : Nat} {z : Str} : okd k (.str z) := ⟨rfl, Nat.zero_le _, Nat.zero_le _⟩
theorem okd.non {k : Nat} : okd k .non := ⟨rfl, Nat.zero_le _, Nat.zero_le _⟩
theorem okd.bl {k : Nat} {b : Bool} : okd k (.bl b) := ⟨rfl, Nat.zero_le _, Nat.zero_le _⟩
/-! words -/
theorem az_ok : ∀ c ∈ ("abcdefghijklmnopqrstuvwxyz" : Str).cps.toList, PyData.strOk (oneS c) = true := by decide +kernel
theorem az_len : (("abcdefghijklmnopqrstuvwxyz" : Str).cps.toList.length : Int) = 26 := by decide +kernel
theorem az_at {r : Int} (h0 : 0 ≤ r) (h1 : r < 26) : ∃ z, dIx (.str "abcdefghijklmnopqrstuvwxyz") (.int r) = some (.str z) ∧ z.length = 1 ∧ PyData.strOk z = true := by
  obtain ⟨c, e, m⟩ := atI_mem 26 az_len h0 h1
  refine ⟨oneS c, ?_, rfl, az_ok c m⟩
  show (match atI ("abcdefghijklmnopqrstuvwxyz" : Str).cps.toList r with | some c => some (D.str (oneS c)) | none => none) = _
  rw [e]
theorem word_draws : Draws F__law_word [] 10 fun d => ∃ z, d = .str z := draws_fn fun n p hp hn => by
  have v0 : startE 4 [p] = [some p, none, none, none] := rfl
  unfold mb__law_word
  rw [v0]
  repeat' first
    | refine W.seq ?_
    | refine W.set ?_
    | refine W.ret ?_
    | refine W.lst ?_
    | refine W.tup ?_
    | refine W.bin ?_
    | refine W.cons ?_
    | refine W.nil ?_
    | refine W.un ?_
    | refine W.fn ?_
    | refine W.c ?_
    | refine W.b ?_
    | refine W.ite ?_
    | refine W.par ?_
    | refine W.var (by rfl) ?_
    | refine ⟨Nat.le_of_ble_eq_true rfl, ?_⟩
    | refine ⟨rfl, ?_⟩
    | fail
  refine W.draw rfl (W.cons (W.c (W.nil ⟨1, _, n, p, take_draws (by decide) (by decide), rfl, hp, by omega, ?_⟩)))
  rintro _ o ⟨r, rfl, r0, r1⟩ P1
  refine ⟨_, rfl, ?_⟩
  repeat' first
    | refine W.seq ?_
    | refine W.set ?_
    | refine W.ret ?_
    | refine W.lst ?_
    | refine W.tup ?_
    | refine W.bin ?_
    | refine W.cons ?_
    | refine W.nil ?_
    | refine W.un ?_
    | refine W.fn ?_
    | refine W.c ?_
    | refine W.b ?_
    | refine W.ite ?_
    | refine W.par ?_
    | refine W.var (by rfl) ?_
    | refine ⟨Nat.le_of_ble_eq_true rfl, ?_⟩
    | refine ⟨rfl, ?_⟩
    | fail
  refine W.draw rfl (W.cons (W.c (W.nil ⟨1, _, n + 1, o, take_draws (by decide) (by decide), rfl, P1, by omega, ?_⟩)))
  rintro _ o2 ⟨i, rfl, i0, i1⟩ P2
  obtain ⟨x, ex, hx⟩ := atI_mem (ds := [D.int 1, .int 2, .int (1 + r)]) 3 rfl i0 i1
  refine ⟨x, ex, rfl, ?_⟩
  have hm : ∃ m : Int, x = .int m ∧ 1 ≤ m ∧ m ≤ 8 := by
    simp only [List.mem_cons, List.not_mem_nil, or_false] at hx
    rcases hx with rfl | rfl | rfl
    · exact ⟨_, rfl, by decide, by decide⟩
    · exact ⟨_, rfl, by decide, by decide⟩
    · exact ⟨_, rfl, by omega, by omega⟩
  obtain ⟨m, rfl, m0, m1⟩ := hm
  show W _ [some o2, some (.int m), none, none] _
  refine W.seq (W.set (W.join (W.c ⟨rfl, W.compS (fun j ρ => ∃ o, ρ = [some o, some (.int m), none, none] ∧ isPot (n + 2 + j) o) (fun x => ∃ z, x = .str z ∧ z.length = 1 ∧ PyData.strOk z = true) (W.range1 (W.cons (W.var rfl (W.nil ⟨m, rfl, ?_, ?_, ⟨o2, rfl, P2.mono (by omega)⟩, ?_, ?_⟩))))⟩)))
  · unfold small62
    rw [decide_eq_true (by omega), decide_eq_true (by omega)]; rfl
  · rw [rangeD_len]
    have : (maxL : Nat) = 1000000 := rfl
    omega
  · rintro j d ρ hj ⟨o3, rfl, P3⟩
    obtain ⟨rfl, hj2⟩ := rangeD_get hj
    refine ⟨[some o3, some (.int m), none, some (.int j)], rfl, W.bin (W.c (W.draw rfl (W.cons (W.c (W.nil ⟨1, _, _, o3, take_draws (by decide) (by decide), rfl, P3, by omega, ?_⟩)))))⟩
    rintro _ o4 ⟨c, rfl, c0, c1⟩ P4
    obtain ⟨z, ez, z1, z2⟩ := az_at c0 c1
    exact ⟨_, ez, ⟨z, rfl, z1, z2⟩, o4, rfl, P4.mono (by omega)⟩
  · rintro xs ρ2 hl hR ⟨o3, rfl, P3⟩
    rw [rangeD_len] at hl P3
    obtain ⟨z, ez⟩ := join_signs hR (by omega)
    refine ⟨_, ez, rfl, ?_⟩
    show W _ [some o3, some (.int m), some (.str z), none] _
    refine W.ret (W.ite (W.b (W.bin (W.var rfl (W.c ⟨_, eq_strs _ _, _, rfl, ?_⟩)))))
    split
    · exact W.c ⟨_, o3, rfl, rfl, P3.mono (by omega), _, rfl⟩
    · exact W.var rfl ⟨_, o3, rfl, rfl, P3.mono (by omega), _, rfl⟩
theorem lt_int (i j : Int) : dLt (.int i) (.int j) = some (.bl (decide (i < j))) := by
  unfold dLt
  rw [if_pos ⟨rfl, rfl, rfl, Nat.zero_le _⟩]; rfl
/-- a number or a text -/
def isAt : D → Prop
  | .int _ => True
  | .str _ => True
  | _ => False
theorem isAt.okd {k : Nat} {d : D} (h : isAt d) : okd k d := by
  cases d <;> first | exact okd.int | exact okd.str | cases h
theorem mul_2 : dMul (.int 2) (.int 1000000000) = some (.int 2000000000) := rfl
theorem add_2 : dAdd (.int 2000000000) (.int 1) = some (.int 2000000001) := rfl
theorem value_draws : Draws F__law_value [] 11 isAt := draws_fn fun n p hp hn => by
  have v0 : startE 2 [p] = [some p, none] := rfl
  unfold mb__law_value
  rw [v0]
  refine W.seq (W.set (W.draw rfl (W.cons (W.c (W.nil ⟨1, _, n, p, take_draws (by decide) (by decide), rfl, hp, by omega, ?_⟩)))))
  rintro _ o ⟨r, rfl, r0, r1⟩ P1
  refine ⟨rfl, ?_⟩
  show W _ [some o, some (.int r)] _
  refine W.seqC (W.ite (W.b (W.bin (W.var rfl (W.c ⟨_, lt_int _ _, _, rfl, ?_⟩)))))
  split
  · refine W.ret (W.draw rfl (W.cons (W.c (W.nil ⟨1, _, _, o, take_draws (by decide) (by decide), rfl, P1, by omega, ?_⟩))))
    rintro _ o2 ⟨i, rfl, i0, i1⟩ P2
    exact ⟨_, o2, rfl, rfl, P2.mono (by omega), trivial⟩
  · refine W.pass ?_
    refine W.seqC (W.ite (W.b (W.bin (W.var rfl (W.c ⟨_, eq_int _ _, _, rfl, ?_⟩)))))
    split
    · refine W.ret (W.bin (W.draw rfl (W.cons (W.bin (W.bin (W.c (W.bin (W.c (W.c ⟨_, pow_9, _, mul_2, W.c ⟨_, add_2, W.nil ⟨1, _, _, o, take_draws (by decide) (by decide), rfl, P1, by omega, ?_⟩⟩⟩)))))))))
      rintro _ o2 ⟨i, rfl, i0, i1⟩ P2
      exact W.bin (W.c (W.c ⟨_, pow_9, _, rfl, _, o2, rfl, rfl, P2.mono (by omega), trivial⟩))
    · refine W.pass (W.ret (W.draw rfl (W.nil ⟨10, _, _, o, word_draws, rfl, P1, by omega, ?_⟩)))
      rintro _ o2 ⟨z, rfl⟩ P2
      exact ⟨_, o2, rfl, rfl, P2.mono (by omega), trivial⟩
/-- a place's id as it is drawn -/
def isPl (d : D) : Prop := ∃ (i j : Int) (z : Str), d = .tup [.int i, .str z, .int j]
theorem isPl.okd {d : D} (h : isPl d) : okd 3 d := by
  obtain ⟨i, j, z, rfl⟩ := h
  refine (okd.tup (k := 2) (fun x hx => ?_) (Nat.le_refl 3))
  simp only [List.mem_cons, List.not_mem_nil, or_false] at hx
  rcases hx with rfl | rfl | rfl
  · exact okd.int
  · exact okd.str
  · exact okd.int
theorem id_draws : Draws F__law_id [] 14 isPl := draws_fn fun n p hp hn => by
  have v0 : startE 3 [p] = [some p, none, none] := rfl
  unfold mb__law_id
  rw [v0]
  repeat' first
    | refine W.seq ?_
    | refine W.set ?_
    | refine W.ret ?_
    | refine W.lst ?_
    | refine W.tup ?_
    | refine W.bin ?_
    | refine W.cons ?_
    | refine W.nil ?_
    | refine W.un ?_
    | refine W.fn ?_
    | refine W.c ?_
    | refine W.b ?_
    | refine W.ite ?_
    | refine W.par ?_
    | refine W.var (by rfl) ?_
    | refine ⟨Nat.le_of_ble_eq_true rfl, ?_⟩
    | refine ⟨rfl, ?_⟩
    | fail
  refine W.draw rfl (W.cons (W.c (W.nil ⟨1, _, n, p, take_draws (by decide) (by decide), rfl, hp, by omega, ?_⟩)))
  rintro _ o ⟨r, rfl, r0, r1⟩ P1
  repeat' first
    | refine W.seq ?_
    | refine W.set ?_
    | refine W.ret ?_
    | refine W.lst ?_
    | refine W.tup ?_
    | refine W.bin ?_
    | refine W.cons ?_
    | refine W.nil ?_
    | refine W.un ?_
    | refine W.fn ?_
    | refine W.c ?_
    | refine W.b ?_
    | refine W.ite ?_
    | refine W.par ?_
    | refine W.var (by rfl) ?_
    | refine ⟨Nat.le_of_ble_eq_true rfl, ?_⟩
    | refine ⟨rfl, ?_⟩
    | fail
  refine ⟨_, pow_6, ?_⟩
  repeat' first
    | refine W.seq ?_
    | refine W.set ?_
    | refine W.ret ?_
    | refine W.lst ?_
    | refine W.tup ?_
    | refine W.bin ?_
    | refine W.cons ?_
    | refine W.nil ?_
    | refine W.un ?_
    | refine W.fn ?_
    | refine W.c ?_
    | refine W.b ?_
    | refine W.ite ?_
    | refine W.par ?_
    | refine W.var (by rfl) ?_
    | refine ⟨Nat.le_of_ble_eq_true rfl, ?_⟩
    | refine ⟨rfl, ?_⟩
    | fail
  refine W.draw rfl (W.cons (W.c (W.nil ⟨1, _, n + 1, o, take_draws (by decide) (by decide), rfl, P1, by omega, ?_⟩)))
  rintro _ o2 ⟨r2, rfl, s0, s1⟩ P2
  repeat' first
    | refine W.seq ?_
    | refine W.set ?_
    | refine W.ret ?_
    | refine W.lst ?_
    | refine W.tup ?_
    | refine W.bin ?_
    | refine W.cons ?_
    | refine W.nil ?_
    | refine W.un ?_
    | refine W.fn ?_
    | refine W.c ?_
    | refine W.b ?_
    | refine W.ite ?_
    | refine W.par ?_
    | refine W.var (by rfl) ?_
    | refine ⟨Nat.le_of_ble_eq_true rfl, ?_⟩
    | refine ⟨rfl, ?_⟩
    | fail
  show W _ [some o2, some (.lst [.int 0, .int 7, .int r]), some (.lst [.int 0, .int 1000000, .int r2])] _
  repeat' first
    | refine W.seq ?_
    | refine W.set ?_
    | refine W.ret ?_
    | refine W.lst ?_
    | refine W.tup ?_
    | refine W.bin ?_
    | refine W.cons ?_
    | refine W.nil ?_
    | refine W.un ?_
    | refine W.fn ?_
    | refine W.c ?_
    | refine W.b ?_
    | refine W.ite ?_
    | refine W.par ?_
    | refine W.var (by rfl) ?_
    | refine ⟨Nat.le_of_ble_eq_true rfl, ?_⟩
    | refine ⟨rfl, ?_⟩
    | fail
  refine W.draw rfl (W.cons (W.c (W.nil ⟨1, _, _, o2, take_draws (by decide) (by decide), rfl, P2, by omega, ?_⟩)))
  rintro _ o3 ⟨i, rfl, i0, i1⟩ P3
  obtain ⟨x, ex, hx⟩ := atI_mem (ds := [D.int 0, .int 7, .int r]) 3 rfl i0 i1
  refine ⟨x, ex, ?_⟩
  have hm : ∃ m : Int, x = .int m := by
    simp only [List.mem_cons, List.not_mem_nil, or_false] at hx
    rcases hx with rfl | rfl | rfl <;> exact ⟨_, rfl⟩
  obtain ⟨m, rfl⟩ := hm
  refine W.cons (W.draw rfl (W.nil ⟨10, _, _, o3, word_draws, rfl, P3, by omega, ?_⟩))
  rintro _ o4 ⟨z, rfl⟩ P4
  repeat' first
    | refine W.seq ?_
    | refine W.set ?_
    | refine W.ret ?_
    | refine W.lst ?_
    | refine W.tup ?_
    | refine W.bin ?_
    | refine W.cons ?_
    | refine W.nil ?_
    | refine W.un ?_
    | refine W.fn ?_
    | refine W.c ?_
    | refine W.b ?_
    | refine W.ite ?_
    | refine W.par ?_
    | refine W.var (by rfl) ?_
    | refine ⟨Nat.le_of_ble_eq_true rfl, ?_⟩
    | refine ⟨rfl, ?_⟩
    | fail
  refine W.draw rfl (W.cons (W.c (W.nil ⟨1, _, _, o4, take_draws (by decide) (by decide), rfl, P4, by omega, ?_⟩)))
  rintro _ o5 ⟨j, rfl, j0, j1⟩ P5
  obtain ⟨y, ey, hy⟩ := atI_mem (ds := [D.int 0, .int 1000000, .int r2]) 3 rfl j0 j1
  refine ⟨y, ey, ?_⟩
  have hm2 : ∃ m : Int, y = .int m := by
    simp only [List.mem_cons, List.not_mem_nil, or_false] at hy
    rcases hy with rfl | rfl | rfl <;> exact ⟨_, rfl⟩
  obtain ⟨m2, rfl⟩ := hm2
  repeat' first
    | refine W.seq ?_
    | refine W.set ?_
    | refine W.ret ?_
    | refine W.lst ?_
    | refine W.tup ?_
    | refine W.bin ?_
    | refine W.cons ?_
    | refine W.nil ?_
    | refine W.un ?_
    | refine W.fn ?_
    | refine W.c ?_
    | refine W.b ?_
    | refine W.ite ?_
    | refine W.par ?_
    | refine W.var (by rfl) ?_
    | refine ⟨Nat.le_of_ble_eq_true rfl, ?_⟩
    | refine ⟨rfl, ?_⟩
    | fail
  exact ⟨_, o5, rfl, rfl, P5.mono (by omega), _, _, _, rfl⟩
end K37
set_option maxHeartbeats 0
namespace K37
open PySem PySem.Spec PyProof.Rows L2 Bx
section
variable {P : Program} {w : World} {K : PySem.W.Frag} {mg : Str → Option Value} {base : Heap}
noncomputable def mb__law_cells : M Fl := (sSeq (sSet 1 (mC (.dct [] []))) (sSeq (sFor (bName 2) (mRange (mCons (mCallO takeF 0 (mCons (mC (.int 7)) mNil)) mNil)) (sSetN 1 (mBin dIx (mLst (mCons (mBin dPow (mC (.int 10)) (mC (.int 9))) (mCons (mUn dNeg (mBin dPow (mC (.int 10)) (mC (.int 9)))) (mCons (mCallO F__law_value 0 mNil) (mCons (mCallO F__law_value 0 mNil) mNil))))) (mCallO takeF 0 (mCons (mC (.int 4)) mNil))) (mCallO F__law_id 0 mNil))) (sRet (mFn dTuple (mCons (mComp [3] (bName 3) mYes (mTup (mCons (mVar 3) (mCons (mOwnIx 1 (mVar 3)) mNil))) (mSeq (mOwnSortedK 1))) mNil)))))
noncomputable def F__law_cells : List D → Option FR := fnOf 4 (some 0) mb__law_cells
theorem ok__law_cells {k : Nat} (T : Txt K mg) : FnOk P w K mg base CX0 (k + 4) T.f__law_cells T.d__law_cells ["pot"] (spF (UU P w K T) (some 0) 1 F__law_cells) :=
  fn_data (own := [0, 1]) (io := (some 0)) (mb := mb__law_cells) (U := (UU P w K T)) (k := k + 3) T.F__law_cells sc__law_cells (by decide) (by decide) (fun j hj => by cases hj; decide) fun cdv A outer s H E hr => fun pa A2 => ⟨_, (dss_cons (ds_setF (i := 1) sc__law_cells.nd rfl (Or.inr rfl) df_dnew (nio2 rfl (by decide))) (dss_cons (ds_for (vs := [2]) PassesOwn.never rfl (di_range1 (by rfl) T.n_range (de_callO (i := 0) (take_ok T _) hr (by rfl) T.g__law_take T.F__law_take.kp T.b__law_take (da_cons de_int da_nil) (many_cons many_nil))) (dg_name (i := 2) sc__law_cells.nd rfl (Or.inl rfl) (of_decide_eq_false rfl) (by decide)) (dss_one (ds_setN (i := 1) ⟨rfl, rfl, rfl⟩ (room200 hr) (de_ix (o_ix ⟨rfl, rfl, rfl⟩) (DF.de (df_lst (da_cons (de_op o_pow de_int de_int) (da_cons (de_un o_neg (de_op o_pow de_int de_int)) (da_cons (de_callO (i := 0) (ok__law_value T) hr (by rfl) T.g__law_value T.F__law_value.kp T.b__law_value da_nil many_nil) (da_cons (de_callO (i := 0) (ok__law_value T) hr (by rfl) T.g__law_value T.F__law_value.kp T.b__law_value da_nil many_nil) da_nil)))))) (de_callO (i := 0) (take_ok T _) hr (by rfl) T.g__law_take T.F__law_take.kp T.b__law_take (da_cons de_int da_nil) (many_cons many_nil)) (fun _ _ => rfl)) (de_callO (i := 0) (ok__law_id T) hr (by rfl) T.g__law_id T.F__law_id.kp T.b__law_id da_nil many_nil)))) (dss_one (ds_ret (de_callTy (o_tuple ⟨rfl, rfl, rfl⟩) (by rfl) T.n_tuple (by decide +kernel) (da_cons (DF.de (df_comp rfl sc__law_cells.nd (di_seq (de_ownSortedK (i := 1) rfl ⟨rfl, rfl, rfl⟩ (room200 hr) (by rfl) T.n_sorted)) (blkOk_by (own := [("at", 3)]) (N := N__law_cells) (sc := defScope s__law_cells) (by decide +kernel)) rfl (of_decide_eq_true rfl) (fun _ _ _ _ _ _ _ => (dg_name (i := 3) sc__law_cells.nd rfl (Or.inl rfl) (of_decide_eq_false rfl) (by decide))) (fun _ _ _ _ _ _ _ => dts_nil) (fun _ _ _ _ _ _ _ => (de_tup (da_cons (de_var (i := 3)) (da_cons (de_ownIx (i := 1) ⟨rfl, rfl, rfl⟩ (room200 hr) (de_var (i := 3)) (fun _ _ => rfl)) da_nil)))))) da_nil))))))⟩
end
end K37
set_option maxHeartbeats 1000000
namespace K37
open PySem PySem.Spec PyProof.Rows L2 Bx
theorem isPl.key {d : D} (h : isPl d) : okKey d = true := by
  obtain ⟨i, j, z, rfl⟩ := h
  rfl
theorem okKeys_pl {ks : List D} (h : ∀ k ∈ ks, isPl k) : okKeys ks = true := List.all_eq_true.mpr fun k hk => (h k hk).key
theorem pl_ok {d e : D} (h : isPl d) (g : isPl e) : okD d e = true := by
  obtain ⟨i, j, z, rfl⟩ := h
  obtain ⟨k, l, y, rfl⟩ := g
  simp [okD, okL]
theorem pl_eq {d e : D} (h : isPl d) (g : isPl e) (he : eqP d e = true) : d = e := by
  obtain ⟨i, j, z, rfl⟩ := h
  obtain ⟨k, l, y, rfl⟩ := g
  rw [eqP_tup] at he
  rw [toPys, toPys, toPys, toPys, toPys, toPys, toPys, toPys, PyData.eqvAll, PyData.eqvAll, PyData.eqvAll, PyData.eqvAll, toPy, toPy, toPy, toPy, toPy, toPy, PyData.eqv, PyData.eqv, PyData.eqv, Bool.and_eq_true, Bool.and_eq_true] at he
  obtain ⟨h1, h2, h3⟩ := he
  have h3' := (Bool.and_eq_true _ _).mp h3
  rw [eq_of_beq h1, eq_of_beq h2, eq_of_beq h3'.1]
theorem tight_pl {ks : List D} (h : ∀ k ∈ ks, isPl k) : Tight ks := by
  intro d hd e he ht
  cases hq : eqP d e with
  | true => exact pl_eq (h d hd) (h e he) hq
  | false =>
    obtain ⟨pre, p, q, l, m, e1, e2, n, _⟩ := tok_dif d e (pl_ok (h d hd) (h e he)) hq
    rw [e1, e2] at ht
    have := List.append_cancel_left ht
    injection this with h1 _
    exact (n h1).elim
theorem sorts_pl {ks : List D} (h : ∀ k ∈ ks, isPl k) : Sorts ks where
  pl d hd := by
    obtain ⟨i, j, z, rfl⟩ := h d hd
    exact ⟨rfl, by simp [dep, deps]⟩
  kd := .inr (.inr ⟨"int", fun d hd => by
    obtain ⟨i, j, z, rfl⟩ := h d hd
    exact ⟨_, _, rfl, .inl ⟨rfl, _, rfl⟩⟩⟩)
  ok d hd e he := pl_ok (h d hd) (h e he)
/-- the cells found so far -/
structure Cs (ks vs : List D) : Prop where
  len : ks.length = vs.length
  k : ∀ x ∈ ks, isPl x
  v : ∀ x ∈ vs, isAt x
theorem putVs_ok {k v : D} (hv : isAt v) : ∀ {ks vs : List D}, ks.length = vs.length → (∀ x ∈ vs, isAt x) → ks.length = (putVs ks vs k v).length ∧ ∀ x ∈ putVs ks vs k v, isAt x
  | [], [], _, _ => ⟨rfl, fun x hx => by simp [putVs] at hx⟩
  | [], _ :: _, h, _ => by cases h
  | _ :: _, [], h, _ => by cases h
  | k0 :: ks, v0 :: vs, h, hw => by
    obtain ⟨l, r⟩ := putVs_ok (k := k) hv (ks := ks) (vs := vs) (by simpa using h) fun x hx => hw x (List.mem_cons_of_mem _ hx)
    rw [putVs]
    refine ⟨by rw [List.length_cons, List.length_cons, l], fun x hx => ?_⟩
    rcases List.mem_cons.mp hx with rfl | hx
    · split
      · exact hv
      · exact hw _ List.mem_cons_self
    · exact r x hx
theorem dPut_ok {ks vs : List D} {k v : D} (h : Cs ks vs) (hk : isPl k) (hv : isAt v) : ∃ ks' vs', dPut ks vs k v = .dct ks' vs' ∧ Cs ks' vs' ∧ ks'.length ≤ ks.length + 1 := by
  unfold dPut
  split
  · obtain ⟨l, r⟩ := putVs_ok (k := k) hv h.len h.v
    exact ⟨_, _, rfl, ⟨l, h.k, r⟩, by omega⟩
  · refine ⟨_, _, rfl, ⟨by rw [List.length_append, List.length_append, h.len]; rfl, fun x hx => ?_, fun x hx => ?_⟩, by rw [List.length_append]; exact Nat.le_refl _⟩
    · rcases List.mem_append.mp hx with hx | hx
      · exact h.k x hx
      · simp only [List.mem_singleton] at hx; subst hx; exact hk
    · rcases List.mem_append.mp hx with hx | hx
      · exact h.v x hx
      · simp only [List.mem_singleton] at hx; subst hx; exact hv
theorem valKD_mem {k : D} : ∀ {ks vs : List D}, ks.length = vs.length → k ∈ ks → ∃ v, valKD ks vs k = some v ∧ v ∈ vs
  | [], _, _, h => (List.not_mem_nil h).elim
  | _ :: _, [], h, _ => by cases h
  | k0 :: ks, v0 :: vs, hl, h => by
    rw [valKD]
    by_cases e : nk k0 = nk k
    · exact ⟨v0, by rw [if_pos e], List.mem_cons_self⟩
    · rcases List.mem_cons.mp h with rfl | h
      · exact (e rfl).elim
      · obtain ⟨v, e1, m⟩ := valKD_mem (by simpa using hl) h
        exact ⟨v, by rw [if_neg e, e1], List.mem_cons_of_mem _ m⟩
theorem cells_draws : Draws F__law_cells [] 230 (okd 7) := draws_fn fun n p hp hn => by
  have v0 : startE 4 [p] = [some p, none, none, none] := rfl
  unfold mb__law_cells
  rw [v0]
  refine W.seq (W.set (W.c ⟨rfl, ?_⟩))
  show W _ [some p, some (.dct [] []), none, none] _
  refine W.seq (W.for' (fun j ρ => ∃ o ks vs x2, ρ = [some o, some (.dct ks vs), x2, none] ∧ isPot (n + 1 + 37 * j) o ∧ Cs ks vs ∧ ks.length ≤ j) (W.range1 (W.cons (W.draw rfl (W.cons (W.c (W.nil ⟨1, _, n, p, take_draws (by decide) (by decide), rfl, hp, by omega, ?_⟩)))))))
  rintro _ o ⟨r, rfl, r0, r1⟩ P1
  refine W.nil ⟨r, rfl, ?_, ⟨o, [], [], none, rfl, P1.mono (by omega), ⟨rfl, fun x hx => (List.not_mem_nil hx).elim, fun x hx => (List.not_mem_nil hx).elim⟩, Nat.le_refl 0⟩, ?_, ?_⟩
  · unfold small62
    rw [decide_eq_true (by omega), decide_eq_true (by omega)]; rfl
  · rintro j d ρ hj ⟨o1, ks, vs, x2, rfl, P, C, hk⟩
    obtain ⟨rfl, hj2⟩ := rangeD_get hj
    refine ⟨[some o1, some (.dct ks vs), some (.int j), none], rfl, ?_⟩
    refine W.setN (W.bin (W.lst ?_))
    refine W.cons (W.bin (W.c (W.c ⟨_, pow_9, ?_⟩)))
    refine W.cons (W.un (W.bin (W.c (W.c ⟨_, pow_9, _, neg_9, ?_⟩))))
    refine W.cons (W.draw rfl (W.nil ⟨11, _, _, o1, value_draws, rfl, P, by omega, ?_⟩))
    intro v1 o2 a1 P2
    refine W.cons (W.draw rfl (W.nil ⟨11, _, _, o2, value_draws, rfl, P2, by omega, ?_⟩))
    intro v2 o3 a2 P3
    refine W.nil ⟨Nat.le_of_ble_eq_true rfl, W.draw rfl (W.cons (W.c (W.nil ⟨1, _, _, o3, take_draws (by decide) (by decide), rfl, P3, by omega, ?_⟩)))⟩
    rintro _ o4 ⟨i, rfl, i0, i1⟩ P4
    obtain ⟨x, ex, hx⟩ := atI_mem (ds := [D.int 1000000000, .int (-1000000000), v1, v2]) 4 rfl i0 i1
    have ha : isAt x := by
      simp only [List.mem_cons, List.not_mem_nil, or_false] at hx
      rcases hx with rfl | rfl | rfl | rfl
      · trivial
      · trivial
      · exact a1
      · exact a2
    refine ⟨x, ex, ⟨ks, vs, rfl⟩, W.draw rfl (W.nil ⟨14, _, _, o4, id_draws, rfl, P4, by omega, ?_⟩)⟩
    intro k o5 hpk P5
    obtain ⟨ks', vs', e', C', l'⟩ := dPut_ok C hpk ha
    refine ⟨ks, vs, rfl, okKeys_pl C.k, hpk.key, ?_, .inl rfl, o5, ks', vs', some (.int j), ?_, P5.mono (by omega), C', by omega⟩
    · have : (maxL : Nat) = 1000000 := rfl
      omega
    · rw [e']; rfl
  · rintro ρ2 ⟨o1, ks, vs, x2, rfl, P, C, hk⟩
    rw [rangeD_len] at P hk
    refine ⟨rfl, W.ret (W.fn (W.cons (W.compS (fun _ ρ => ρ = [some o1, some (.dct ks vs), x2, none]) (okd 4) (W.seqL (W.sortedK rfl (okKeys_pl C.k) (sorts_pl C.k) (tight_pl C.k) ⟨_, .inl rfl, ?_, rfl, ?_, ?_⟩)))))⟩
    · rw [(sortD_perm ks).length_eq]
      have : (maxL : Nat) = 1000000 := rfl
      omega
    · rintro j d ρ hj rfl
      have hd : d ∈ ks := (sortD_perm ks).mem_iff.mp (List.mem_of_getElem? hj)
      obtain ⟨v, ev, mv⟩ := valKD_mem C.len hd
      refine ⟨[some o1, some (.dct ks vs), x2, some d], rfl, W.tup (W.cons (W.var rfl (W.cons (W.ownIx rfl (W.var rfl ⟨.dct ks vs, v, rfl, ?_, W.nil ⟨Nat.le_of_ble_eq_true rfl, ?_, rfl⟩⟩)))))⟩
      · show (if okKeys ks = true ∧ okKey d = true then valKD ks vs d else none) = _
        rw [if_pos ⟨okKeys_pl C.k, (C.k d hd).key⟩, ev]
      · refine okd.tup (k := 3) (fun x hx => ?_) (Nat.le_of_ble_eq_true rfl)
        simp only [List.mem_cons, List.not_mem_nil, or_false] at hx
        rcases hx with rfl | rfl
        · exact (C.k _ hd).okd
        · exact (C.v _ mv).okd
    · rintro xs ρ2 hl hR rfl
      rw [(sortD_perm ks).length_eq] at hl
      refine W.nil ⟨_, rfl, _, o1, rfl, rfl, P.mono (by omega), ?_⟩
      exact okd.tup (k := 6) (fun x hx => (hR x hx).mono (by decide)) (by omega)
end K37
set_option maxHeartbeats 0
namespace K37
open PySem PySem.Spec PyProof.Rows L2 Bx
section
variable {P : Program} {w : World} {K : PySem.W.Frag} {mg : Str → Option Value} {base : Heap}
noncomputable def mb__law_part : M Fl := (sSeq (mIf (mB (mBin dEq (mVar 1) (mC (.str "n")))) (sRet (mCallO F__law_word 0 mNil)) sPass) (sSeq (mIf (mB (mBin dEq (mVar 1) (mC (.str "i")))) (sRet (mCallO F__law_id 0 mNil)) sPass) (sSeq (mIf (mB (mBin dEq (mVar 1) (mC (.str "t")))) (sRet (mBin dIx (mLst (mCons (mC (.str "number")) (mCons (mC (.str "word")) (mCons (mC (.str "any")) mNil)))) (mCallO takeF 0 (mCons (mC (.int 3)) mNil)))) sPass) (sSeq (mIf (mB (mBin dEq (mVar 1) (mC (.str "v")))) (sRet (mBin dIx (mLst (mCons (mC .non) (mCons (mC (.str "key")) (mCons (mUn dNeg (mBin dPow (mC (.int 10)) (mC (.int 9)))) (mCons (mBin dPow (mC (.int 10)) (mC (.int 9))) (mCons (mCallO F__law_value 0 mNil) mNil)))))) (mCallO takeF 0 (mCons (mC (.int 5)) mNil)))) sPass) (sSeq (mIf (mB (mBin dEq (mVar 1) (mC (.str "c")))) (sRet (mCallO F__law_cells 0 mNil)) sPass) (sSeq (sSet 2 (mBin dIxK (mC (.dct [.str "k", .str "h", .str "m"] [.int 1000000000, .int 7, .int 1000000])) (mVar 1))) (sRet (mBin dIx (mLst (mCons (mC (.int 0)) (mCons (mVar 2) (mCons (mCallO takeF 0 (mCons (mBin dAdd (mVar 2) (mC (.int 1))) mNil)) mNil)))) (mCallO takeF 0 (mCons (mC (.int 3)) mNil))))))))))
noncomputable def F__law_part : List D → Option FR := fnOf 3 (some 0) mb__law_part
theorem ok__law_part {k : Nat} (T : Txt K mg) : FnOk P w K mg base CX0 (k + 5) T.f__law_part T.d__law_part ["pot", "sign"] (spF (UU P w K T) (some 0) 2 F__law_part) :=
  fn_data (own := [0]) (io := (some 0)) (mb := mb__law_part) (U := (UU P w K T)) (k := k + 4) T.F__law_part sc__law_part (by decide) (by decide) (fun j hj => by cases hj; decide) fun cdv A outer s H E hr => fun pa A2 => ⟨_, (dss_cons (ds_if (dt_cmp (o_eq ⟨rfl, rfl, rfl⟩ (room200 hr)) (de_var (i := 1)) de_str (nomark _)) (dss_one (ds_ret (de_callO (i := 0) (ok__law_word T) hr (by rfl) T.g__law_word T.F__law_word.kp T.b__law_word da_nil many_nil))) dss_nil) (dss_cons (ds_if (dt_cmp (o_eq ⟨rfl, rfl, rfl⟩ (room200 hr)) (de_var (i := 1)) de_str (nomark _)) (dss_one (ds_ret (de_callO (i := 0) (ok__law_id T) hr (by rfl) T.g__law_id T.F__law_id.kp T.b__law_id da_nil many_nil))) dss_nil) (dss_cons (ds_if (dt_cmp (o_eq ⟨rfl, rfl, rfl⟩ (room200 hr)) (de_var (i := 1)) de_str (nomark _)) (dss_one (ds_ret (de_ix (o_ix ⟨rfl, rfl, rfl⟩) (DF.de (df_lst (da_cons de_str (da_cons de_str (da_cons de_str da_nil))))) (de_callO (i := 0) (take_ok T _) hr (by rfl) T.g__law_take T.F__law_take.kp T.b__law_take (da_cons de_int da_nil) (many_cons many_nil)) (fun _ _ => rfl)))) dss_nil) (dss_cons (ds_if (dt_cmp (o_eq ⟨rfl, rfl, rfl⟩ (room200 hr)) (de_var (i := 1)) de_str (nomark _)) (dss_one (ds_ret (de_ix (o_ix ⟨rfl, rfl, rfl⟩) (DF.de (df_lst (da_cons de_non (da_cons de_str (da_cons (de_un o_neg (de_op o_pow de_int de_int)) (da_cons (de_op o_pow de_int de_int) (da_cons (de_callO (i := 0) (ok__law_value T) hr (by rfl) T.g__law_value T.F__law_value.kp T.b__law_value da_nil many_nil) da_nil))))))) (de_callO (i := 0) (take_ok T _) hr (by rfl) T.g__law_take T.F__law_take.kp T.b__law_take (da_cons de_int da_nil) (many_cons many_nil)) (fun _ _ => rfl)))) dss_nil) (dss_cons (ds_if (dt_cmp (o_eq ⟨rfl, rfl, rfl⟩ (room200 hr)) (de_var (i := 1)) de_str (nomark _)) (dss_one (ds_ret (de_callO (i := 0) (ok__law_cells T) hr (by rfl) T.g__law_cells T.F__law_cells.kp T.b__law_cells da_nil many_nil))) dss_nil) (dss_cons (ds_set (i := 2) sc__law_part.nd rfl (Or.inl rfl) (de_ix (o_ixK (room200 hr)) (DF.de (df_disp (ks := [.str "k", .str "h", .str "m"]) (vs := [.int 1000000000, .int 7, .int 1000000]) (cps_cons (key := .inr "k") (val := .int 1000000000) ce_str (ce_pow (r := 1000000000) rfl) (cps_cons (key := .inr "h") (val := .int 7) ce_str ce_int (cps_cons (key := .inr "m") (val := .int 1000000) ce_str (ce_pow (r := 1000000) rfl) cps_nil))) rfl (fun _ _ => .cons (.str _ (by decide +kernel)) (.cons (.str _ (by decide +kernel)) (.cons (.str _ (by decide +kernel)) (.nil)))) (fun _ _ => .cons (.int _) (.cons (.int _) (.cons (.int _) (.nil)))))) (de_var (i := 1)) (fun _ _ => rfl))) (dss_one (ds_ret (de_ix (o_ix ⟨rfl, rfl, rfl⟩) (DF.de (df_lst (da_cons de_int (da_cons (de_var (i := 2)) (da_cons (de_callO (i := 0) (take_ok T _) hr (by rfl) T.g__law_take T.F__law_take.kp T.b__law_take (da_cons (de_op o_add (de_var (i := 2)) de_int) da_nil) (many_cons many_nil)) da_nil))))) (de_callO (i := 0) (take_ok T _) hr (by rfl) T.g__law_take T.F__law_take.kp T.b__law_take (da_cons de_int da_nil) (many_cons many_nil)) (fun _ _ => rfl))))))))))⟩
end
end K37
set_option maxHeartbeats 0
namespace K37
open PySem PySem.Spec PyProof.Rows L2 Bx
section
variable {P : Program} {w : World} {K : PySem.W.Frag} {mg : Str → Option Value} {base : Heap}
noncomputable def mb__law_good : M Fl := (sRet (mBin dAdd (mTup (mCons (mVar 1) mNil)) (mFn dTuple (mCons (mComp [2] (bName 2) mYes (mCallO F__law_part 0 (mCons (mVar 2) mNil)) (mSigns (mBin dIxK (mCall0 F__law_forms) (mVar 1)))) mNil))))
noncomputable def F__law_good : List D → Option FR := fnOf 3 (some 0) mb__law_good
theorem ok__law_good {k : Nat} (T : Txt K mg) : FnOk P w K mg base CX0 (k + 6) T.f__law_good T.d__law_good ["pot", "word"] (spF (UU P w K T) (some 0) 2 F__law_good) :=
  fn_data (own := [0]) (io := (some 0)) (mb := mb__law_good) (U := (UU P w K T)) (k := k + 5) T.F__law_good sc__law_good (by decide) (by decide) (fun j hj => by cases hj; decide) fun cdv A outer s H E hr => fun pa A2 => ⟨_, (dss_one (ds_ret (de_op o_add (de_tup (da_cons (de_var (i := 1)) da_nil)) (de_callTy (o_tuple ⟨rfl, rfl, rfl⟩) (by rfl) T.n_tuple (by decide +kernel) (da_cons (DF.de (df_comp rfl sc__law_good.nd (di_str (de_ix (o_ixK (room200 hr)) (de_call0 (ok__law_forms T) hr (by rfl) T.g__law_forms T.F__law_forms.kp T.b__law_forms) (de_var (i := 1)) (fun _ _ => rfl))) (blkOk_by (own := [("sign", 2)]) (N := N__law_good) (sc := defScope s__law_good) (by decide +kernel)) rfl (of_decide_eq_true rfl) (fun _ _ _ _ _ _ _ => (dg_name (i := 2) sc__law_good.nd rfl (Or.inl rfl) (of_decide_eq_false rfl) (by decide))) (fun _ _ _ _ _ _ _ => dts_nil) (fun _ _ _ _ _ _ _ => (de_callO (i := 0) (ok__law_part T) hr (by rfl) T.g__law_part T.F__law_part.kp T.b__law_part (da_cons (de_var (i := 2)) da_nil) (many_cons many_nil))))) da_nil)))))⟩
end
end K37
set_option maxHeartbeats 0
namespace K37
open PySem PySem.Spec PyProof.Rows L2 Bx
section
variable {P : Program} {w : World} {K : PySem.W.Frag} {mg : Str → Option Value} {base : Heap}
noncomputable def mb__law_odds : M Fl := (sSeq (sSet 0 (mLst (mCons (mC .non) (mCons (mC (.bl true)) (mCons (mC (.bl false)) (mCons (mC (.int 0)) (mCons (mUn dNeg (mC (.int 1))) (mCons (mC (.int 8)) (mCons (mBin dAdd (mBin dPow (mC (.int 10)) (mC (.int 6))) (mC (.int 1))) (mCons (mBin dAdd (mBin dPow (mC (.int 10)) (mC (.int 9))) (mC (.int 1))) (mCons (mBin dSub (mUn dNeg (mBin dPow (mC (.int 10)) (mC (.int 9)))) (mC (.int 1))) (mCons (mC (.str "")) (mCons (mC (.str "key")) (mCons (mC (.str "ninesigns")) (mCons (mC (.str "Ab")) (mCons (mC (.str "a b")) mNil)))))))))))))))) (sSeq (sSet 0 (mBin dAdd (mVar 0) (mLst (mCons (mC (.str "number")) (mCons (mC (.str "any")) (mCons (mTup mNil) (mCons (mLst mNil) (mCons (mC (.dct [] [])) (mCons (mTup (mCons (mC (.int 0)) (mCons (mC (.str "a")) (mCons (mC (.int 0)) mNil)))) (mCons (mLst (mCons (mC (.str "a")) mNil)) (mCons (mTup (mCons (mC (.str "a")) mNil)) (mCons (mTup (mCons (mC (.int 0)) (mCons (mC (.str "key")) (mCons (mC (.int 0)) mNil)))) mNil)))))))))))) (sRet (mBin dAdd (mVar 0) (mLst (mCons (mTup (mCons (mC (.int 8)) (mCons (mC (.str "a")) (mCons (mC (.int 0)) mNil)))) (mCons (mTup (mCons (mC (.bl true)) (mCons (mC (.str "a")) (mCons (mC (.int 0)) mNil)))) (mCons (mC (.str "end")) mNil))))))))
noncomputable def F__law_odds : List D → Option FR := fnOf 1 none mb__law_odds
theorem ok__law_odds {k : Nat} (T : Txt K mg) : FnOk P w K mg base CX0 (k + 1) T.f__law_odds T.d__law_odds [] (spF (UU P w K T) none 0 F__law_odds) :=
  fn_data (own := []) (io := none) (mb := mb__law_odds) (U := (UU P w K T)) (k := k + 0) T.F__law_odds sc__law_odds (by decide) (by decide) (fun j hj => nomatch hj) fun cdv A outer s H E hr => fun pa A2 => ⟨_, (dss_cons (ds_set (i := 0) sc__law_odds.nd rfl (Or.inl rfl) (DF.de (df_lst (da_cons de_non (da_cons de_bl (da_cons de_bl (da_cons de_int (da_cons (de_un o_neg de_int) (da_cons de_int (da_cons (de_op o_add (de_op o_pow de_int de_int) de_int) (da_cons (de_op o_add (de_op o_pow de_int de_int) de_int) (da_cons (de_op o_sub (de_un o_neg (de_op o_pow de_int de_int)) de_int) (da_cons de_str (da_cons de_str (da_cons de_str (da_cons de_str (da_cons de_str da_nil))))))))))))))))) (dss_cons (ds_set (i := 0) sc__law_odds.nd rfl (Or.inl rfl) (de_op o_add (de_var (i := 0)) (DF.de (df_lst (da_cons de_str (da_cons de_str (da_cons (de_tup da_nil) (da_cons (DF.de (df_lst da_nil)) (da_cons (DF.de df_dnew) (da_cons (de_tup (da_cons de_int (da_cons de_str (da_cons de_int da_nil)))) (da_cons (DF.de (df_lst (da_cons de_str da_nil))) (da_cons (de_tup (da_cons de_str da_nil)) (da_cons (de_tup (da_cons de_int (da_cons de_str (da_cons de_int da_nil)))) da_nil))))))))))))) (dss_one (ds_ret (de_op o_add (de_var (i := 0)) (DF.de (df_lst (da_cons (de_tup (da_cons de_int (da_cons de_str (da_cons de_int da_nil)))) (da_cons (de_tup (da_cons de_bl (da_cons de_str (da_cons de_int da_nil)))) (da_cons de_str da_nil))))))))))⟩
end
end K37
set_option maxHeartbeats 0
namespace K37
open PySem PySem.Spec PyProof.Rows L2 Bx
section
variable {P : Program} {w : World} {K : PySem.W.Frag} {mg : Str → Option Value} {base : Heap}
noncomputable def mb__law_bent (rec : List D → Option FR) : M Fl := (sSeq (sSet 3 (mCall0 F__law_odds)) (sSeq (sSet 4 (mBin dIx (mVar 3) (mCallO takeF 0 (mCons (mFn dLen (mCons (mVar 3) mNil)) mNil)))) (sSeq (mIf (mOr (mNot (mB (mUn (dIsi "tuple") (mVar 1)))) (mB (mBin dEq (mVar 1) (mTup mNil)))) (sRet (mVar 4)) sPass) (sSeq (sSet 5 (mCallO takeF 0 (mCons (mC (.int 9)) mNil))) (sSeq (sPar 6 7 (mCallO takeF 0 (mCons (mFn dLen (mCons (mVar 1) mNil)) mNil)) (mCallO takeF 0 (mCons (mFn dLen (mCons (mVar 1) mNil)) mNil))) (sSeq (mIf (mB (mBin dLt (mVar 5) (mC (.int 4)))) (sSeq (sSet 8 (mIf (mB (mBin dGt (mVar 2) (mC (.int 0)))) (mCallO rec 0 (mCons (mBin dIx (mVar 1) (mVar 6)) (mCons (mBin dSub (mVar 2) (mC (.int 1))) mNil))) (mVar 4))) (sRet (mBin dAdd (mBin dAdd (mSl dSl (mVar 1) mNone (mSome (mVar 6))) (mTup (mCons (mVar 8) mNil))) (mSl dSl (mVar 1) (mSome (mBin dAdd (mVar 6) (mC (.int 1)))) mNone)))) sPass) (sSeq (sSet 9 (mFn dList (mCons (mVar 1) mNil))) (sSeq (sSwap 9 6 7) (sSeq (sSet 10 (mLst (mCons (mBin dAdd (mBin dAdd (mSl dSl (mVar 1) mNone (mSome (mVar 6))) (mTup (mCons (mVar 4) mNil))) (mSl dSl (mVar 1) (mSome (mBin dAdd (mVar 6) (mC (.int 1)))) mNone)) (mCons (mBin dAdd (mSl dSl (mVar 1) mNone (mSome (mVar 6))) (mSl dSl (mVar 1) (mSome (mBin dAdd (mVar 6) (mC (.int 1)))) mNone)) mNil)))) (sSeq (sSet 10 (mBin dAdd (mVar 10) (mLst (mCons (mBin dAdd (mBin dAdd (mSl dSl (mVar 1) mNone (mSome (mVar 6))) (mSl dSl (mVar 1) (mSome (mVar 6)) (mSome (mBin dAdd (mVar 6) (mC (.int 1)))))) (mSl dSl (mVar 1) (mSome (mVar 6)) mNone)) (mCons (mOwnTuple 9) mNil))))) (sRet (mBin dIx (mBin dAdd (mVar 10) (mLst (mCons (mBin dIx (mLst (mCons (mFn dList (mCons (mVar 1) mNil)) (mCons (mBin dAdd (mVar 1) (mTup (mCons (mVar 4) mNil))) mNil))) (mCallO takeF 0 (mCons (mC (.int 2)) mNil))) mNil))) (mBin dSub (mVar 5) (mC (.int 4)))))))))))))))
noncomputable def F__law_bent : Nat → List D → Option FR
  | 0 => fun _ => none
  | n + 1 => fnOf 11 (some 0) (mb__law_bent (F__law_bent n))
theorem F__law_bent_succ (n : Nat) : F__law_bent (n + 1) = fnOf 11 (some 0) (mb__law_bent (F__law_bent n)) := rfl
theorem ok__law_bent {k : Nat} (T : Txt K mg) : ∀ n : Nat, FnOk P w K mg base CX0 (k + n + 3) T.f__law_bent T.d__law_bent ["pot", "thing", "deep"] (spF (UU P w K T) (some 0) 3 (F__law_bent n))
  | 0 => fn_never T.F__law_bent sc__law_bent
  | n + 1 => by
    have ih : FnOk P w K mg base CX0 (k + (n + 1) + 2) T.f__law_bent T.d__law_bent ["pot", "thing", "deep"] (spF (UU P w K T) (some 0) 3 (F__law_bent n)) := ok__law_bent (k := k) T n
    exact fn_data (own := [0, 9]) (io := (some 0)) (mb := mb__law_bent (F__law_bent n)) (U := (UU P w K T)) (k := k + (n + 1) + 2) T.F__law_bent sc__law_bent (by decide) (by decide) (fun j hj => by cases hj; decide) fun cdv A outer s H E hr => fun pa A2 => ⟨_, (dss_cons (ds_set (i := 3) sc__law_bent.nd rfl (Or.inl rfl) (de_call0 (ok__law_odds T) hr (by rfl) T.g__law_odds T.F__law_odds.kp T.b__law_odds)) (dss_cons (ds_set (i := 4) sc__law_bent.nd rfl (Or.inl rfl) (de_ix (o_ix ⟨rfl, rfl, rfl⟩) (de_var (i := 3)) (de_callO (i := 0) (take_ok T _) hr (by rfl) T.g__law_take T.F__law_take.kp T.b__law_take (da_cons (de_callB (o_len ⟨rfl, rfl, rfl⟩) (by rfl) T.n_len (by decide +kernel) (da_cons (de_var (i := 3)) da_nil)) da_nil) (many_cons many_nil)) (fun _ _ => rfl))) (dss_cons (ds_if (dt_w (dw_or (dt_not (dt_val (de_isi (Ts := "tuple") ⟨rfl, rfl, rfl⟩ (by rfl) T.n_isinstance (de_var (i := 1)) (by unfold okT; decide) (by rfl) T.n_tuple (by decide +kernel)))) (dw_or1 (dt_cmp (o_eq ⟨rfl, rfl, rfl⟩ (room200 hr)) (de_var (i := 1)) (de_tup da_nil) (nomark _))))) (dss_one (ds_ret (de_var (i := 4)))) dss_nil) (dss_cons (ds_set (i := 5) sc__law_bent.nd rfl (Or.inl rfl) (de_callO (i := 0) (take_ok T _) hr (by rfl) T.g__law_take T.F__law_take.kp T.b__law_take (da_cons de_int da_nil) (many_cons many_nil))) (dss_cons (ds_par (i := 6) (j := 7) sc__law_bent.nd (de_callO (i := 0) (take_ok T _) hr (by rfl) T.g__law_take T.F__law_take.kp T.b__law_take (da_cons (de_callB (o_len ⟨rfl, rfl, rfl⟩) (by rfl) T.n_len (by decide +kernel) (da_cons (de_var (i := 1)) da_nil)) da_nil) (many_cons many_nil)) (de_callO (i := 0) (take_ok T _) hr (by rfl) T.g__law_take T.F__law_take.kp T.b__law_take (da_cons (de_callB (o_len ⟨rfl, rfl, rfl⟩) (by rfl) T.n_len (by decide +kernel) (da_cons (de_var (i := 1)) da_nil)) da_nil) (many_cons many_nil))) (dss_cons (ds_if (dt_cmp (o_lt (room200 hr)) (de_var (i := 5)) de_int (nomark _)) (dss_cons (ds_set (i := 8) sc__law_bent.nd rfl (Or.inl rfl) (de_if (dt_cmp o_gt (de_var (i := 2)) de_int (nomark _)) (de_callO (i := 0) ih hr (by rfl) T.g__law_bent T.F__law_bent.kp T.b__law_bent (da_cons (de_ix (o_ix ⟨rfl, rfl, rfl⟩) (de_var (i := 1)) (de_var (i := 6)) (fun _ _ => rfl)) (da_cons (de_op o_sub (de_var (i := 2)) de_int) da_nil)) (many_cons (many_cons many_nil))) (de_var (i := 4)))) (dss_one (ds_ret (de_op o_add (de_op o_add (de_sl (o_sl ⟨rfl, rfl, rfl⟩) (de_var (i := 1)) do_none (do_some (de_var (i := 6)))) (de_tup (da_cons (de_var (i := 8)) da_nil))) (de_sl (o_sl ⟨rfl, rfl, rfl⟩) (de_var (i := 1)) (do_some (de_op o_add (de_var (i := 6)) de_int)) do_none))))) dss_nil) (dss_cons (ds_setF (i := 9) sc__law_bent.nd rfl (Or.inl rfl) (df_list ⟨rfl, rfl, rfl⟩ (by rfl) T.n_list (by decide +kernel) (da_cons (de_var (i := 1)) da_nil)) (nio2 rfl (by decide))) (dss_cons (ds_swap (i := 9) (j := 6) (k := 7) rfl (hpe := pe_tup (pa_cons (pe_ix ix_list (pv 9) (pv 7) (fun _ _ => rfl)) (pa_cons (pe_ix ix_list (pv 9) (pv 6) (fun _ _ => rfl)) pa_nil))) (hg := pg_tup rfl (pgs_cons (pg_sub (pv 9) (pv 6) set_list) (pgs_cons (pg_sub (pv 9) (pv 7) set_list) pgs_nil)))) (dss_cons (ds_set (i := 10) sc__law_bent.nd rfl (Or.inl rfl) (DF.de (df_lst (da_cons (de_op o_add (de_op o_add (de_sl (o_sl ⟨rfl, rfl, rfl⟩) (de_var (i := 1)) do_none (do_some (de_var (i := 6)))) (de_tup (da_cons (de_var (i := 4)) da_nil))) (de_sl (o_sl ⟨rfl, rfl, rfl⟩) (de_var (i := 1)) (do_some (de_op o_add (de_var (i := 6)) de_int)) do_none)) (da_cons (de_op o_add (de_sl (o_sl ⟨rfl, rfl, rfl⟩) (de_var (i := 1)) do_none (do_some (de_var (i := 6)))) (de_sl (o_sl ⟨rfl, rfl, rfl⟩) (de_var (i := 1)) (do_some (de_op o_add (de_var (i := 6)) de_int)) do_none)) da_nil))))) (dss_cons (ds_set (i := 10) sc__law_bent.nd rfl (Or.inl rfl) (de_op o_add (de_var (i := 10)) (DF.de (df_lst (da_cons (de_op o_add (de_op o_add (de_sl (o_sl ⟨rfl, rfl, rfl⟩) (de_var (i := 1)) do_none (do_some (de_var (i := 6)))) (de_sl (o_sl ⟨rfl, rfl, rfl⟩) (de_var (i := 1)) (do_some (de_var (i := 6))) (do_some (de_op o_add (de_var (i := 6)) de_int)))) (de_sl (o_sl ⟨rfl, rfl, rfl⟩) (de_var (i := 1)) (do_some (de_var (i := 6))) do_none)) (da_cons (de_ownTuple (i := 9) (by rfl) T.n_tuple) da_nil)))))) (dss_one (ds_ret (de_ix (o_ix ⟨rfl, rfl, rfl⟩) (de_op o_add (de_var (i := 10)) (DF.de (df_lst (da_cons (de_ix (o_ix ⟨rfl, rfl, rfl⟩) (DF.de (df_lst (da_cons (de_callTy (o_list ⟨rfl, rfl, rfl⟩) (by rfl) T.n_list (by decide +kernel) (da_cons (de_var (i := 1)) da_nil)) (da_cons (de_op o_add (de_var (i := 1)) (de_tup (da_cons (de_var (i := 4)) da_nil))) da_nil)))) (de_callO (i := 0) (take_ok T _) hr (by rfl) T.g__law_take T.F__law_take.kp T.b__law_take (da_cons de_int da_nil) (many_cons many_nil)) (fun _ _ => rfl)) da_nil)))) (de_op o_sub (de_var (i := 5)) de_int) (fun _ _ => rfl))))))))))))))⟩
end
end K37
set_option maxHeartbeats 1000000
namespace K37
open PySem PySem.Spec PyProof.Rows L2 Bx
theorem W.pickF {i : Nat} {s t : Str} {a m : M Fl} {ρ : Bx.Env} {Q : Fl → Bx.Env → Prop} (e : ρ[i]? = some (some (.str s))) (q : (s == t) = false) (h : W m ρ Q) : W (sSeq (mIf (mB (mBin dEq (mVar i) (mC (.str t)))) a sPass) m) ρ Q := by
  refine W.seqC (W.ite (W.b (W.bin (W.var e (W.c ⟨_, eq_strs _ _, _, rfl, ?_⟩)))))
  rw [q]
  exact W.pass h
theorem W.pickT {i : Nat} {s t : Str} {a : M D} {m : M Fl} {ρ : Bx.Env} {Q : Fl → Bx.Env → Prop} (e : ρ[i]? = some (some (.str s))) (q : (s == t) = true) (h : W a ρ fun d ρ1 => Q (.rt d) ρ1) : W (sSeq (mIf (mB (mBin dEq (mVar i) (mC (.str t)))) (sRet a) sPass) m) ρ Q := by
  refine W.seqC (W.ite (W.b (W.bin (W.var e (W.c ⟨_, eq_strs _ _, _, rfl, ?_⟩)))))
  rw [q]
  exact W.ret h
theorem dr_n : Draws F__law_part [.str "n"] 230 (okd 7) := draws_fn fun n p hp hn => by
  have v0 : startE 3 [p, .str "n"] = [some p, some (.str "n"), none] := rfl
  unfold mb__law_part
  rw [v0]
  refine W.pickT rfl q_nn ?_
  refine W.draw rfl (W.nil ⟨10, _, n, p, word_draws, rfl, hp, by omega, ?_⟩)
  rintro _ o ⟨z, rfl⟩ P
  exact ⟨_, o, rfl, rfl, P.mono (by omega), okd.str⟩
theorem dr_i : Draws F__law_part [.str "i"] 230 (okd 7) := draws_fn fun n p hp hn => by
  have v0 : startE 3 [p, .str "i"] = [some p, some (.str "i"), none] := rfl
  unfold mb__law_part
  rw [v0]
  refine W.pickF rfl q_in ?_
  refine W.pickT rfl q_ii ?_
  refine W.draw rfl (W.nil ⟨14, _, n, p, id_draws, rfl, hp, by omega, ?_⟩)
  intro d o hd P
  exact ⟨_, o, rfl, rfl, P.mono (by omega), hd.okd.mono (by decide)⟩
theorem dr_c : Draws F__law_part [.str "c"] 230 (okd 7) := draws_fn fun n p hp hn => by
  have v0 : startE 3 [p, .str "c"] = [some p, some (.str "c"), none] := rfl
  unfold mb__law_part
  rw [v0]
  refine W.pickF rfl q_cn ?_
  refine W.pickF rfl q_ci ?_
  refine W.pickF rfl q_ct ?_
  refine W.pickF rfl q_cv ?_
  refine W.pickT rfl q_cc ?_
  refine W.draw rfl (W.nil ⟨230, _, n, p, cells_draws, rfl, hp, by omega, ?_⟩)
  intro d o hd P
  exact ⟨_, o, rfl, rfl, P.mono (by omega), hd⟩
theorem dr_t : Draws F__law_part [.str "t"] 230 (okd 7) := draws_fn fun n p hp hn => by
  have v0 : startE 3 [p, .str "t"] = [some p, some (.str "t"), none] := rfl
  unfold mb__law_part
  rw [v0]
  refine W.pickF rfl q_tn ?_
  refine W.pickF rfl q_ti ?_
  refine W.pickT rfl q_tt ?_
  repeat' first
    | refine W.seq ?_
    | refine W.set ?_
    | refine W.ret ?_
    | refine W.lst ?_
    | refine W.tup ?_
    | refine W.bin ?_
    | refine W.cons ?_
    | refine W.nil ?_
    | refine W.un ?_
    | refine W.fn ?_
    | refine W.c ?_
    | refine W.b ?_
    | refine W.ite ?_
    | refine W.par ?_
    | refine W.var (by rfl) ?_
    | refine ⟨Nat.le_of_ble_eq_true rfl, ?_⟩
    | refine ⟨rfl, ?_⟩
    | fail
  refine W.draw rfl (W.cons (W.c (W.nil ⟨1, _, n, p, take_draws (by decide) (by decide), rfl, hp, by omega, ?_⟩)))
  rintro _ o ⟨i, rfl, i0, i1⟩ P
  obtain ⟨x, ex, hx⟩ := atI_mem (ds := [D.str "number", .str "word", .str "any"]) 3 rfl i0 i1
  refine ⟨x, ex, x, o, rfl, rfl, P.mono (by omega), ?_⟩
  simp only [List.mem_cons, List.not_mem_nil, or_false] at hx
  rcases hx with rfl | rfl | rfl <;> exact okd.str
theorem dr_v : Draws F__law_part [.str "v"] 230 (okd 7) := draws_fn fun n p hp hn => by
  have v0 : startE 3 [p, .str "v"] = [some p, some (.str "v"), none] := rfl
  unfold mb__law_part
  rw [v0]
  refine W.pickF rfl q_vn ?_
  refine W.pickF rfl q_vi ?_
  refine W.pickF rfl q_vt ?_
  refine W.pickT rfl q_vv ?_
  refine W.bin (W.lst ?_)
  refine W.cons (W.c (W.cons (W.c ?_)))
  refine W.cons (W.un (W.bin (W.c (W.c ⟨_, pow_9, _, neg_9, ?_⟩))))
  refine W.cons (W.bin (W.c (W.c ⟨_, pow_9, ?_⟩)))
  refine W.cons (W.draw rfl (W.nil ⟨11, _, n, p, value_draws, rfl, hp, by omega, ?_⟩))
  intro v1 o1 a1 P1
  refine W.nil ⟨Nat.le_of_ble_eq_true rfl, W.draw rfl (W.cons (W.c (W.nil ⟨1, _, _, o1, take_draws (by decide) (by decide), rfl, P1, by omega, ?_⟩)))⟩
  rintro _ o ⟨i, rfl, i0, i1⟩ P
  obtain ⟨x, ex, hx⟩ := atI_mem (ds := [D.non, .str "key", .int (-1000000000), .int 1000000000, v1]) 5 rfl i0 i1
  refine ⟨x, ex, x, o, rfl, rfl, P.mono (by omega), ?_⟩
  simp only [List.mem_cons, List.not_mem_nil, or_false] at hx
  rcases hx with rfl | rfl | rfl | rfl | rfl
  · exact okd.non
  · exact okd.str
  · exact okd.int
  · exact okd.int
  · exact a1.okd
theorem dr_k : Draws F__law_part [.str "k"] 230 (okd 7) := draws_fn fun n p hp hn => by
  have v0 : startE 3 [p, .str "k"] = [some p, some (.str "k"), none] := rfl
  unfold mb__law_part
  rw [v0]
  refine W.pickF rfl q_kn ?_
  refine W.pickF rfl q_ki ?_
  refine W.pickF rfl q_kt ?_
  refine W.pickF rfl q_kv ?_
  refine W.pickF rfl q_kc ?_
  refine W.seq (W.set (W.bin (W.c (W.var rfl ⟨_, ix_k, rfl, ?_⟩))))
  show W _ [some p, some (.str "k"), some (.int 1000000000)] _
  refine W.ret (W.bin (W.lst ?_))
  refine W.cons (W.c (W.cons (W.var rfl ?_)))
  refine W.cons (W.draw rfl ?_)
  refine W.cons (W.bin (W.var rfl (W.c ⟨.int 1000000001, rfl, ?_⟩)))
  refine W.nil ⟨1, _, n, p, take_draws (by decide) (by decide), rfl, hp, by omega, ?_⟩
  rintro _ o1 ⟨r, rfl, r0, r1⟩ P1
  refine W.nil ⟨Nat.le_of_ble_eq_true rfl, W.draw rfl (W.cons (W.c (W.nil ⟨1, _, _, o1, take_draws (by decide) (by decide), rfl, P1, by omega, ?_⟩)))⟩
  rintro _ o ⟨i, rfl, i0, i1⟩ P
  obtain ⟨x, ex, hx⟩ := atI_mem (ds := [D.int 0, .int 1000000000, .int r]) 3 rfl i0 i1
  refine ⟨x, ex, x, o, rfl, rfl, P.mono (by omega), ?_⟩
  simp only [List.mem_cons, List.not_mem_nil, or_false] at hx
  rcases hx with rfl | rfl | rfl <;> exact okd.int
theorem dr_h : Draws F__law_part [.str "h"] 230 (okd 7) := draws_fn fun n p hp hn => by
  have v0 : startE 3 [p, .str "h"] = [some p, some (.str "h"), none] := rfl
  unfold mb__law_part
  rw [v0]
  refine W.pickF rfl q_hn ?_
  refine W.pickF rfl q_hi ?_
  refine W.pickF rfl q_ht ?_
  refine W.pickF rfl q_hv ?_
  refine W.pickF rfl q_hc ?_
  refine W.seq (W.set (W.bin (W.c (W.var rfl ⟨_, ix_h, rfl, ?_⟩))))
  show W _ [some p, some (.str "h"), some (.int 7)] _
  refine W.ret (W.bin (W.lst ?_))
  refine W.cons (W.c (W.cons (W.var rfl ?_)))
  refine W.cons (W.draw rfl ?_)
  refine W.cons (W.bin (W.var rfl (W.c ⟨.int 8, rfl, ?_⟩)))
  refine W.nil ⟨1, _, n, p, take_draws (by decide) (by decide), rfl, hp, by omega, ?_⟩
  rintro _ o1 ⟨r, rfl, r0, r1⟩ P1
  refine W.nil ⟨Nat.le_of_ble_eq_true rfl, W.draw rfl (W.cons (W.c (W.nil ⟨1, _, _, o1, take_draws (by decide) (by decide), rfl, P1, by omega, ?_⟩)))⟩
  rintro _ o ⟨i, rfl, i0, i1⟩ P
  obtain ⟨x, ex, hx⟩ := atI_mem (ds := [D.int 0, .int 7, .int r]) 3 rfl i0 i1
  refine ⟨x, ex, x, o, rfl, rfl, P.mono (by omega), ?_⟩
  simp only [List.mem_cons, List.not_mem_nil, or_false] at hx
  rcases hx with rfl | rfl | rfl <;> exact okd.int
theorem dr_m : Draws F__law_part [.str "m"] 230 (okd 7) := draws_fn fun n p hp hn => by
  have v0 : startE 3 [p, .str "m"] = [some p, some (.str "m"), none] := rfl
  unfold mb__law_part
  rw [v0]
  refine W.pickF rfl q_mn ?_
  refine W.pickF rfl q_mi ?_
  refine W.pickF rfl q_mt ?_
  refine W.pickF rfl q_mv ?_
  refine W.pickF rfl q_mc ?_
  refine W.seq (W.set (W.bin (W.c (W.var rfl ⟨_, ix_m, rfl, ?_⟩))))
  show W _ [some p, some (.str "m"), some (.int 1000000)] _
  refine W.ret (W.bin (W.lst ?_))
  refine W.cons (W.c (W.cons (W.var rfl ?_)))
  refine W.cons (W.draw rfl ?_)
  refine W.cons (W.bin (W.var rfl (W.c ⟨.int 1000001, rfl, ?_⟩)))
  refine W.nil ⟨1, _, n, p, take_draws (by decide) (by decide), rfl, hp, by omega, ?_⟩
  rintro _ o1 ⟨r, rfl, r0, r1⟩ P1
  refine W.nil ⟨Nat.le_of_ble_eq_true rfl, W.draw rfl (W.cons (W.c (W.nil ⟨1, _, _, o1, take_draws (by decide) (by decide), rfl, P1, by omega, ?_⟩)))⟩
  rintro _ o ⟨i, rfl, i0, i1⟩ P
  obtain ⟨x, ex, hx⟩ := atI_mem (ds := [D.int 0, .int 1000000, .int r]) 3 rfl i0 i1
  refine ⟨x, ex, x, o, rfl, rfl, P.mono (by omega), ?_⟩
  simp only [List.mem_cons, List.not_mem_nil, or_false] at hx
  rcases hx with rfl | rfl | rfl <;> exact okd.int
theorem part_draws {c : Nat} (hc : c ∈ codes) : Draws F__law_part [.str (oneS c)] 230 (okd 7) := by
  unfold codes at hc
  simp only [List.mem_cons, List.not_mem_nil, or_false] at hc
  rcases hc with rfl | rfl | rfl | rfl | rfl | rfl | rfl | rfl
  · exact dr_n
  · exact dr_i
  · exact dr_t
  · exact dr_v
  · exact dr_c
  · exact dr_k
  · exact dr_h
  · exact dr_m
theorem good_draws {z sg : Str} (hz : dIxK (.dct formK formV) (.str z) = some (.str sg)) (hs : sg.cps.toList.length ≤ 4) (hcs : ∀ c ∈ sg.cps.toList, c ∈ codes) : Draws F__law_good [.str z] 1000 fun d => okd 8 d ∧ ∃ r, d = .tup r ∧ r ≠ [] := draws_fn fun n p hp hn => by
  have v0 : startE 3 [p, .str z] = [some p, some (.str z), none] := rfl
  unfold mb__law_good
  rw [v0]
  refine W.ret (W.bin (W.tup (W.cons (W.var rfl (W.nil ⟨Nat.le_of_ble_eq_true rfl, W.fn (W.cons (W.compS (fun j ρ => ∃ o, ρ = [some o, some (.str z), none] ∧ isPot (n + 230 * j) o) (okd 7) ?_))⟩)))))
  refine W.bind (W.bin (W.call0 (o := .non) (d := .dct formK formV) rfl (W.var rfl ⟨_, hz, W.pure ?_⟩)))
  refine ⟨?_, ⟨p, rfl, hp.mono (by omega)⟩, ?_, ?_⟩
  · rw [List.length_map]
    have : (maxL : Nat) = 1000000 := rfl
    omega
  · rintro j d ρ hj ⟨o, rfl, P⟩
    have hj3 : j < 4 := by
      have := (List.getElem?_eq_some_iff.mp hj).1
      rw [List.length_map] at this
      omega
    obtain ⟨c, hc, rfl⟩ := List.mem_map.mp (List.mem_of_getElem? hj)
    refine ⟨[some o, some (.str z), some (.str (oneS c))], rfl, W.draw rfl (W.cons (W.var rfl (W.nil ⟨230, _, _, o, part_draws (hcs c hc), rfl, P, by omega, ?_⟩)))⟩
    intro d o2 hd P2
    exact ⟨hd, o2, rfl, P2.mono (by omega)⟩
  · rintro xs ρ2 hl hR ⟨o, rfl, P⟩
    rw [List.length_map] at hl P
    refine W.nil ⟨_, rfl, .tup (.str z :: xs), ?_, _, o, rfl, rfl, P.mono (by omega), ?_, _, rfl, List.cons_ne_nil _ _⟩
    · show (if ([.str z] : List D).length + xs.length ≤ maxL then some (D.tup ([.str z] ++ xs)) else none) = _
      rw [if_pos]
      · rfl
      · have : (maxL : Nat) = 1000000 := rfl
        rw [hl]
        show 1 + _ ≤ _
        omega
    · refine okd.tup (k := 7) (fun x hx => ?_) (by rw [List.length_cons]; omega)
      rcases List.mem_cons.mp hx with rfl | hx
      · exact okd.str
      · exact hR x hx
end K37
set_option maxHeartbeats 1000000
namespace K37
open PySem PySem.Spec PyProof.Rows L2 Bx
def oddsL : List D := [.non, .bl true, .bl false, .int 0, .int (-1), .int 8, .int 1000001, .int 1000000001, .int (-1000000001), .str "", .str "key", .str "ninesigns", .str "Ab", .str "a b", .str "number", .str "any", .tup [], .lst [], .dct [] [], .tup [.int 0, .str "a", .int 0], .lst [.str "a"], .tup [.str "a"], .tup [.int 0, .str "key", .int 0], .tup [.int 8, .str "a", .int 0], .tup [.bl true, .str "a", .int 0], .str "end"]
theorem odds_okd : ∀ d ∈ oddsL, okd 3 d := by
  unfold oddsL
  simp only [List.mem_cons, List.not_mem_nil, or_false]
  rintro d (rfl | rfl | rfl | rfl | rfl | rfl | rfl | rfl | rfl | rfl | rfl | rfl | rfl | rfl | rfl | rfl | rfl | rfl | rfl | rfl | rfl | rfl | rfl | rfl | rfl | rfl) <;> simp [okd, gd, gds, dep, deps, wid, wids]
theorem odds_ok : F__law_odds [] = some (.ok (.lst oddsL) .non) := by
  refine fn_rt ?_
  have v0 : startE 1 [] = [none] := rfl
  unfold mb__law_odds
  rw [v0]
  have n1 : dNeg (.int 1) = some (.int (-1)) := rfl
  have a1 : dAdd (.int 1000000) (.int 1) = some (.int 1000001) := rfl
  have a2 : dAdd (.int 1000000000) (.int 1) = some (.int 1000000001) := rfl
  have s1 : dSub (.int (-1000000000)) (.int 1) = some (.int (-1000000001)) := rfl
  repeat' first
    | refine W.seq ?_
    | refine W.set ?_
    | refine W.ret ?_
    | refine W.lst ?_
    | refine W.tup ?_
    | refine W.bin ?_
    | refine W.cons ?_
    | refine W.nil ?_
    | refine W.un ?_
    | refine W.c ?_
    | refine W.var (by rfl) ?_
    | refine ⟨Nat.le_of_ble_eq_true rfl, ?_⟩
    | refine ⟨rfl, ?_⟩
    | refine ⟨_, pow_9, ?_⟩
    | refine ⟨_, pow_6, ?_⟩
    | refine ⟨_, n1, ?_⟩
    | refine ⟨_, neg_9, ?_⟩
    | refine ⟨_, a1, ?_⟩
    | refine ⟨_, a2, ?_⟩
    | refine ⟨_, s1, ?_⟩
    | refine ⟨_, rfl, ?_⟩
    | rfl
    | fail
theorem cut_to {α : Type} {xs : List α} {a : Nat} (h : a ≤ xs.length) : cutL xs none (some (a : Int)) = xs.take a := by
  unfold cutL HT.sIx
  have : ¬ ((a : Int) < 0) := by omega
  simp only [if_neg this, List.drop_zero, Nat.sub_zero]
  rw [Int.toNat_natCast, Nat.min_eq_left h]
theorem cut_from {α : Type} {xs : List α} {a : Nat} (h : a ≤ xs.length) : cutL xs (some (a : Int)) none = xs.drop a := by
  unfold cutL HT.sIx
  have : ¬ ((a : Int) < 0) := by omega
  simp only [if_neg this]
  rw [Int.toNat_natCast, Nat.min_eq_left h, List.take_of_length_le (by rw [List.length_drop]; omega)]
theorem cut_one {α : Type} {xs : List α} {a : Nat} (h : a < xs.length) : cutL xs (some (a : Int)) (some ((a : Int) + 1)) = (xs.drop a).take 1 := by
  unfold cutL HT.sIx
  have h1 : ¬ ((a : Int) < 0) := by omega
  have h2 : ¬ ((a : Int) + 1 < 0) := by omega
  simp only [if_neg h1, if_neg h2]
  have e : ((a : Int) + 1).toNat = a + 1 := by omega
  rw [Int.toNat_natCast, Nat.min_eq_left (by omega), e, Nat.min_eq_left (by omega)]
  congr 1
  omega
theorem add_tup {xs ys : List D} (h : xs.length + ys.length ≤ 1000) : dAdd (.tup xs) (.tup ys) = some (.tup (xs ++ ys)) := if_pos (by have : (maxL : Nat) = 1000000 := rfl; omega)
theorem add_lst {xs ys : List D} (h : xs.length + ys.length ≤ 1000) : dAdd (.lst xs) (.lst ys) = some (.lst (xs ++ ys)) := if_pos (by have : (maxL : Nat) = 1000000 := rfl; omega)
section
variable {ds : List D} {a : Nat} (h : a < ds.length) (hl : ds.length ≤ 100) {K : Nat} (hd : ∀ x ∈ ds, okd K x) (hk : ds.length ≤ K)
include h hl hd hk
theorem mk_in {x : D} (hx : okd K x) : ∃ t, dAdd (.tup (ds.take a)) (.tup [x]) = some t ∧ ∃ u, dAdd t (.tup (ds.drop (a + 1))) = some u ∧ okd (K + 1) u := by
  refine ⟨_, add_tup (by rw [List.length_take]; simp; omega), _, add_tup (by simp; omega), okd.tup (fun y hy => ?_) (by simp; omega)⟩
  rcases List.mem_append.mp hy with hy | hy
  · rcases List.mem_append.mp hy with hy | hy
    · exact hd y (List.mem_of_mem_take hy)
    · simp only [List.mem_singleton] at hy; subst hy; exact hx
  · exact hd y (List.mem_of_mem_drop hy)
theorem mk_out : ∃ u, dAdd (.tup (ds.take a)) (.tup (ds.drop (a + 1))) = some u ∧ okd (K + 1) u := by
  refine ⟨_, add_tup (by simp; omega), okd.tup (fun y hy => ?_) (by simp; omega)⟩
  rcases List.mem_append.mp hy with hy | hy
  · exact hd y (List.mem_of_mem_take hy)
  · exact hd y (List.mem_of_mem_drop hy)
theorem mk_twice : ∃ t, dAdd (.tup (ds.take a)) (.tup ((ds.drop a).take 1)) = some t ∧ ∃ u, dAdd t (.tup (ds.drop a)) = some u ∧ okd (K + 1) u := by
  refine ⟨_, add_tup (by simp; omega), _, add_tup (by simp; omega), okd.tup (fun y hy => ?_) (by simp; omega)⟩
  rcases List.mem_append.mp hy with hy | hy
  · rcases List.mem_append.mp hy with hy | hy
    · exact hd y (List.mem_of_mem_take hy)
    · exact hd y (List.mem_of_mem_drop (List.mem_of_mem_take hy))
  · exact hd y (List.mem_of_mem_drop hy)
omit h in
theorem mk_more {x : D} (hx : okd K x) : ∃ u, dAdd (.tup ds) (.tup [x]) = some u ∧ okd (K + 1) u := by
  refine ⟨_, add_tup (by simp; omega), okd.tup (fun y hy => ?_) (by simp; omega)⟩
  rcases List.mem_append.mp hy with hy | hy
  · exact hd y hy
  · simp only [List.mem_singleton] at hy; subst hy; exact hx
end
theorem bent_draws : ∀ (m f k : Nat) (d : D), m < f → okd k d → k + m ≤ 40 → Draws (F__law_bent f) [d, .int m] (10 * (m + 1)) (okd (k + m + 4))
  | _, 0, _, _, h, _, _ => by omega
  | m, f + 1, k, d, hf, hd, hk => by
    rw [F__law_bent_succ]
    refine draws_fn fun n p hp hn => ?_
    have v0 : startE 11 [p, d, .int m] = [some p, some d, some (.int m), none, none, none, none, none, none, none, none] := rfl
    unfold mb__law_bent
    rw [v0]
    refine W.seq (W.set (W.call0 odds_ok ⟨rfl, ?_⟩))
    show W _ [some p, some d, some (.int m), some (.lst oddsL), none, none, none, none, none, none, none] _
    have lenO : dLen [.lst oddsL] = some (.int 26) := rfl
    refine W.seq (W.set (W.bin (W.var rfl (W.draw rfl (W.cons (W.fn (W.cons (W.var rfl (W.nil ⟨.int 26, lenO, W.nil ⟨1, _, n, p, take_draws (by decide) (by decide), rfl, hp, by omega, ?_⟩⟩)))))))))
    rintro _ o ⟨i, rfl, i0, i1⟩ P1
    obtain ⟨odd, eo, ho⟩ := atI_mem (ds := oddsL) 26 rfl i0 i1
    have okO := odds_okd odd ho
    refine ⟨odd, eo, rfl, ?_⟩
    show W _ [some o, some d, some (.int m), some (.lst oddsL), some odd, none, none, none, none, none, none] _
    have hi := isi_of (T := "tuple") (gd_e hd.1)
    have stop : ∀ (b : Bool), b = false → dIsi "tuple" d = some (.bl b) ∨ (b = false ∧ dIsi "tuple" d = some (.bl true) ∧ dEq d (.tup []) = some (.bl true)) → ∀ m2 : M Fl, W (sSeq (mIf (mOr (mNot (mB (mUn (dIsi "tuple") (mVar 1)))) (mB (mBin dEq (mVar 1) (mTup mNil)))) (sRet (mVar 4)) sPass) m2) [some o, some d, some (.int m), some (.lst oddsL), some odd, none, none, none, none, none, none] fun f ρ => ∃ d o, f = .rt d ∧ ρ[0]? = some (some o) ∧ isPot (n + (10 * ((m : Int) + 1))) o ∧ okd (k + m + 4) d := by
      intro b hb h m2
      refine W.seqC (W.ite (W.or (W.not (W.b (W.un (W.var rfl ?_))))))
      have fin : W (sRet (mVar 4)) [some o, some d, some (.int m), some (.lst oddsL), some odd, none, none, none, none, none, none] (fun f ρ1 => match f with | .nx => W m2 ρ1 fun f ρ => ∃ d o, f = .rt d ∧ ρ[0]? = some (some o) ∧ isPot (n + (10 * ((m : Int) + 1))) o ∧ okd (k + m + 4) d | f => ∃ d o, f = .rt d ∧ ρ1[0]? = some (some o) ∧ isPot (n + (10 * ((m : Int) + 1))) o ∧ okd (k + m + 4) d) := W.ret (W.var rfl ⟨_, o, rfl, rfl, P1.mono (by omega), okO.mono (by omega)⟩)
      rcases h with h | ⟨_, h, h2⟩
      · subst hb
        exact ⟨_, h, _, rfl, fin⟩
      · refine ⟨_, h, _, rfl, ?_⟩
        exact W.b (W.bin (W.var rfl (W.tup (W.nil ⟨Nat.le_of_ble_eq_true rfl, _, h2, _, rfl, fin⟩))))
    cases d with
    | tup ds =>
      cases hds : ds with
      | nil =>
        subst hds
        refine stop false rfl (.inr ⟨rfl, hi, ?_⟩) _
        unfold dEq; exact if_pos ⟨rfl, by decide⟩
      | cons x0 r0 =>
        have hne : dEq (.tup ds) (.tup []) = some (.bl false) := by
          unfold dEq
          rw [if_pos ⟨by rw [hds]; rfl, Nat.le_trans hd.2.1 (by omega)⟩, hds]; rfl
        have hlen : 0 < ds.length := by rw [hds]; simp
        rw [← hds]
        clear stop hds
        have hlk := hd.len
        have hmem : ∀ x ∈ ds, okd (k + m + 3) x := fun x hx => (hd.mem hx).mono (by omega)
        have okO2 : okd (k + m + 3) odd := okO.mono (by omega)
        refine W.seqC (W.ite (W.or (W.not (W.b (W.un (W.var rfl ⟨_, hi, true, rfl, ?_⟩))))))
        refine W.b (W.bin (W.var rfl (W.tup (W.nil ⟨Nat.le_of_ble_eq_true rfl, _, hne, _, rfl, W.pass ?_⟩))))
        refine W.seq (W.set (W.draw rfl (W.cons (W.c (W.nil ⟨1, _, _, o, take_draws (by decide) (by decide), rfl, P1, by omega, ?_⟩)))))
        rintro _ o2 ⟨way, rfl, w0, w1⟩ P2
        refine ⟨rfl, ?_⟩
        show W _ [some o2, some (.tup ds), some (.int m), some (.lst oddsL), some odd, some (.int way), none, none, none, none, none] _
        have hl := len_tup ds
        refine W.seq (W.par (W.draw rfl (W.cons (W.fn (W.cons (W.var rfl (W.nil ⟨_, hl, W.nil ⟨1, _, _, o2, take_draws (by omega) (by omega), rfl, P2, by omega, ?_⟩⟩)))))))
        rintro _ o3 ⟨at', rfl, a0, a1⟩ P3
        refine W.draw rfl (W.cons (W.fn (W.cons (W.var rfl (W.nil ⟨_, hl, W.nil ⟨1, _, _, o3, take_draws (by omega) (by omega), rfl, P3, by omega, ?_⟩⟩)))))
        rintro _ o4 ⟨to', rfl, t0, t1⟩ P4
        obtain ⟨a, rfl⟩ := Int.eq_ofNat_of_zero_le a0
        have ha : a < ds.length := by omega
        refine ⟨rfl, ?_⟩
        show W _ [some o4, some (.tup ds), some (.int m), some (.lst oddsL), some odd, some (.int way), some (.int a), some (.int to'), none, none, none] _
        have c1 : dSl (.tup ds) none (some (a : Int)) = some (.tup (ds.take a)) := by
          show some (D.tup (cutL ds none (some (a : Int)))) = _
          rw [cut_to (by omega)]
        have c2 : dSl (.tup ds) (some ((a : Int) + 1)) none = some (.tup (ds.drop (a + 1))) := by
          show some (D.tup (cutL ds (some ((a : Int) + 1)) none)) = _
          have := cut_from (xs := ds) (a := a + 1) (by omega)
          rw [Int.natCast_add] at this
          exact congrArg (fun x => some (D.tup x)) this
        have c3 : dSl (.tup ds) (some (a : Int)) (some ((a : Int) + 1)) = some (.tup ((ds.drop a).take 1)) := by
          show some (D.tup (cutL ds (some (a : Int)) (some ((a : Int) + 1)))) = _
          rw [cut_one ha]
        have c4 : dSl (.tup ds) (some (a : Int)) none = some (.tup (ds.drop a)) := by
          show some (D.tup (cutL ds (some (a : Int)) none)) = _
          rw [cut_from (by omega)]
        have ad : dAdd (.int (a : Int)) (.int 1) = some (.int ((a : Int) + 1)) := rfl
        refine W.seqC (W.ite (W.b (W.bin (W.var rfl (W.c ⟨_, lt_int _ _, _, rfl, ?_⟩)))))
        split
        · refine W.seqC (W.set (W.imp (Q := fun inner ρ1 => ∃ o5, ρ1 = [some o5, some (.tup ds), some (.int m), some (.lst oddsL), some odd, some (.int way), some (.int a), some (.int to'), none, none, none] ∧ isPot (n + (10 * ((m : Int) + 1))) o5 ∧ okd (k + m + 3) inner) ?_ ?_))
          · refine W.ite (W.b (W.bin (W.var rfl (W.c ⟨_, dGt_int _ _, _, rfl, ?_⟩))))
            match m, hf, hk, hn, P4, okO2 with
            | 0, _, _, _, P4, okO2 => exact W.var rfl ⟨o4, rfl, P4.mono (by omega), okO2⟩
            | m + 1, hf, hk, hn, P4, okO2 =>
              rw [decide_eq_true (by omega), if_pos rfl]
              obtain ⟨x, ex, hx⟩ := atI_mem (ds := ds) ds.length rfl a0 (by omega)
              have ih := bent_draws m f k x (by omega) (hd.mem hx) (by omega)
              have em : dSub (.int ((m + 1 : Nat) : Int)) (.int 1) = some (.int (m : Int)) := by
                show some (D.int (((m + 1 : Nat) : Int) - 1)) = _
                congr 2
                omega
              refine W.draw rfl (W.cons (W.bin (W.var rfl (W.var rfl ⟨x, ex, W.cons (W.bin (W.var rfl (W.c ⟨_, em, W.nil ⟨_, _, _, o4, ih, rfl, P4, by omega, ?_⟩⟩)))⟩))))
              intro inner o5 hi5 P5
              exact ⟨o5, rfl, P5.mono (by omega), hi5.mono (by omega)⟩
          · rintro inner ρ1 ⟨o5, rfl, P5, hin⟩
            show W _ [some o5, some (.tup ds), some (.int m), some (.lst oddsL), some odd, some (.int way), some (.int a), some (.int to'), some inner, none, none] _
            obtain ⟨t, et, u, eu, hu⟩ := mk_in ha (by omega) hmem (by omega) hin
            refine W.ret (W.bin (W.bin (W.sl (W.var rfl (W.noneI (W.someI (W.var rfl ⟨_, rfl, _, c1, ?_⟩)))))))
            refine W.tup (W.cons (W.var rfl (W.nil ⟨Nat.le_of_ble_eq_true rfl, t, et, ?_⟩)))
            refine W.sl (W.var rfl (W.someI (W.bin (W.var rfl (W.c ⟨_, ad, _, rfl, W.noneI ⟨_, c2, u, eu, ?_⟩⟩)))))
            exact ⟨u, o5, rfl, rfl, P5, hu⟩
        · rename_i hw
          have hw2 : ¬ way < 4 := fun z => hw (decide_eq_true z)
          refine W.pass ?_
          have dl : dList [.tup ds] = some (.lst ds) := rfl
          refine W.seq (W.set (W.fn (W.cons (W.var rfl (W.nil ⟨_, dl, rfl, ?_⟩)))))
          show W _ [some o4, some (.tup ds), some (.int m), some (.lst oddsL), some odd, some (.int way), some (.int a), some (.int to'), none, some (.lst ds), none] _
          refine W.seq (W.swap rfl rfl rfl a0 (by omega) t0 (by omega) fun es el em => ⟨rfl, ?_⟩)
          show W _ [some o4, some (.tup ds), some (.int m), some (.lst oddsL), some odd, some (.int way), some (.int a), some (.int to'), none, some (.lst es), none] _
          obtain ⟨t1', et1, u1, eu1, hu1⟩ := mk_in ha (by omega) hmem (by omega) okO2
          obtain ⟨u2, eu2, hu2⟩ := mk_out ha (by omega) hmem (by omega)
          obtain ⟨t3, et3, u3, eu3, hu3⟩ := mk_twice ha (by omega) hmem (by omega)
          have hu4 : okd (k + m + 3 + 1) (.tup es) := okd.tup (fun x hx => hmem x (em x hx)) (by omega)
          obtain ⟨u5, eu5, hu5⟩ := mk_more (by omega) hmem (by omega) okO2
          have hu6 : okd (k + m + 3 + 1) (.lst ds) := okd.lst hmem (by omega)
          refine W.seq (W.set (W.lst ?_))
          refine W.cons (W.bin (W.bin (W.sl (W.var rfl (W.noneI (W.someI (W.var rfl ⟨_, rfl, _, c1, ?_⟩)))))))
          refine W.tup (W.cons (W.var rfl (W.nil ⟨Nat.le_of_ble_eq_true rfl, t1', et1, ?_⟩)))
          refine W.sl (W.var rfl (W.someI (W.bin (W.var rfl (W.c ⟨_, ad, _, rfl, W.noneI ⟨_, c2, u1, eu1, ?_⟩⟩)))))
          refine W.cons (W.bin (W.sl (W.var rfl (W.noneI (W.someI (W.var rfl ⟨_, rfl, _, c1, ?_⟩))))))
          refine W.sl (W.var rfl (W.someI (W.bin (W.var rfl (W.c ⟨_, ad, _, rfl, W.noneI ⟨_, c2, u2, eu2, ?_⟩⟩)))))
          refine W.nil ⟨Nat.le_of_ble_eq_true rfl, rfl, ?_⟩
          show W _ [some o4, some (.tup ds), some (.int m), some (.lst oddsL), some odd, some (.int way), some (.int a), some (.int to'), none, some (.lst es), some (.lst [u1, u2])] _
          refine W.seq (W.set (W.bin (W.var rfl (W.lst ?_))))
          refine W.cons (W.bin (W.bin (W.sl (W.var rfl (W.noneI (W.someI (W.var rfl ⟨_, rfl, _, c1, ?_⟩)))))))
          refine W.sl (W.var rfl (W.someI (W.var rfl ⟨_, rfl, W.someI (W.bin (W.var rfl (W.c ⟨_, ad, _, rfl, _, c3, t3, et3, ?_⟩)))⟩)))
          refine W.sl (W.var rfl (W.someI (W.var rfl ⟨_, rfl, W.noneI ⟨_, c4, u3, eu3, ?_⟩⟩)))
          refine W.cons (W.ownTuple rfl (W.nil ⟨Nat.le_of_ble_eq_true rfl, _, add_lst (by simp), rfl, ?_⟩))
          show W _ [some o4, some (.tup ds), some (.int m), some (.lst oddsL), some odd, some (.int way), some (.int a), some (.int to'), none, some (.lst es), some (.lst [u1, u2, u3, .tup es])] _
          refine W.ret (W.bin (W.bin (W.var rfl (W.lst (W.cons (W.bin (W.lst ?_)))))))
          refine W.cons (W.fn (W.cons (W.var rfl (W.nil ⟨_, dl, ?_⟩))))
          refine W.cons (W.bin (W.var rfl (W.tup (W.cons (W.var rfl (W.nil ⟨Nat.le_of_ble_eq_true rfl, u5, eu5, ?_⟩))))))
          refine W.nil ⟨Nat.le_of_ble_eq_true rfl, W.draw rfl (W.cons (W.c (W.nil ⟨1, _, _, o4, take_draws (by decide) (by decide), rfl, P4, by omega, ?_⟩)))⟩
          rintro _ o5 ⟨q, rfl, q0, q1⟩ P5
          obtain ⟨last, el2, hl2⟩ := atI_mem (ds := [D.lst ds, u5]) 2 rfl q0 q1
          have hlast : okd (k + m + 3 + 1) last := by
            simp only [List.mem_cons, List.not_mem_nil, or_false] at hl2
            rcases hl2 with rfl | rfl
            · exact hu6
            · exact hu5
          refine ⟨last, el2, W.nil ⟨Nat.le_of_ble_eq_true rfl, _, add_lst (by simp), ?_⟩⟩
          obtain ⟨res, er, hr⟩ := atI_mem (ds := [u1, u2, u3, .tup es] ++ [last]) 5 rfl (r := way - 4) (by omega) (by omega)
          have sb : dSub (.int way) (.int 4) = some (.int (way - 4)) := rfl
          refine W.bin (W.var rfl (W.c ⟨_, sb, res, er, res, o5, rfl, rfl, P5.mono (by omega), ?_⟩))
          simp only [List.cons_append, List.nil_append, List.mem_cons, List.not_mem_nil, or_false] at hr
          rcases hr with rfl | rfl | rfl | rfl | rfl
          · exact hu1
          · exact hu2
          · exact hu3
          · exact hu4
          · exact hlast
    | _ => exact stop false rfl (.inl hi) _
end K37
set_option maxHeartbeats 0
namespace K37
open PySem PySem.Spec PyProof.Rows L2 Bx
section
variable {P : Program} {w : World} {K : PySem.W.Frag} {mg : Str → Option Value} {base : Heap}
noncomputable def mb_law : M Fl := (sSeq (sSet 1 (mFn dListK (mCons (mCall0 F__law_forms) mNil))) (sSeq (sFor (bName 2) (mRange (mCons (mFn dMax2 (mCons (mC (.int 2)) (mCons (mFn dMin2 (mCons (mC (.int 16)) (mCons (mFn dLen (mCons (mVar 0) mNil)) mNil))) mNil))) mNil)) (sSeq (sSet 3 (mFn dPot (mCons (mVar 0) (mCons (mVar 2) mNil)))) (sFor (bName 4) (mSeq (mVar 1)) (sSeq (sSet 5 (mCallO F__law_good 3 (mCons (mVar 4) mNil))) (sSeq (sSet 6 (mBin dAdd (mTup (mCons (mBin dIx (mVar 1) (mCallO takeF 3 (mCons (mC (.int 11)) mNil))) mNil)) (mSl dSl (mVar 5) (mSome (mC (.int 1))) mNone))) (sSeq (sSet 7 (mCall0 F__law_odds)) (sFor (bName 8) (mSeq (mTup (mCons (mVar 5) (mCons (mCallO (F__law_bent 5) 3 (mCons (mVar 5) (mCons (mC (.int 3)) mNil))) (mCons (mVar 6) (mCons (mBin dIx (mVar 7) (mCallO takeF 3 (mCons (mFn dLen (mCons (mVar 7) mNil)) mNil))) mNil)))))) (sSeq (sSet 9 (mCall F_is_deed (mCons (mVar 8) mNil))) (mIf (mOr (mNot (mB (mUn (dIsi "bool") (mVar 9)))) (mB (mBin dNe2 (mVar 9) (mCall F__law_due (mCons (mVar 8) mNil))))) (sRet (mC (.bl false))) sPass))))))))) (sRet (mC (.bl true)))))
noncomputable def F_law : List D → Option FR := fnOf 10 none mb_law
theorem body_law (T : Txt K mg) (cdv : Value) (A : Around) (outer : List PySem.Env) (s : Shared) (H : Hp) (E : XK) (pa : Addr) (A2 : Ad) {k : Nat} (hr : Room (k + 9) (A.deeper (envOfC "law" (defScope s_law) s.heap.objs.size T.f_law cdv))) : ∃ t, DSs (cxOf CX0 P w K mg base N_law "law" (defScope s_law) T.f_law cdv A outer s H E).nox (czOf (UU P w K T) [3] none pa A2 H E) (defBody s_law) t mb_law := ⟨_, (dss_cons (ds_set (i := 1) sc_law.nd rfl (Or.inl rfl) (de_callTy (o_listK rfl) (by rfl) T.n_list (by decide +kernel) (da_cons (de_call0 (ok__law_forms T) hr (by rfl) T.g__law_forms T.F__law_forms.kp T.b__law_forms) da_nil))) (dss_cons (ds_for (vs := [2]) PassesOwn.never rfl (di_range1 (by rfl) T.n_range (de_callB (o_max2 rfl) (by rfl) T.n_max (by decide +kernel) (da_cons de_int (da_cons (de_callB (o_min2 rfl) (by rfl) T.n_min (by decide +kernel) (da_cons de_int (da_cons (de_callB (o_len ⟨rfl, rfl, rfl⟩) (by rfl) T.n_len (by decide +kernel) (da_cons (de_var (i := 0)) da_nil)) da_nil))) da_nil)))) (dg_name (i := 2) sc_law.nd rfl (Or.inl rfl) (of_decide_eq_false rfl) (by decide)) (dss_cons (ds_setF (i := 3) sc_law.nd rfl (Or.inl rfl) (df_pot (ok__law_pot T) hr (by rfl) T.g__law_pot T.F__law_pot.kp T.b__law_pot (da_cons (de_var (i := 0)) (da_cons (de_var (i := 2)) da_nil))) (nio rfl)) (dss_one (ds_for (vs := [4]) PassesOwn.never rfl (di_seq (de_var (i := 1))) (dg_name (i := 4) sc_law.nd rfl (Or.inl rfl) (of_decide_eq_false rfl) (by decide)) (dss_cons (ds_set (i := 5) sc_law.nd rfl (Or.inl rfl) (de_callO (i := 3) (ok__law_good T) hr (by rfl) T.g__law_good T.F__law_good.kp T.b__law_good (da_cons (de_var (i := 4)) da_nil) (many_cons many_nil))) (dss_cons (ds_set (i := 6) sc_law.nd rfl (Or.inl rfl) (de_op o_add (de_tup (da_cons (de_ix (o_ix ⟨rfl, rfl, rfl⟩) (de_var (i := 1)) (de_callO (i := 3) (take_ok T _) hr (by rfl) T.g__law_take T.F__law_take.kp T.b__law_take (da_cons de_int da_nil) (many_cons many_nil)) (fun _ _ => rfl)) da_nil)) (de_sl (o_sl ⟨rfl, rfl, rfl⟩) (de_var (i := 5)) (do_some de_int) do_none))) (dss_cons (ds_set (i := 7) sc_law.nd rfl (Or.inl rfl) (de_call0 (ok__law_odds T) hr (by rfl) T.g__law_odds T.F__law_odds.kp T.b__law_odds)) (dss_one (ds_for (vs := [8]) PassesOwn.never rfl (di_seq (de_tup (da_cons (de_var (i := 5)) (da_cons (de_callO (i := 3) (ok__law_bent T 5) hr (by rfl) T.g__law_bent T.F__law_bent.kp T.b__law_bent (da_cons (de_var (i := 5)) (da_cons de_int da_nil)) (many_cons (many_cons many_nil))) (da_cons (de_var (i := 6)) (da_cons (de_ix (o_ix ⟨rfl, rfl, rfl⟩) (de_var (i := 7)) (de_callO (i := 3) (take_ok T _) hr (by rfl) T.g__law_take T.F__law_take.kp T.b__law_take (da_cons (de_callB (o_len ⟨rfl, rfl, rfl⟩) (by rfl) T.n_len (by decide +kernel) (da_cons (de_var (i := 7)) da_nil)) da_nil) (many_cons many_nil)) (fun _ _ => rfl)) da_nil)))))) (dg_name (i := 8) sc_law.nd rfl (Or.inl rfl) (of_decide_eq_false rfl) (by decide)) (dss_cons (ds_set (i := 9) sc_law.nd rfl (Or.inl rfl) (de_call (ok_is_deed T) hr (by rfl) T.g_is_deed T.F_is_deed.kp T.b_is_deed (da_cons (de_var (i := 8)) da_nil) (many_cons many_nil))) (dss_one (ds_if (dt_w (dw_or (dt_not (dt_val (de_isi (Ts := "bool") ⟨rfl, rfl, rfl⟩ (by rfl) T.n_isinstance (de_var (i := 9)) (by unfold okT; decide) (by rfl) T.n_bool (by decide +kernel)))) (dw_or1 (dt_cmp (o_ne (room200 hr)) (de_var (i := 9)) (de_call (ok__law_due T) hr (by rfl) T.g__law_due T.F__law_due.kp T.b__law_due (da_cons (de_var (i := 8)) da_nil) (many_cons many_nil)) (nomark _))))) (dss_one (ds_ret de_bl)) dss_nil)))))))))))) (dss_one (ds_ret de_bl))))⟩
theorem ok_law {k : Nat} (T : Txt K mg) : FnOk P w K mg base CX0 (k + 10) T.f_law T.d_law ["script"] (spF (UU P w K T) none 1 F_law) := by
  have h := fn_data (P := P) (w := w) (K := K) (mg := mg) (base := base) (N := N_law) (ps := ["script"]) (own := [3]) (io := none) (mb := mb_law) (U := (UU P w K T)) (k := k + 9) T.F_law sc_law (by decide) (by decide) (fun j hj => nomatch hj) fun cdv A outer s H E hr => fun pa A2 => body_law T cdv A outer s H E pa A2 hr
  exact h
end
end K37
set_option maxHeartbeats 1000000
namespace K37
open PySem PySem.Spec PyProof.Rows L2 Bx
theorem words_ok : ∀ d ∈ formK, ∃ z sg, d = .str z ∧ dIxK (.dct formK formV) (.str z) = some (.str sg) ∧ sg.cps.toList.length ≤ 4 ∧ ∀ c ∈ sg.cps.toList, c ∈ codes := by
  intro d hd
  unfold formK at hd
  simp only [List.mem_cons, List.not_mem_nil, or_false] at hd
  rcases hd with rfl | rfl | rfl | rfl | rfl | rfl | rfl | rfl | rfl | rfl | rfl
  · exact ⟨_, _, rfl, val_table, by decide +kernel, by decide +kernel⟩
  · exact ⟨_, _, rfl, val_column, by decide +kernel, by decide +kernel⟩
  · exact ⟨_, _, rfl, val_call, by decide +kernel, by decide +kernel⟩
  · exact ⟨_, _, rfl, val_kind, by decide +kernel, by decide +kernel⟩
  · exact ⟨_, _, rfl, val_else, by decide +kernel, by decide +kernel⟩
  · exact ⟨_, _, rfl, val_put, by decide +kernel, by decide +kernel⟩
  · exact ⟨_, _, rfl, val_blank, by decide +kernel, by decide +kernel⟩
  · exact ⟨_, _, rfl, val_drop, by decide +kernel, by decide +kernel⟩
  · exact ⟨_, _, rfl, val_leave, by decide +kernel, by decide +kernel⟩
  · exact ⟨_, _, rfl, val_end, by decide +kernel, by decide +kernel⟩
  · exact ⟨_, _, rfl, val_undo, by decide +kernel, by decide +kernel⟩
theorem ne_bl (b : Bool) : dNe2 (.bl b) (.bl b) = some (.bl false) := by
  unfold dNe2
  rw [if_pos ⟨rfl, rfl, Nat.zero_le _, Nat.zero_le _⟩]
  cases b <;> rfl
theorem law_W (ns : List Int) (hl : ns.length ≤ 63) : W mb_law (startE 10 [.lst (ns.map .int)]) fun f _ => f = .rt (.bl true) := by
  have v0 : startE 10 [.lst (ns.map D.int)] = [some (.lst (ns.map .int)), none, none, none, none, none, none, none, none, none] := rfl
  unfold mb_law
  rw [v0]
  have lk : dListK [.dct formK formV] = some (.lst formK) := rfl
  refine W.seq (W.set (W.fn (W.cons (W.call0 (o := .non) (d := .dct formK formV) rfl (W.nil ⟨_, lk, rfl, ?_⟩)))))
  show W _ [some (.lst (ns.map .int)), some (.lst formK), none, none, none, none, none, none, none, none] _
  generalize hS : (D.lst (ns.map .int)) = S
  have hlen : dLen [S] = some (.int ns.length) := by
    rw [← hS]
    show some (D.int ((ns.map D.int).length : Nat)) = _
    rw [List.length_map]
  refine W.seq (W.for' (fun _ ρ => ∃ x2 x3 x4 x5 x6 x7 x8 x9, ρ = [some S, some (.lst formK), x2, x3, x4, x5, x6, x7, x8, x9]) ?_)
  refine W.range1 ?_
  refine W.cons (W.fn ?_)
  refine W.cons (W.c ?_)
  refine W.cons (W.fn ?_)
  refine W.cons (W.c ?_)
  refine W.cons (W.fn (W.cons (W.var rfl (W.nil ⟨_, hlen, ?_⟩))))
  refine W.nil ⟨_, rfl, ?_⟩
  refine W.nil ⟨_, rfl, ?_⟩
  refine W.nil ?_
  have hN : ∃ N : Int, (if (if (ns.length : Int) < 16 then (ns.length : Int) else 16) > 2 then (if (ns.length : Int) < 16 then (ns.length : Int) else 16) else 2) = N ∧ 0 ≤ N ∧ N ≤ 16 := ⟨_, rfl, by split <;> split <;> omega, by split <;> split <;> omega⟩
  obtain ⟨N, eN, N0, N1⟩ := hN
  rw [eN]
  refine ⟨N, rfl, by unfold small62; rw [decide_eq_true (by omega), decide_eq_true (by omega)]; rfl, ⟨_, _, _, _, _, _, _, _, rfl⟩, ?_, fun ρ2 _ => ⟨rfl, W.ret (W.c rfl)⟩⟩
  rintro jj d ρ hj ⟨x2, x3, x4, x5, x6, x7, x8, x9, rfl⟩
  obtain ⟨rfl, hj2⟩ := rangeD_get hj
  refine ⟨_, rfl, ?_⟩
  obtain ⟨a, b, ep, hp⟩ := dPot_ok (ns := ns) (k := (jj : Int)) (by omega) (by omega)
  have P0 : isPot 0 (.lst [.int a, .int b, .int 0]) := ⟨a, b, 0, rfl, hp, by decide⟩
  rw [hS] at ep
  refine W.seq (W.set (W.fn (W.cons (W.var rfl (W.cons (W.var rfl (W.nil ⟨_, ep, rfl, ?_⟩)))))))
  generalize (D.lst [.int a, .int b, .int 0]) = pot at P0
  show W _ [some S, some (.lst formK), some (.int jj), some pot, x4, x5, x6, x7, x8, x9] _
  refine W.for' (fun j ρ => ∃ o x4 x5 x6 x7 x8 x9, ρ = [some S, some (.lst formK), some (.int jj), some o, x4, x5, x6, x7, x8, x9] ∧ isPot (1100 * j) o) (W.seqL (W.var rfl ⟨_, .inl rfl, ⟨pot, _, _, _, _, _, _, rfl, P0.mono (by omega)⟩, ?_, ?_⟩))
  · rintro j d ρ hj ⟨o, x4, x5, x6, x7, x8, x9, rfl, P⟩
    have hj11 : j < 11 := (List.getElem?_eq_some_iff.mp hj).1
    obtain ⟨z, sg, rfl, hz, hs, hc⟩ := words_ok d (List.mem_of_getElem? hj)
    refine ⟨_, rfl, ?_⟩
    show W _ [some S, some (.lst formK), some (.int jj), some o, some (.str z), x5, x6, x7, x8, x9] _
    refine W.seq (W.set (W.draw rfl (W.cons (W.var rfl (W.nil ⟨1000, _, _, o, good_draws hz hs hc, rfl, P, by omega, ?_⟩)))))
    rintro _ o1 ⟨hd, r, rfl, hr⟩ P1
    refine ⟨rfl, ?_⟩
    show W _ [some S, some (.lst formK), some (.int jj), some o1, some (.str z), some (.tup r), x6, x7, x8, x9] _
    refine W.seq (W.set (W.bin (W.tup ?_)))
    refine W.cons (W.bin (W.var rfl (W.draw rfl (W.cons (W.c (W.nil ⟨1, _, _, o1, take_draws (by decide) (by decide), rfl, P1, by omega, ?_⟩))))))
    rintro _ o2 ⟨i, rfl, i0, i1⟩ P2
    obtain ⟨w2, ew, hw⟩ := atI_mem (ds := formK) 11 rfl i0 i1
    obtain ⟨z2, sg2, rfl, _⟩ := words_ok w2 hw
    have hlr := hd.len
    have c1 : dSl (.tup r) (some 1) none = some (.tup (r.drop 1)) := by
      show some (D.tup (cutL r (some 1) none)) = _
      rw [cutL_one]
    have ho : okd 9 (.tup ([.str z2] ++ r.drop 1)) := by
      refine okd.tup (k := 8) (fun x hx => ?_) (by simp; omega)
      rcases List.mem_append.mp hx with hx | hx
      · simp only [List.mem_singleton] at hx; subst hx; exact okd.str
      · exact hd.mem (List.mem_of_mem_drop hx)
    refine ⟨_, ew, W.nil ⟨Nat.le_of_ble_eq_true rfl, W.sl (W.var rfl (W.someI (W.c ⟨1, rfl, W.noneI ⟨_, c1, _, add_tup (by simp; omega), rfl, ?_⟩⟩)))⟩⟩
    generalize (D.tup ([.str z2] ++ r.drop 1)) = other at ho
    show W _ [some S, some (.lst formK), some (.int jj), some o2, some (.str z), some (.tup r), some other, x7, x8, x9] _
    refine W.seq (W.set (W.call0 odds_ok ⟨rfl, ?_⟩))
    show W _ [some S, some (.lst formK), some (.int jj), some o2, some (.str z), some (.tup r), some other, some (.lst oddsL), x8, x9] _
    have lenO : dLen [.lst oddsL] = some (.int 26) := rfl
    refine W.for' (fun _ ρ => ∃ o x8 x9, ρ = [some S, some (.lst formK), some (.int jj), some o, some (.str z), some (.tup r), some other, some (.lst oddsL), x8, x9] ∧ isPot (1100 * (j + 1)) o) (W.seqL (W.tup ?_))
    refine W.cons (W.var rfl ?_)
    refine W.cons (W.draw rfl (W.cons (W.var rfl (W.cons (W.c (W.nil ⟨_, _, _, o2, bent_draws 3 5 8 (.tup r) (by decide) hd (by decide), rfl, P2, by omega, ?_⟩))))))
    intro bt o3 hb P3
    refine W.cons (W.var rfl (W.cons (W.bin (W.var rfl (W.draw rfl (W.cons (W.fn (W.cons (W.var rfl (W.nil ⟨_, lenO, W.nil ⟨1, _, _, o3, take_draws (by decide) (by decide), rfl, P3, by omega, ?_⟩⟩))))))))))
    rintro _ o4 ⟨q, rfl, q0, q1⟩ P4
    obtain ⟨odd, eo, ho2⟩ := atI_mem (ds := oddsL) 26 rfl q0 q1
    have okO := odds_okd odd ho2
    refine ⟨odd, eo, W.nil ⟨Nat.le_of_ble_eq_true rfl, _, .inr rfl, ⟨o4, _, _, rfl, P4.mono (by omega)⟩, ?_, ?_⟩⟩
    · rintro j2 d ρ hj2 ⟨o5, y8, y9, rfl, P5⟩
      have hm := List.mem_of_getElem? hj2
      have hdd : okd 15 d := by
        simp only [List.mem_cons, List.not_mem_nil, or_false] at hm
        rcases hm with rfl | rfl | rfl | rfl
        · exact hd.mono (by decide)
        · exact hb
        · exact ho.mono (by decide)
        · exact okO.mono (by decide)
      refine ⟨_, rfl, ?_⟩
      show W _ [some S, some (.lst formK), some (.int jj), some o5, some (.str z), some (.tup r), some other, some (.lst oddsL), some d, y9] _
      have e1 := deed_ok hdd.1 (Nat.le_trans hdd.2.1 (by decide))
      have e2 := due_ok hdd.1 (Nat.le_trans hdd.2.1 (by decide))
      refine W.seq (W.set (W.call (W.cons (W.var rfl (W.nil ⟨_, _, e1, rfl, ?_⟩)))))
      generalize hbd : deedB d = bd at *
      show W _ [some S, some (.lst formK), some (.int jj), some o5, some (.str z), some (.tup r), some other, some (.lst oddsL), some d, some (.bl bd)] _
      have hi : dIsi "bool" (.bl bd) = some (.bl true) := isi_of (T := "bool") (d := .bl bd) rfl
      refine W.ite (W.or (W.not (W.b (W.un (W.var rfl ⟨_, hi, true, rfl, ?_⟩)))))
      refine W.b (W.bin (W.var rfl (W.call (W.cons (W.var rfl (W.nil ⟨_, _, e2, _, ne_bl bd, false, rfl, ?_⟩))))))
      exact W.pass ⟨.inl rfl, o5, _, _, rfl, P5⟩
    · rintro ρ2 ⟨o5, y8, y9, rfl, P5⟩
      exact ⟨.inl rfl, o5, _, _, _, _, _, _, rfl, P5.mono (by omega)⟩
  · rintro ρ2 ⟨o, y4, y5, y6, y7, y8, y9, rfl, P⟩
    exact ⟨.inl rfl, _, _, _, _, _, _, _, _, rfl⟩
theorem law_F (ns : List Int) (hl : ns.length ≤ 63) : F_law [.lst (ns.map .int)] = some (.ok (.bl true) .non) := fn_rt (law_W ns hl)
end K37
set_option maxHeartbeats 0
namespace K37
open PySem PySem.Spec PyProof.Rows L2 Bx
def spLaw (K : PySem.W.Frag) : Sp := fun vs H Q _ => ∃ (a : Addr) (ns : List Int), vs = [.ref a] ∧ SqL K H a (ns.map V.int) ∧ ns.length ≤ 63 ∧ ∀ H', Q (.bl true) H'
/-- no list stands in the written part -/
def noLists (K : PySem.W.Frag) : Bool := K.all fun p => !(p.2.cls == .type "list")
theorem noLists_of {K : PySem.W.Frag} (h : noLists K = true) {a : Addr} {o : Obj} (e : K.lookup a = some o) : o.cls ≠ .type "list" := by
  intro z
  have key : ∀ l : List (Addr × Obj), (l.all fun p => !(p.2.cls == .type "list")) = true → l.lookup a = some o → False := by
    intro l
    induction l with
    | nil => intro _ q; cases q
    | cons p r ih =>
      intro q1 q2
      obtain ⟨b, u⟩ := p
      rw [List.all_cons, Bool.and_eq_true] at q1
      rw [List.lookup_cons] at q2
      cases hb : (a == b) with
      | true =>
        rw [hb] at q2
        cases q2
        have := q1.1
        rw [z] at this
        revert this
        decide +kernel
      | false =>
        rw [hb] at q2
        exact ih q1.2 q2
  exact key K h e
section
variable {P : Program} {w : World} {K : PySem.W.Frag} {mg : Str → Option Value} {base : Heap}
theorem law_imp (T : Txt K mg) (nl : noLists K = true) (ht : ∀ ns : List Int, ns.length ≤ 63 → ∃ o, F_law [.lst (ns.map D.int)] = some (.ok (.bl true) o)) {vs : List V} {H : Hp} {Q : VK} {E : XK} (h : spLaw K vs H Q E) : spF (UU P w K T) none 1 F_law vs H Q E := by
  obtain ⟨a, ns, rfl, hS, hl, q⟩ := h
  obtain ⟨o, ho⟩ := ht ns hl
  refine ⟨fun _ => False, [.lst (ns.map D.int)], _, rfl, fun _ z => z.elim, ⟨rfl, fun j v d h1 h2 => ⟨fun _ => ?_, fun z => nomatch z⟩⟩, ho, fun v H' _ _ _ i => by rw [i.bl_inv]; exact q H'⟩
  cases j with
  | zero =>
    cases h1
    cases h2
    rcases hS with hS | ⟨ob, its, n, e, hc, _⟩
    · exact .lst hS (isAll_ints ns) (fun z => z)
    · exact absurd hc (noLists_of nl e)
  | succ j => cases h1
end
theorem law_FF : ∀ ns : List Int, ns.length ≤ 63 → ∃ o, F_law [.lst (ns.map D.int)] = some (.ok (.bl true) o) := fun ns hl => ⟨_, law_F ns hl⟩
theorem all_mk {l : PySem.W.OpenLaw} {w : World} {K : PySem.W.Frag} {h : Heap} {mg : Str → Option Value} {fa : Addr} (X : K.In h) (G : h.Ns mainGlobals mg) (hfa : mg "law" = some (.ref fa))
    {f0 : Addr} {od0 an0 : Option Addr} {sl0 : Array (Option Value)} {oc0 kV0 dc0 pm0 cd0 ct0 : Value}
    (a0 : PySem.W.nsIn K mainGlobals "is_whole" = some (some (.ref f0))) (l0 : K.lookup f0 = some ⟨oc0, od0, .func (PySem.W.fnOf "is_whole" "is_whole" (defArgs s_is_whole) (defBody s_is_whole) (defScope s_is_whole) .none kV0 dc0 pm0 an0 cd0 ct0), sl0⟩) (c0 : PySem.W.codeIn K cd0 "is_whole" = true) (k0 : PySem.W.keepIn K (.ref f0) = true)
    {f1 : Addr} {od1 an1 : Option Addr} {sl1 : Array (Option Value)} {oc1 kV1 dc1 pm1 cd1 ct1 : Value}
    (a1 : PySem.W.nsIn K mainGlobals "is_word" = some (some (.ref f1))) (l1 : K.lookup f1 = some ⟨oc1, od1, .func (PySem.W.fnOf "is_word" "is_word" (defArgs s_is_word) (defBody s_is_word) (defScope s_is_word) .none kV1 dc1 pm1 an1 cd1 ct1), sl1⟩) (c1 : PySem.W.codeIn K cd1 "is_word" = true) (k1 : PySem.W.keepIn K (.ref f1) = true)
    {f2 : Addr} {od2 an2 : Option Addr} {sl2 : Array (Option Value)} {oc2 kV2 dc2 pm2 cd2 ct2 : Value}
    (a2 : PySem.W.nsIn K mainGlobals "is_name" = some (some (.ref f2))) (l2 : K.lookup f2 = some ⟨oc2, od2, .func (PySem.W.fnOf "is_name" "is_name" (defArgs s_is_name) (defBody s_is_name) (defScope s_is_name) .none kV2 dc2 pm2 an2 cd2 ct2), sl2⟩) (c2 : PySem.W.codeIn K cd2 "is_name" = true) (k2 : PySem.W.keepIn K (.ref f2) = true)
    {f3 : Addr} {od3 an3 : Option Addr} {sl3 : Array (Option Value)} {oc3 kV3 dc3 pm3 cd3 ct3 : Value}
    (a3 : PySem.W.nsIn K mainGlobals "is_key" = some (some (.ref f3))) (l3 : K.lookup f3 = some ⟨oc3, od3, .func (PySem.W.fnOf "is_key" "is_key" (defArgs s_is_key) (defBody s_is_key) (defScope s_is_key) .none kV3 dc3 pm3 an3 cd3 ct3), sl3⟩) (c3 : PySem.W.codeIn K cd3 "is_key" = true) (k3 : PySem.W.keepIn K (.ref f3) = true)
    {f4 : Addr} {od4 an4 : Option Addr} {sl4 : Array (Option Value)} {oc4 kV4 dc4 pm4 cd4 ct4 : Value}
    (a4 : PySem.W.nsIn K mainGlobals "is_value" = some (some (.ref f4))) (l4 : K.lookup f4 = some ⟨oc4, od4, .func (PySem.W.fnOf "is_value" "is_value" (defArgs s_is_value) (defBody s_is_value) (defScope s_is_value) .none kV4 dc4 pm4 an4 cd4 ct4), sl4⟩) (c4 : PySem.W.codeIn K cd4 "is_value" = true) (k4 : PySem.W.keepIn K (.ref f4) = true)
    {f5 : Addr} {od5 an5 : Option Addr} {sl5 : Array (Option Value)} {oc5 kV5 dc5 pm5 cd5 ct5 : Value}
    (a5 : PySem.W.nsIn K mainGlobals "is_hand" = some (some (.ref f5))) (l5 : K.lookup f5 = some ⟨oc5, od5, .func (PySem.W.fnOf "is_hand" "is_hand" (defArgs s_is_hand) (defBody s_is_hand) (defScope s_is_hand) .none kV5 dc5 pm5 an5 cd5 ct5), sl5⟩) (c5 : PySem.W.codeIn K cd5 "is_hand" = true) (k5 : PySem.W.keepIn K (.ref f5) = true)
    {f6 : Addr} {od6 an6 : Option Addr} {sl6 : Array (Option Value)} {oc6 kV6 dc6 pm6 cd6 ct6 : Value}
    (a6 : PySem.W.nsIn K mainGlobals "is_kind" = some (some (.ref f6))) (l6 : K.lookup f6 = some ⟨oc6, od6, .func (PySem.W.fnOf "is_kind" "is_kind" (defArgs s_is_kind) (defBody s_is_kind) (defScope s_is_kind) .none kV6 dc6 pm6 an6 cd6 ct6), sl6⟩) (c6 : PySem.W.codeIn K cd6 "is_kind" = true) (k6 : PySem.W.keepIn K (.ref f6) = true)
    {f7 : Addr} {od7 an7 : Option Addr} {sl7 : Array (Option Value)} {oc7 kV7 dc7 pm7 cd7 ct7 : Value}
    (a7 : PySem.W.nsIn K mainGlobals "is_id" = some (some (.ref f7))) (l7 : K.lookup f7 = some ⟨oc7, od7, .func (PySem.W.fnOf "is_id" "is_id" (defArgs s_is_id) (defBody s_is_id) (defScope s_is_id) .none kV7 dc7 pm7 an7 cd7 ct7), sl7⟩) (c7 : PySem.W.codeIn K cd7 "is_id" = true) (k7 : PySem.W.keepIn K (.ref f7) = true)
    {f8 : Addr} {od8 an8 : Option Addr} {sl8 : Array (Option Value)} {oc8 kV8 dc8 pm8 cd8 ct8 : Value}
    (a8 : PySem.W.nsIn K mainGlobals "rises" = some (some (.ref f8))) (l8 : K.lookup f8 = some ⟨oc8, od8, .func (PySem.W.fnOf "rises" "rises" (defArgs s_rises) (defBody s_rises) (defScope s_rises) .none kV8 dc8 pm8 an8 cd8 ct8), sl8⟩) (c8 : PySem.W.codeIn K cd8 "rises" = true) (k8 : PySem.W.keepIn K (.ref f8) = true)
    {f9 : Addr} {od9 an9 : Option Addr} {sl9 : Array (Option Value)} {oc9 kV9 dc9 pm9 cd9 ct9 : Value}
    (a9 : PySem.W.nsIn K mainGlobals "is_deed_name" = some (some (.ref f9))) (l9 : K.lookup f9 = some ⟨oc9, od9, .func (PySem.W.fnOf "is_deed_name" "is_deed_name" (defArgs s_is_deed_name) (defBody s_is_deed_name) (defScope s_is_deed_name) .none kV9 dc9 pm9 an9 cd9 ct9), sl9⟩) (c9 : PySem.W.codeIn K cd9 "is_deed_name" = true) (k9 : PySem.W.keepIn K (.ref f9) = true)
    {f10 : Addr} {od10 an10 : Option Addr} {sl10 : Array (Option Value)} {oc10 kV10 dc10 pm10 cd10 ct10 : Value}
    (a10 : PySem.W.nsIn K mainGlobals "is_deed" = some (some (.ref f10))) (l10 : K.lookup f10 = some ⟨oc10, od10, .func (PySem.W.fnOf "is_deed" "is_deed" (defArgs s_is_deed) (defBody s_is_deed) (defScope s_is_deed) .none kV10 dc10 pm10 an10 cd10 ct10), sl10⟩) (c10 : PySem.W.codeIn K cd10 "is_deed" = true) (k10 : PySem.W.keepIn K (.ref f10) = true)
    {f11 : Addr} {od11 an11 : Option Addr} {sl11 : Array (Option Value)} {oc11 kV11 dc11 pm11 cd11 ct11 : Value}
    (a11 : PySem.W.nsIn K mainGlobals "_is_of_one" = some (some (.ref f11))) (l11 : K.lookup f11 = some ⟨oc11, od11, .func (PySem.W.fnOf "_is_of_one" "_is_of_one" (defArgs s__is_of_one) (defBody s__is_of_one) (defScope s__is_of_one) .none kV11 dc11 pm11 an11 cd11 ct11), sl11⟩) (c11 : PySem.W.codeIn K cd11 "_is_of_one" = true) (k11 : PySem.W.keepIn K (.ref f11) = true)
    {f12 : Addr} {od12 an12 : Option Addr} {sl12 : Array (Option Value)} {oc12 kV12 dc12 pm12 cd12 ct12 : Value}
    (a12 : PySem.W.nsIn K mainGlobals "_is_of_two" = some (some (.ref f12))) (l12 : K.lookup f12 = some ⟨oc12, od12, .func (PySem.W.fnOf "_is_of_two" "_is_of_two" (defArgs s__is_of_two) (defBody s__is_of_two) (defScope s__is_of_two) .none kV12 dc12 pm12 an12 cd12 ct12), sl12⟩) (c12 : PySem.W.codeIn K cd12 "_is_of_two" = true) (k12 : PySem.W.keepIn K (.ref f12) = true)
    {f13 : Addr} {od13 an13 : Option Addr} {sl13 : Array (Option Value)} {oc13 kV13 dc13 pm13 cd13 ct13 : Value}
    (a13 : PySem.W.nsIn K mainGlobals "_is_column" = some (some (.ref f13))) (l13 : K.lookup f13 = some ⟨oc13, od13, .func (PySem.W.fnOf "_is_column" "_is_column" (defArgs s__is_column) (defBody s__is_column) (defScope s__is_column) .none kV13 dc13 pm13 an13 cd13 ct13), sl13⟩) (c13 : PySem.W.codeIn K cd13 "_is_column" = true) (k13 : PySem.W.keepIn K (.ref f13) = true)
    {f14 : Addr} {od14 an14 : Option Addr} {sl14 : Array (Option Value)} {oc14 kV14 dc14 pm14 cd14 ct14 : Value}
    (a14 : PySem.W.nsIn K mainGlobals "_may_be_else" = some (some (.ref f14))) (l14 : K.lookup f14 = some ⟨oc14, od14, .func (PySem.W.fnOf "_may_be_else" "_may_be_else" (defArgs s__may_be_else) (defBody s__may_be_else) (defScope s__may_be_else) .none kV14 dc14 pm14 an14 cd14 ct14), sl14⟩) (c14 : PySem.W.codeIn K cd14 "_may_be_else" = true) (k14 : PySem.W.keepIn K (.ref f14) = true)
    {f15 : Addr} {od15 an15 : Option Addr} {sl15 : Array (Option Value)} {oc15 kV15 dc15 pm15 cd15 ct15 : Value}
    (a15 : PySem.W.nsIn K mainGlobals "_are_cells" = some (some (.ref f15))) (l15 : K.lookup f15 = some ⟨oc15, od15, .func (PySem.W.fnOf "_are_cells" "_are_cells" (defArgs s__are_cells) (defBody s__are_cells) (defScope s__are_cells) .none kV15 dc15 pm15 an15 cd15 ct15), sl15⟩) (c15 : PySem.W.codeIn K cd15 "_are_cells" = true) (k15 : PySem.W.keepIn K (.ref f15) = true)
    {f16 : Addr} {od16 an16 : Option Addr} {sl16 : Array (Option Value)} {oc16 kV16 dc16 pm16 cd16 ct16 : Value}
    (a16 : PySem.W.nsIn K mainGlobals "_is_cell" = some (some (.ref f16))) (l16 : K.lookup f16 = some ⟨oc16, od16, .func (PySem.W.fnOf "_is_cell" "_is_cell" (defArgs s__is_cell) (defBody s__is_cell) (defScope s__is_cell) .none kV16 dc16 pm16 an16 cd16 ct16), sl16⟩) (c16 : PySem.W.codeIn K cd16 "_is_cell" = true) (k16 : PySem.W.keepIn K (.ref f16) = true)
    {f17 : Addr} {od17 an17 : Option Addr} {sl17 : Array (Option Value)} {oc17 kV17 dc17 pm17 cd17 ct17 : Value}
    (a17 : PySem.W.nsIn K mainGlobals "_law_pot" = some (some (.ref f17))) (l17 : K.lookup f17 = some ⟨oc17, od17, .func (PySem.W.fnOf "_law_pot" "_law_pot" (defArgs s__law_pot) (defBody s__law_pot) (defScope s__law_pot) .none kV17 dc17 pm17 an17 cd17 ct17), sl17⟩) (c17 : PySem.W.codeIn K cd17 "_law_pot" = true) (k17 : PySem.W.keepIn K (.ref f17) = true)
    {f18 : Addr} {od18 an18 : Option Addr} {sl18 : Array (Option Value)} {oc18 kV18 dc18 pm18 cd18 ct18 : Value}
    (a18 : PySem.W.nsIn K mainGlobals "_law_take" = some (some (.ref f18))) (l18 : K.lookup f18 = some ⟨oc18, od18, .func (PySem.W.fnOf "_law_take" "_law_take" (defArgs s__law_take) (defBody s__law_take) (defScope s__law_take) .none kV18 dc18 pm18 an18 cd18 ct18), sl18⟩) (c18 : PySem.W.codeIn K cd18 "_law_take" = true) (k18 : PySem.W.keepIn K (.ref f18) = true)
    {f19 : Addr} {od19 an19 : Option Addr} {sl19 : Array (Option Value)} {oc19 kV19 dc19 pm19 cd19 ct19 : Value}
    (a19 : PySem.W.nsIn K mainGlobals "_law_whole" = some (some (.ref f19))) (l19 : K.lookup f19 = some ⟨oc19, od19, .func (PySem.W.fnOf "_law_whole" "_law_whole" (defArgs s__law_whole) (defBody s__law_whole) (defScope s__law_whole) .none kV19 dc19 pm19 an19 cd19 ct19), sl19⟩) (c19 : PySem.W.codeIn K cd19 "_law_whole" = true) (k19 : PySem.W.keepIn K (.ref f19) = true)
    {f20 : Addr} {od20 an20 : Option Addr} {sl20 : Array (Option Value)} {oc20 kV20 dc20 pm20 cd20 ct20 : Value}
    (a20 : PySem.W.nsIn K mainGlobals "_law_word" = some (some (.ref f20))) (l20 : K.lookup f20 = some ⟨oc20, od20, .func (PySem.W.fnOf "_law_word" "_law_word" (defArgs s__law_word) (defBody s__law_word) (defScope s__law_word) .none kV20 dc20 pm20 an20 cd20 ct20), sl20⟩) (c20 : PySem.W.codeIn K cd20 "_law_word" = true) (k20 : PySem.W.keepIn K (.ref f20) = true)
    {f21 : Addr} {od21 an21 : Option Addr} {sl21 : Array (Option Value)} {oc21 kV21 dc21 pm21 cd21 ct21 : Value}
    (a21 : PySem.W.nsIn K mainGlobals "_law_value" = some (some (.ref f21))) (l21 : K.lookup f21 = some ⟨oc21, od21, .func (PySem.W.fnOf "_law_value" "_law_value" (defArgs s__law_value) (defBody s__law_value) (defScope s__law_value) .none kV21 dc21 pm21 an21 cd21 ct21), sl21⟩) (c21 : PySem.W.codeIn K cd21 "_law_value" = true) (k21 : PySem.W.keepIn K (.ref f21) = true)
    {f22 : Addr} {od22 an22 : Option Addr} {sl22 : Array (Option Value)} {oc22 kV22 dc22 pm22 cd22 ct22 : Value}
    (a22 : PySem.W.nsIn K mainGlobals "_law_is_word" = some (some (.ref f22))) (l22 : K.lookup f22 = some ⟨oc22, od22, .func (PySem.W.fnOf "_law_is_word" "_law_is_word" (defArgs s__law_is_word) (defBody s__law_is_word) (defScope s__law_is_word) .none kV22 dc22 pm22 an22 cd22 ct22), sl22⟩) (c22 : PySem.W.codeIn K cd22 "_law_is_word" = true) (k22 : PySem.W.keepIn K (.ref f22) = true)
    {f23 : Addr} {od23 an23 : Option Addr} {sl23 : Array (Option Value)} {oc23 kV23 dc23 pm23 cd23 ct23 : Value}
    (a23 : PySem.W.nsIn K mainGlobals "_law_is_name" = some (some (.ref f23))) (l23 : K.lookup f23 = some ⟨oc23, od23, .func (PySem.W.fnOf "_law_is_name" "_law_is_name" (defArgs s__law_is_name) (defBody s__law_is_name) (defScope s__law_is_name) .none kV23 dc23 pm23 an23 cd23 ct23), sl23⟩) (c23 : PySem.W.codeIn K cd23 "_law_is_name" = true) (k23 : PySem.W.keepIn K (.ref f23) = true)
    {f24 : Addr} {od24 an24 : Option Addr} {sl24 : Array (Option Value)} {oc24 kV24 dc24 pm24 cd24 ct24 : Value}
    (a24 : PySem.W.nsIn K mainGlobals "_law_between" = some (some (.ref f24))) (l24 : K.lookup f24 = some ⟨oc24, od24, .func (PySem.W.fnOf "_law_between" "_law_between" (defArgs s__law_between) (defBody s__law_between) (defScope s__law_between) .none kV24 dc24 pm24 an24 cd24 ct24), sl24⟩) (c24 : PySem.W.codeIn K cd24 "_law_between" = true) (k24 : PySem.W.keepIn K (.ref f24) = true)
    {f25 : Addr} {od25 an25 : Option Addr} {sl25 : Array (Option Value)} {oc25 kV25 dc25 pm25 cd25 ct25 : Value}
    (a25 : PySem.W.nsIn K mainGlobals "_law_is_value" = some (some (.ref f25))) (l25 : K.lookup f25 = some ⟨oc25, od25, .func (PySem.W.fnOf "_law_is_value" "_law_is_value" (defArgs s__law_is_value) (defBody s__law_is_value) (defScope s__law_is_value) .none kV25 dc25 pm25 an25 cd25 ct25), sl25⟩) (c25 : PySem.W.codeIn K cd25 "_law_is_value" = true) (k25 : PySem.W.keepIn K (.ref f25) = true)
    {f26 : Addr} {od26 an26 : Option Addr} {sl26 : Array (Option Value)} {oc26 kV26 dc26 pm26 cd26 ct26 : Value}
    (a26 : PySem.W.nsIn K mainGlobals "_law_is_id" = some (some (.ref f26))) (l26 : K.lookup f26 = some ⟨oc26, od26, .func (PySem.W.fnOf "_law_is_id" "_law_is_id" (defArgs s__law_is_id) (defBody s__law_is_id) (defScope s__law_is_id) .none kV26 dc26 pm26 an26 cd26 ct26), sl26⟩) (c26 : PySem.W.codeIn K cd26 "_law_is_id" = true) (k26 : PySem.W.keepIn K (.ref f26) = true)
    {f27 : Addr} {od27 an27 : Option Addr} {sl27 : Array (Option Value)} {oc27 kV27 dc27 pm27 cd27 ct27 : Value}
    (a27 : PySem.W.nsIn K mainGlobals "_law_are_cells" = some (some (.ref f27))) (l27 : K.lookup f27 = some ⟨oc27, od27, .func (PySem.W.fnOf "_law_are_cells" "_law_are_cells" (defArgs s__law_are_cells) (defBody s__law_are_cells) (defScope s__law_are_cells) .none kV27 dc27 pm27 an27 cd27 ct27), sl27⟩) (c27 : PySem.W.codeIn K cd27 "_law_are_cells" = true) (k27 : PySem.W.keepIn K (.ref f27) = true)
    {f28 : Addr} {od28 an28 : Option Addr} {sl28 : Array (Option Value)} {oc28 kV28 dc28 pm28 cd28 ct28 : Value}
    (a28 : PySem.W.nsIn K mainGlobals "_law_is_part" = some (some (.ref f28))) (l28 : K.lookup f28 = some ⟨oc28, od28, .func (PySem.W.fnOf "_law_is_part" "_law_is_part" (defArgs s__law_is_part) (defBody s__law_is_part) (defScope s__law_is_part) .none kV28 dc28 pm28 an28 cd28 ct28), sl28⟩) (c28 : PySem.W.codeIn K cd28 "_law_is_part" = true) (k28 : PySem.W.keepIn K (.ref f28) = true)
    {f29 : Addr} {od29 an29 : Option Addr} {sl29 : Array (Option Value)} {oc29 kV29 dc29 pm29 cd29 ct29 : Value}
    (a29 : PySem.W.nsIn K mainGlobals "_law_forms" = some (some (.ref f29))) (l29 : K.lookup f29 = some ⟨oc29, od29, .func (PySem.W.fnOf "_law_forms" "_law_forms" (defArgs s__law_forms) (defBody s__law_forms) (defScope s__law_forms) .none kV29 dc29 pm29 an29 cd29 ct29), sl29⟩) (c29 : PySem.W.codeIn K cd29 "_law_forms" = true) (k29 : PySem.W.keepIn K (.ref f29) = true)
    {f30 : Addr} {od30 an30 : Option Addr} {sl30 : Array (Option Value)} {oc30 kV30 dc30 pm30 cd30 ct30 : Value}
    (a30 : PySem.W.nsIn K mainGlobals "_law_due" = some (some (.ref f30))) (l30 : K.lookup f30 = some ⟨oc30, od30, .func (PySem.W.fnOf "_law_due" "_law_due" (defArgs s__law_due) (defBody s__law_due) (defScope s__law_due) .none kV30 dc30 pm30 an30 cd30 ct30), sl30⟩) (c30 : PySem.W.codeIn K cd30 "_law_due" = true) (k30 : PySem.W.keepIn K (.ref f30) = true)
    {f31 : Addr} {od31 an31 : Option Addr} {sl31 : Array (Option Value)} {oc31 kV31 dc31 pm31 cd31 ct31 : Value}
    (a31 : PySem.W.nsIn K mainGlobals "_law_id" = some (some (.ref f31))) (l31 : K.lookup f31 = some ⟨oc31, od31, .func (PySem.W.fnOf "_law_id" "_law_id" (defArgs s__law_id) (defBody s__law_id) (defScope s__law_id) .none kV31 dc31 pm31 an31 cd31 ct31), sl31⟩) (c31 : PySem.W.codeIn K cd31 "_law_id" = true) (k31 : PySem.W.keepIn K (.ref f31) = true)
    {f32 : Addr} {od32 an32 : Option Addr} {sl32 : Array (Option Value)} {oc32 kV32 dc32 pm32 cd32 ct32 : Value}
    (a32 : PySem.W.nsIn K mainGlobals "_law_cells" = some (some (.ref f32))) (l32 : K.lookup f32 = some ⟨oc32, od32, .func (PySem.W.fnOf "_law_cells" "_law_cells" (defArgs s__law_cells) (defBody s__law_cells) (defScope s__law_cells) .none kV32 dc32 pm32 an32 cd32 ct32), sl32⟩) (c32 : PySem.W.codeIn K cd32 "_law_cells" = true) (k32 : PySem.W.keepIn K (.ref f32) = true)
    {f33 : Addr} {od33 an33 : Option Addr} {sl33 : Array (Option Value)} {oc33 kV33 dc33 pm33 cd33 ct33 : Value}
    (a33 : PySem.W.nsIn K mainGlobals "_law_part" = some (some (.ref f33))) (l33 : K.lookup f33 = some ⟨oc33, od33, .func (PySem.W.fnOf "_law_part" "_law_part" (defArgs s__law_part) (defBody s__law_part) (defScope s__law_part) .none kV33 dc33 pm33 an33 cd33 ct33), sl33⟩) (c33 : PySem.W.codeIn K cd33 "_law_part" = true) (k33 : PySem.W.keepIn K (.ref f33) = true)
    {f34 : Addr} {od34 an34 : Option Addr} {sl34 : Array (Option Value)} {oc34 kV34 dc34 pm34 cd34 ct34 : Value}
    (a34 : PySem.W.nsIn K mainGlobals "_law_good" = some (some (.ref f34))) (l34 : K.lookup f34 = some ⟨oc34, od34, .func (PySem.W.fnOf "_law_good" "_law_good" (defArgs s__law_good) (defBody s__law_good) (defScope s__law_good) .none kV34 dc34 pm34 an34 cd34 ct34), sl34⟩) (c34 : PySem.W.codeIn K cd34 "_law_good" = true) (k34 : PySem.W.keepIn K (.ref f34) = true)
    {f35 : Addr} {od35 an35 : Option Addr} {sl35 : Array (Option Value)} {oc35 kV35 dc35 pm35 cd35 ct35 : Value}
    (a35 : PySem.W.nsIn K mainGlobals "_law_odds" = some (some (.ref f35))) (l35 : K.lookup f35 = some ⟨oc35, od35, .func (PySem.W.fnOf "_law_odds" "_law_odds" (defArgs s__law_odds) (defBody s__law_odds) (defScope s__law_odds) .none kV35 dc35 pm35 an35 cd35 ct35), sl35⟩) (c35 : PySem.W.codeIn K cd35 "_law_odds" = true) (k35 : PySem.W.keepIn K (.ref f35) = true)
    {f36 : Addr} {od36 an36 : Option Addr} {sl36 : Array (Option Value)} {oc36 kV36 dc36 pm36 cd36 ct36 : Value}
    (a36 : PySem.W.nsIn K mainGlobals "_law_bent" = some (some (.ref f36))) (l36 : K.lookup f36 = some ⟨oc36, od36, .func (PySem.W.fnOf "_law_bent" "_law_bent" (defArgs s__law_bent) (defBody s__law_bent) (defScope s__law_bent) .none kV36 dc36 pm36 an36 cd36 ct36), sl36⟩) (c36 : PySem.W.codeIn K cd36 "_law_bent" = true) (k36 : PySem.W.keepIn K (.ref f36) = true)
    {f37 : Addr} {od37 an37 : Option Addr} {sl37 : Array (Option Value)} {oc37 kV37 dc37 pm37 cd37 ct37 : Value}
    (a37 : PySem.W.nsIn K mainGlobals "law" = some (some (.ref f37))) (l37 : K.lookup f37 = some ⟨oc37, od37, .func (PySem.W.fnOf "law" "law" (defArgs s_law) (defBody s_law) (defScope s_law) .none kV37 dc37 pm37 an37 cd37 ct37), sl37⟩) (c37 : PySem.W.codeIn K cd37 "law" = true) (k37 : PySem.W.keepIn K (.ref f37) = true)
    {u0 : Tok} (v0 : PySem.W.nsIn K mainGlobals "MOST_LETTERS" = some (some (.int 8 u0)))
    {u1 : Tok} (v1 : PySem.W.nsIn K mainGlobals "MOST_KEY" = some (some (.int 1000000000 u1)))
    {u2 : Tok} (v2 : PySem.W.nsIn K mainGlobals "MOST_VALUE" = some (some (.int 1000000000 u2)))
    {u3 : Tok} (v3 : PySem.W.nsIn K mainGlobals "MOST_HAND" = some (some (.int 7 u3)))
    {fc4 : Addr} {dc_4 : Option Addr} {nc4 : Nat} {sc4 : Array (Option Value)} {tc4_0 tc4_1 tc4_2 : Tok} (v4 : PySem.W.nsIn K mainGlobals "KINDS" = some (some (.ref fc4))) (lc4 : K.lookup fc4 = some ⟨.type "tuple", dc_4, .seq #[.str "number" tc4_0, .str "word" tc4_1, .str "any" tc4_2] nc4, sc4⟩)
    {u5 : Tok} (v5 : PySem.W.nsIn K mainGlobals "MOST_NUMBER" = some (some (.int 1000000 u5)))
    {u6 : Tok} (v6 : PySem.W.nsIn K mainGlobals "MOST_CELLS" = some (some (.int 6 u6)))
    (z0 : PySem.W.nsIn K mainGlobals "isinstance" = some none)
    (z1 : PySem.W.nsIn K mainGlobals "bool" = some none)
    (z2 : PySem.W.nsIn K mainGlobals "int" = some none)
    (z3 : PySem.W.nsIn K mainGlobals "str" = some none)
    (z4 : PySem.W.nsIn K mainGlobals "len" = some none)
    (z5 : PySem.W.nsIn K mainGlobals "tuple" = some none)
    (z6 : PySem.W.nsIn K mainGlobals "all" = some none)
    (z7 : PySem.W.nsIn K mainGlobals "zip" = some none)
    (z8 : PySem.W.nsIn K mainGlobals "abs" = some none)
    (z9 : PySem.W.nsIn K mainGlobals "range" = some none)
    (z10 : PySem.W.nsIn K mainGlobals "sorted" = some none)
    (z11 : PySem.W.nsIn K mainGlobals "list" = some none)
    (z12 : PySem.W.nsIn K mainGlobals "max" = some none)
    (z13 : PySem.W.nsIn K mainGlobals "min" = some none)
    (nl : noLists K = true)
    : ∃ fd : FuncData, (∀ (s : Shared) (v : Value), BindsTo s fd ⟨[v], []⟩ [("script", v)]) ∧ ∀ base : Heap, K.In base → base.Ns mainGlobals mg → FnOk l.prog w K mg base CX0 10 fa fd ["script"] (spLaw K) := by
  have e := hfa.symm.trans (PySem.W.mg_of X G a37)
  cases e
  have F0 := fun_mk (st := s_is_whole) l0 c0 k0
  have b0 := F0.binds (ps := ["thing", "low", "high"]) fun _ _ _ _ _ _ us hl => match us, hl with | [_, _, _], _ => rfl
  have F1 := fun_mk (st := s_is_word) l1 c1 k1
  have b1 := F1.binds (ps := ["thing"]) fun _ _ _ _ _ _ us hl => match us, hl with | [_], _ => rfl
  have F2 := fun_mk (st := s_is_name) l2 c2 k2
  have b2 := F2.binds (ps := ["thing"]) fun _ _ _ _ _ _ us hl => match us, hl with | [_], _ => rfl
  have F3 := fun_mk (st := s_is_key) l3 c3 k3
  have b3 := F3.binds (ps := ["thing"]) fun _ _ _ _ _ _ us hl => match us, hl with | [_], _ => rfl
  have F4 := fun_mk (st := s_is_value) l4 c4 k4
  have b4 := F4.binds (ps := ["thing"]) fun _ _ _ _ _ _ us hl => match us, hl with | [_], _ => rfl
  have F5 := fun_mk (st := s_is_hand) l5 c5 k5
  have b5 := F5.binds (ps := ["thing"]) fun _ _ _ _ _ _ us hl => match us, hl with | [_], _ => rfl
  have F6 := fun_mk (st := s_is_kind) l6 c6 k6
  have b6 := F6.binds (ps := ["thing"]) fun _ _ _ _ _ _ us hl => match us, hl with | [_], _ => rfl
  have F7 := fun_mk (st := s_is_id) l7 c7 k7
  have b7 := F7.binds (ps := ["thing"]) fun _ _ _ _ _ _ us hl => match us, hl with | [_], _ => rfl
  have F8 := fun_mk (st := s_rises) l8 c8 k8
  have b8 := F8.binds (ps := ["things"]) fun _ _ _ _ _ _ us hl => match us, hl with | [_], _ => rfl
  have F9 := fun_mk (st := s_is_deed_name) l9 c9 k9
  have b9 := F9.binds (ps := ["thing"]) fun _ _ _ _ _ _ us hl => match us, hl with | [_], _ => rfl
  have F10 := fun_mk (st := s_is_deed) l10 c10 k10
  have b10 := F10.binds (ps := ["thing"]) fun _ _ _ _ _ _ us hl => match us, hl with | [_], _ => rfl
  have F11 := fun_mk (st := s__is_of_one) l11 c11 k11
  have b11 := F11.binds (ps := ["word", "part"]) fun _ _ _ _ _ _ us hl => match us, hl with | [_, _], _ => rfl
  have F12 := fun_mk (st := s__is_of_two) l12 c12 k12
  have b12 := F12.binds (ps := ["word", "one", "two"]) fun _ _ _ _ _ _ us hl => match us, hl with | [_, _, _], _ => rfl
  have F13 := fun_mk (st := s__is_column) l13 c13 k13
  have b13 := F13.binds (ps := ["name", "kind", "value"]) fun _ _ _ _ _ _ us hl => match us, hl with | [_, _, _], _ => rfl
  have F14 := fun_mk (st := s__may_be_else) l14 c14 k14
  have b14 := F14.binds (ps := ["thing"]) fun _ _ _ _ _ _ us hl => match us, hl with | [_], _ => rfl
  have F15 := fun_mk (st := s__are_cells) l15 c15 k15
  have b15 := F15.binds (ps := ["thing"]) fun _ _ _ _ _ _ us hl => match us, hl with | [_], _ => rfl
  have F16 := fun_mk (st := s__is_cell) l16 c16 k16
  have b16 := F16.binds (ps := ["thing"]) fun _ _ _ _ _ _ us hl => match us, hl with | [_], _ => rfl
  have F17 := fun_mk (st := s__law_pot) l17 c17 k17
  have b17 := F17.binds (ps := ["script", "k"]) fun _ _ _ _ _ _ us hl => match us, hl with | [_, _], _ => rfl
  have F18 := fun_mk (st := s__law_take) l18 c18 k18
  have b18 := F18.binds (ps := ["pot", "many"]) fun _ _ _ _ _ _ us hl => match us, hl with | [_, _], _ => rfl
  have F19 := fun_mk (st := s__law_whole) l19 c19 k19
  have b19 := F19.binds (ps := ["found"]) fun _ _ _ _ _ _ us hl => match us, hl with | [_], _ => rfl
  have F20 := fun_mk (st := s__law_word) l20 c20 k20
  have b20 := F20.binds (ps := ["pot"]) fun _ _ _ _ _ _ us hl => match us, hl with | [_], _ => rfl
  have F21 := fun_mk (st := s__law_value) l21 c21 k21
  have b21 := F21.binds (ps := ["pot"]) fun _ _ _ _ _ _ us hl => match us, hl with | [_], _ => rfl
  have F22 := fun_mk (st := s__law_is_word) l22 c22 k22
  have b22 := F22.binds (ps := ["thing"]) fun _ _ _ _ _ _ us hl => match us, hl with | [_], _ => rfl
  have F23 := fun_mk (st := s__law_is_name) l23 c23 k23
  have b23 := F23.binds (ps := ["thing"]) fun _ _ _ _ _ _ us hl => match us, hl with | [_], _ => rfl
  have F24 := fun_mk (st := s__law_between) l24 c24 k24
  have b24 := F24.binds (ps := ["thing", "low", "high"]) fun _ _ _ _ _ _ us hl => match us, hl with | [_, _, _], _ => rfl
  have F25 := fun_mk (st := s__law_is_value) l25 c25 k25
  have b25 := F25.binds (ps := ["thing"]) fun _ _ _ _ _ _ us hl => match us, hl with | [_], _ => rfl
  have F26 := fun_mk (st := s__law_is_id) l26 c26 k26
  have b26 := F26.binds (ps := ["thing"]) fun _ _ _ _ _ _ us hl => match us, hl with | [_], _ => rfl
  have F27 := fun_mk (st := s__law_are_cells) l27 c27 k27
  have b27 := F27.binds (ps := ["thing"]) fun _ _ _ _ _ _ us hl => match us, hl with | [_], _ => rfl
  have F28 := fun_mk (st := s__law_is_part) l28 c28 k28
  have b28 := F28.binds (ps := ["sign", "thing"]) fun _ _ _ _ _ _ us hl => match us, hl with | [_, _], _ => rfl
  have F29 := fun_mk (st := s__law_forms) l29 c29 k29
  have b29 := F29.binds (ps := []) fun _ _ _ _ _ _ us hl => match us, hl with | [], _ => rfl
  have F30 := fun_mk (st := s__law_due) l30 c30 k30
  have b30 := F30.binds (ps := ["thing"]) fun _ _ _ _ _ _ us hl => match us, hl with | [_], _ => rfl
  have F31 := fun_mk (st := s__law_id) l31 c31 k31
  have b31 := F31.binds (ps := ["pot"]) fun _ _ _ _ _ _ us hl => match us, hl with | [_], _ => rfl
  have F32 := fun_mk (st := s__law_cells) l32 c32 k32
  have b32 := F32.binds (ps := ["pot"]) fun _ _ _ _ _ _ us hl => match us, hl with | [_], _ => rfl
  have F33 := fun_mk (st := s__law_part) l33 c33 k33
  have b33 := F33.binds (ps := ["pot", "sign"]) fun _ _ _ _ _ _ us hl => match us, hl with | [_, _], _ => rfl
  have F34 := fun_mk (st := s__law_good) l34 c34 k34
  have b34 := F34.binds (ps := ["pot", "word"]) fun _ _ _ _ _ _ us hl => match us, hl with | [_, _], _ => rfl
  have F35 := fun_mk (st := s__law_odds) l35 c35 k35
  have b35 := F35.binds (ps := []) fun _ _ _ _ _ _ us hl => match us, hl with | [], _ => rfl
  have F36 := fun_mk (st := s__law_bent) l36 c36 k36
  have b36 := F36.binds (ps := ["pot", "thing", "deep"]) fun _ _ _ _ _ _ us hl => match us, hl with | [_, _, _], _ => rfl
  have F37 := fun_mk (st := s_law) l37 c37 k37
  have b37 := F37.binds (ps := ["script"]) fun _ _ _ _ _ _ us hl => match us, hl with | [_], _ => rfl
  let T : Txt K mg := ⟨⟨f0, _, F0, PySem.W.mg_of X G a0, b0, f1, _, F1, PySem.W.mg_of X G a1, b1, f2, _, F2, PySem.W.mg_of X G a2, b2, f3, _, F3, PySem.W.mg_of X G a3, b3, f4, _, F4, PySem.W.mg_of X G a4, b4, f5, _, F5, PySem.W.mg_of X G a5, b5, f6, _, F6, PySem.W.mg_of X G a6, b6, f7, _, F7, PySem.W.mg_of X G a7, b7⟩, ⟨f8, _, F8, PySem.W.mg_of X G a8, b8, f9, _, F9, PySem.W.mg_of X G a9, b9, f10, _, F10, PySem.W.mg_of X G a10, b10, f11, _, F11, PySem.W.mg_of X G a11, b11, f12, _, F12, PySem.W.mg_of X G a12, b12, f13, _, F13, PySem.W.mg_of X G a13, b13, f14, _, F14, PySem.W.mg_of X G a14, b14, f15, _, F15, PySem.W.mg_of X G a15, b15⟩, ⟨f16, _, F16, PySem.W.mg_of X G a16, b16, f17, _, F17, PySem.W.mg_of X G a17, b17, f18, _, F18, PySem.W.mg_of X G a18, b18, f19, _, F19, PySem.W.mg_of X G a19, b19, f20, _, F20, PySem.W.mg_of X G a20, b20, f21, _, F21, PySem.W.mg_of X G a21, b21, f22, _, F22, PySem.W.mg_of X G a22, b22, f23, _, F23, PySem.W.mg_of X G a23, b23⟩, ⟨f24, _, F24, PySem.W.mg_of X G a24, b24, f25, _, F25, PySem.W.mg_of X G a25, b25, f26, _, F26, PySem.W.mg_of X G a26, b26, f27, _, F27, PySem.W.mg_of X G a27, b27, f28, _, F28, PySem.W.mg_of X G a28, b28, f29, _, F29, PySem.W.mg_of X G a29, b29, f30, _, F30, PySem.W.mg_of X G a30, b30, f31, _, F31, PySem.W.mg_of X G a31, b31⟩, ⟨f32, _, F32, PySem.W.mg_of X G a32, b32, f33, _, F33, PySem.W.mg_of X G a33, b33, f34, _, F34, PySem.W.mg_of X G a34, b34, f35, _, F35, PySem.W.mg_of X G a35, b35, f36, _, F36, PySem.W.mg_of X G a36, b36, fa, _, F37, PySem.W.mg_of X G a37, b37⟩, ⟨u0, PySem.W.mg_of X G v0, u1, PySem.W.mg_of X G v1, u2, PySem.W.mg_of X G v2, u3, PySem.W.mg_of X G v3, fc4, PySem.W.mg_of X G v4, fun _ => .inr ⟨_, _, _, lc4, rfl, rfl, (by decide : 3 ≤ sizeLine), (.cons ⟨_, rfl⟩ (.cons ⟨_, rfl⟩ (.cons ⟨_, rfl⟩ .nil)))⟩, u5, PySem.W.mg_of X G v5, u6, PySem.W.mg_of X G v6, PySem.W.mg_none_of X G z0, PySem.W.mg_none_of X G z1, PySem.W.mg_none_of X G z2, PySem.W.mg_none_of X G z3, PySem.W.mg_none_of X G z4, PySem.W.mg_none_of X G z5, PySem.W.mg_none_of X G z6, PySem.W.mg_none_of X G z7, PySem.W.mg_none_of X G z8, PySem.W.mg_none_of X G z9, PySem.W.mg_none_of X G z10, PySem.W.mg_none_of X G z11, PySem.W.mg_none_of X G z12, PySem.W.mg_none_of X G z13⟩⟩
  exact ⟨PySem.W.fnOf "law" "law" (defArgs s_law) (defBody s_law) (defScope s_law) .none kV37 dc37 pm37 an37 cd37 ct37, fun s v => .of_eq rfl, fun base _ _ => (ok_law (k := 0) T).imp fun _ _ _ _ h => law_imp T nl law_FF h⟩
end K37
open PySem PySem.W PyProof.Rows
set_option maxHeartbeats 0 in
theorem PySem.Challenge.cw_forkrolls_k37_forms_of_deeds_holds : PySem.Challenge.rw_forkrolls_k37_forms_of_deeds.Holds := by
  w_on; o_law; k_head; (case hw => w_witness2)
  k_fill
  refine L2.walk_of (l := PySem.Challenge.rw_forkrolls_k37_forms_of_deeds) (n := 63) (k := 10) (x := "script") (CX := fun _ => L2.CX0) (sp := fun w => K37.spLaw _) rfl (by decide) rfl ⟨rfl, by decide, by decide⟩ (fun w h Y => PySem.W.kIn_of Y) ?F (fun _ _ a ns hl _ hS => ⟨a, ns, rfl, hS, hl, fun _ => rfl⟩) (fun _ _ _ _ _ h => h)
  case F =>
    intro w mg fa h KX G hmg
    refine' K37.all_mk KX G hmg ?a0 ?l0 ?c0 ?k0 ?a1 ?l1 ?c1 ?k1 ?a2 ?l2 ?c2 ?k2 ?a3 ?l3 ?c3 ?k3 ?a4 ?l4 ?c4 ?k4 ?a5 ?l5 ?c5 ?k5 ?a6 ?l6 ?c6 ?k6 ?a7 ?l7 ?c7 ?k7 ?a8 ?l8 ?c8 ?k8 ?a9 ?l9 ?c9 ?k9 ?a10 ?l10 ?c10 ?k10 ?a11 ?l11 ?c11 ?k11 ?a12 ?l12 ?c12 ?k12 ?a13 ?l13 ?c13 ?k13 ?a14 ?l14 ?c14 ?k14 ?a15 ?l15 ?c15 ?k15 ?a16 ?l16 ?c16 ?k16 ?a17 ?l17 ?c17 ?k17 ?a18 ?l18 ?c18 ?k18 ?a19 ?l19 ?c19 ?k19 ?a20 ?l20 ?c20 ?k20 ?a21 ?l21 ?c21 ?k21 ?a22 ?l22 ?c22 ?k22 ?a23 ?l23 ?c23 ?k23 ?a24 ?l24 ?c24 ?k24 ?a25 ?l25 ?c25 ?k25 ?a26 ?l26 ?c26 ?k26 ?a27 ?l27 ?c27 ?k27 ?a28 ?l28 ?c28 ?k28 ?a29 ?l29 ?c29 ?k29 ?a30 ?l30 ?c30 ?k30 ?a31 ?l31 ?c31 ?k31 ?a32 ?l32 ?c32 ?k32 ?a33 ?l33 ?c33 ?k33 ?a34 ?l34 ?c34 ?k34 ?a35 ?l35 ?c35 ?k35 ?a36 ?l36 ?c36 ?k36 ?a37 ?l37 ?c37 ?k37 ?v0 ?v1 ?v2 ?v3 ?v4 ?lc4 ?v5 ?v6 ?z0 ?z1 ?z2 ?z3 ?z4 ?z5 ?z6 ?z7 ?z8 ?z9 ?z10 ?z11 ?z12 ?z13 ?nl
    (case a0 => k_is); (case l0 => k_is); (case c0 => k_is); (case k0 => k_is); (case a1 => k_is); (case l1 => k_is); (case c1 => k_is); (case k1 => k_is); (case a2 => k_is); (case l2 => k_is); (case c2 => k_is); (case k2 => k_is); (case a3 => k_is); (case l3 => k_is); (case c3 => k_is); (case k3 => k_is); (case a4 => k_is); (case l4 => k_is); (case c4 => k_is); (case k4 => k_is); (case a5 => k_is); (case l5 => k_is); (case c5 => k_is); (case k5 => k_is); (case a6 => k_is); (case l6 => k_is); (case c6 => k_is); (case k6 => k_is); (case a7 => k_is); (case l7 => k_is); (case c7 => k_is); (case k7 => k_is); (case a8 => k_is); (case l8 => k_is); (case c8 => k_is); (case k8 => k_is); (case a9 => k_is); (case l9 => k_is); (case c9 => k_is); (case k9 => k_is); (case a10 => k_is); (case l10 => k_is); (case c10 => k_is); (case k10 => k_is); (case a11 => k_is); (case l11 => k_is); (case c11 => k_is); (case k11 => k_is); (case a12 => k_is); (case l12 => k_is); (case c12 => k_is); (case k12 => k_is); (case a13 => k_is); (case l13 => k_is); (case c13 => k_is); (case k13 => k_is); (case a14 => k_is); (case l14 => k_is); (case c14 => k_is); (case k14 => k_is); (case a15 => k_is); (case l15 => k_is); (case c15 => k_is); (case k15 => k_is); (case a16 => k_is); (case l16 => k_is); (case c16 => k_is); (case k16 => k_is); (case a17 => k_is); (case l17 => k_is); (case c17 => k_is); (case k17 => k_is); (case a18 => k_is); (case l18 => k_is); (case c18 => k_is); (case k18 => k_is); (case a19 => k_is); (case l19 => k_is); (case c19 => k_is); (case k19 => k_is); (case a20 => k_is); (case l20 => k_is); (case c20 => k_is); (case k20 => k_is); (case a21 => k_is); (case l21 => k_is); (case c21 => k_is); (case k21 => k_is); (case a22 => k_is); (case l22 => k_is); (case c22 => k_is); (case k22 => k_is); (case a23 => k_is); (case l23 => k_is); (case c23 => k_is); (case k23 => k_is); (case a24 => k_is); (case l24 => k_is); (case c24 => k_is); (case k24 => k_is); (case a25 => k_is); (case l25 => k_is); (case c25 => k_is); (case k25 => k_is); (case a26 => k_is); (case l26 => k_is); (case c26 => k_is); (case k26 => k_is); (case a27 => k_is); (case l27 => k_is); (case c27 => k_is); (case k27 => k_is); (case a28 => k_is); (case l28 => k_is); (case c28 => k_is); (case k28 => k_is); (case a29 => k_is); (case l29 => k_is); (case c29 => k_is); (case k29 => k_is); (case a30 => k_is); (case l30 => k_is); (case c30 => k_is); (case k30 => k_is); (case a31 => k_is); (case l31 => k_is); (case c31 => k_is); (case k31 => k_is); (case a32 => k_is); (case l32 => k_is); (case c32 => k_is); (case k32 => k_is); (case a33 => k_is); (case l33 => k_is); (case c33 => k_is); (case k33 => k_is); (case a34 => k_is); (case l34 => k_is); (case c34 => k_is); (case k34 => k_is); (case a35 => k_is); (case l35 => k_is); (case c35 => k_is); (case k35 => k_is); (case a36 => k_is); (case l36 => k_is); (case c36 => k_is); (case k36 => k_is); (case a37 => k_is); (case l37 => k_is); (case c37 => k_is); (case k37 => k_is); (case v0 => k_is); (case v1 => k_is); (case v2 => k_is); (case v3 => k_is); (case v4 => k_is); (case lc4 => k_is); (case v5 => k_is); (case v6 => k_is); (case z0 => k_is); (case z1 => k_is); (case z2 => k_is); (case z3 => k_is); (case z4 => k_is); (case z5 => k_is); (case z6 => k_is); (case z7 => k_is); (case z8 => k_is); (case z9 => k_is); (case z10 => k_is); (case z11 => k_is); (case z12 => k_is); (case z13 => k_is); (case nl => exact Eq.refl true)
